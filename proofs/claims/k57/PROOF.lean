import PyProof.Rows.All
import Wide.All
import OpenK.AllK
import Wide.FinOn
import Lean
import PyProof.EqAt
import PyProof.EqKinds
import PyProof.NeKinds
import PyProof.TupleCall
import PyProof.SetRoads
import PyProof.SetNew
import PyProof.Rows.Range3
import KE.KRevSl
import PyProof.SliceStr2
import PyProof.ListStr
import PyProof.TupleOfStr
import PyProof.StrCalls
import KE.KDictOf
import PyProof.AttrMissHeap
import PyProof.Rows.SumAny
import PyProof.ConsumeWalk
import PyProof.SeqI3
import KE.KStar
import PyProof.SumWalkG
import PyProof.DictValues
import PyProof.ZipIter
import PyProof.Draws
import PyProof.DictIter
import PyProof.Rows.SortWalk
import PyProof.StrOps2
import PyProof.Rows.SetFrom
import PySem.Challenge.RW_dearsigns_k57_letters
set_option Elab.async false
set_option linter.all false
set_option maxRecDepth 100000
set_option maxHeartbeats 4000000
set_option exponentiation.threshold 5000
namespace HD
open PySem PySem.W PySem.Calls PyProof.Rows
noncomputable def bootT (P:Params):BT:=.node (boot_o_0 P) (.node (boot_o_1 P) (.node (boot_o_3 P) (.node (boot_o_7 P) .nil .nil) .nil) (.node (boot_o_5 P) (.node (boot_o_9 P) .nil .nil) .nil)) (.node (boot_o_2 P) (.node (boot_o_4 P) (.node (boot_o_8 P) .nil .nil) .nil) (.node (boot_o_6 P) (.node (boot_o_10 P) .nil .nil) .nil))
theorem size_boot (P:Params):((boot_heap P).isNs mainGlobals,(boot_heap P).objs.size,(boot_heap P).nsMap mainGlobals "__annotations__")=(true,11,some (.ref 6)):=by kernel_rfl
structure SM where
 T:BT
 n:Nat
 k:Nat
 D:List DictEntry
 pl:List Value
 nm:Value
noncomputable def key (P:Params) (x:Str) (t:Nat) (v:Value):DictEntry:=⟨PyData.keyHash P x,.str x t,v⟩
noncomputable def SM.put (s:SM) (o:Obj):SM:={s with T:=s.T.ins s.n o,n:=s.n + 1}
noncomputable def SM.puts (s:SM):List Obj→SM
 | []=>s
 | o :: r=>(s.put o).puts r
noncomputable def tup (vs:List Value):Obj:={cls:=.type "tuple",data:=.seq vs.toArray}
noncomputable def txts:List Str→Nat→List Value
 | [],_=>[]
 | x :: r,t=>.str x t :: txts r (t + 1)
noncomputable def theFile:Str:="/claim/cut.py"
structure CO where
 objs:List Obj
 k:Nat
 a:Nat
noncomputable def raw (n:Nat):Value:=.int n 0
noncomputable def codeObjs (n k:Nat) (name qual:Str) (line argc flags:Nat) (fn:Bool) (free:List Str) (pls:List Value) (loc:Option (List Str × List Str)) (tm:Option FuncData):CO:=
 let f:=free.length
 let o1:=[tup (txts free (k + 3)),{cls:=.none,data:=.fields pls.toArray}]
 let k1:=k + 3 + f
 let (o2,k2,n2,l,c):=match loc with
  | none=>([],k1,n + 2,Value.none,Value.none)
  | some (ls,cs)=>([tup (txts ls k1),tup (txts cs (k1 + ls.length))],k1 + ls.length + cs.length,n + 4,Value.ref (n + 2),Value.ref (n + 3))
 let (o3,n3,t):=match tm with
  | none=>([],n2,Value.none)
  | some fd=>([({cls:=.none,data:=.func fd}:Obj)],n2 + 1,Value.ref n2)
 {objs:=o1 ++ o2 ++ o3 ++ [{cls:=.type "code",data:=.fields #[.str name k,.str qual (k + 1),.str theFile (k + 2),raw line,raw argc,raw 0,raw 0,raw flags,.ref n,.bool fn,raw 181,.ref (n + 1),.none,l,c,t,raw k2,raw line,.str theFile (k2 + 1)]}]
  k:=k2 + 2
  a:=n3}
noncomputable def SM.store (P:Params) (s:SM) (x:Str) (v:Value):SM:=
 match s.D with
 | e :: r=>match Fast.sEq x "__name__" with
  | true=>{s with D:=⟨e.hash,e.key,v⟩ :: r,k:=s.k + 1,nm:=v}
  | false=>{s with D:=e :: r ++ [key P x s.k v],k:=s.k + 1}
 | []=>s
noncomputable def constVals:List Expr→Nat→List Value × Nat
 | .Constant (.int i) _ _ :: r,k=>let (vs,k'):=constVals r (k + 1); (.int i k :: vs,k')
 | .Constant (.str i) _ _ :: r,k=>let (vs,k'):=constVals r (k + 1); (.str i k :: vs,k')
 | .Constant (.bool b) _ _ :: r,k=>let (vs,k'):=constVals r k; (.bool b :: vs,k')
 | _ :: r,k=>let (vs,k'):=constVals r k; (.none :: vs,k')
 | [],k=>([],k)
noncomputable def templ (name qual:Str) (args:Arguments) (body:List Stmt) (scope:Scope):FuncData:=
 {name,qualname:=qual,params:=args,body:=.stmts body,scope,globals:=builtinsNs,closure:=[],defaults:=.none,kwdefaults:=.none}
noncomputable def simFn (P:Params) (s:SM) (name:Str) (args:Arguments) (body:List Stmt) (scope:Scope) (pos:Pos):SM:=
 let (dv,s):=match args.defaults with
  | []=>(Value.none,s)
  | d :: ds=>let (vs,k'):=constVals (d :: ds) s.k; (Value.ref s.n,({s with k:=k'}:SM).put (tup vs))
 let c:=codeObjs s.n s.k name name pos.line args.args.length 3 true [] [] (localNames args scope (.stmts body)) (some (templ name name args body scope))
 let s1:=s.puts c.objs
 let s2:SM:={s1 with k:=c.k,pl:=s1.pl ++ [raw pos.line,raw pos.col,.ref c.a]}
 let f:=s2.n
 let s3:=s2.put {cls:=.type "function",data:=.func {templ name name args body scope with globals:=mainNs,defaults:=dv,pyModule:=s.nm,code:=.ref c.a}}
 s3.store P name (.ref f)
noncomputable def findD (x:Str):List DictEntry→Value
 | []=>.none
 | e :: r=>match e.key with
  | .str y _=>match Fast.sEq x y with
   | true=>e.val
   | false=>findD x r
  | _=>findD x r
noncomputable def addSub (v:Value) (o:Obj):Obj:=match o.data with
 | .cls c=>{o with data:=.cls {c with subclasses:=c.subclasses ++ [v]}}
 | _=>o
structure IOb where
 objs:List Obj
 pls:List Value
 es:List DictEntry
 k:Nat
noncomputable def simInit (P:Params) (cell n k:Nat) (cn:Str) (nm:Value):List Stmt→IOb
 | .FunctionDef name args body _ _ _ scope _ _ pos :: _=>
  let qual:Str:=cn ++ "." ++ name
  let c:=codeObjs (n + 1) k name qual pos.line args.args.length 3 true ["__class__"] [] (localNames args scope (.stmts body)) (some (templ name qual args body scope))
  let f:=c.a + 1
  {objs:=tup [.ref cell] :: c.objs ++ [{cls:=.type "function",data:=.func {templ name qual args body scope with globals:=mainNs,closure:=[("__class__",cell)],pyModule:=nm,code:=.ref c.a,closureTuple:=.ref n}}]
   pls:=[raw pos.line,raw pos.col,.ref c.a]
   es:=[key P name c.k (.ref f)]
   k:=c.k + 1}
 | _=>⟨[],[],[],k⟩
noncomputable def excTypes:List Value:=[.type "ValueError",.type "Exception",.type "BaseException",.type "object"]
noncomputable def simCls (P:Params) (s:SM) (name base:Str) (body:List Stmt) (statics:List Str) (pos:Pos):SM:=
  let root:=Fast.sEq base "ValueError"
  let bv:Value:=match root with | true=>.type "ValueError" | false=>findD base s.D
  let own:=match body with | .FunctionDef .. :: _=>true | _=>false
  let (n,k):=(s.n,s.k)
  let nsA:=n + 2
  let c0:=match own with | true=>n + 4 | false=>n + 3
  let fr:=c0 + 3
  let i:=simInit P (n + 3) (fr + 1) (k + 12) name s.nm body
  let cc:=codeObjs c0 (k + 2) name name pos.line 0 0 false [] i.pls none none
  let a:=fr + 1 + i.objs.length
  let st:=i.k + statics.length
  let ns2:=a + 1
  let cls:=a + 2
  let e1:=key P "__module__" (k + 7) s.nm
  let e3:=key P "__firstlineno__" (k + 11) (.int pos.line (k + 10))
  let e5:=key P "__static_attributes__" st (.ref a)
  let (k5,cellE,cellO):=match own with
    | true=>(st + 2,[key P "__classcell__" (st + 1) (.ref (n + 3))],[({cls:=.type "cell",data:=.cell (some (.ref cls))}:Obj)])
    | false=>(st + 1,[],[])
  let (k6,weakE,weakO):=match root with
    | true=>(k5 + 2,[key P "__weakref__" (k5 + 1) (.ref (cls + 1))],[({cls:=.type "getset_descriptor",data:=.fields #[.str "__weakref__" k5,.ref cls,.builtin "ExceptionGroup.__weakref__",.none]}:Obj)])
    | false=>(k5,[],[])
  let nsE:=[e1,key P "__qualname__" (k + 9) (.str name (k + 8)),e3] ++ i.es ++ [e5] ++ cellE
  let ns2E:=[e1,e3] ++ i.es ++ [e5] ++ weakE ++ [key P "__doc__" k6 .none]
  let mro:=match root with | true=>Value.ref cls :: excTypes | false=>Value.ref cls :: bv :: excTypes
  let objs:List Obj:=[tup [bv],{cls:=.type "builtin_function_or_method",data:=.fields #[.builtin "type.__prepare__",.type "type"]},{cls:=.type "dict",data:=.dict nsE.toArray nsE.length}] ++ cellO ++ cc.objs ++
    [{cls:=.type "frame",slots:=#[some (.ref (c0 + 2)),some (.ref mainNs),some (.ref nsA),none,some s.nm,none,some (.ref builtinsNs)]}] ++ i.objs ++
    [tup (txts statics i.k),{cls:=.type "dict",data:=.dict ns2E.toArray (ns2E.length - 2)},
     {cls:=.type "type",data:=.cls {name,bases:=[bv],mro,ns:=ns2,qualname:=name},slots:=#[some (.ref n),none,some (.str name k),some (.str name (k + 8)),some (.builtin "ValueError.__new__"),some (.bool true)]}] ++ weakO ++
    [{cls:=.type "super",data:=.fields #[.ref cls,.ref cls,.ref cls]},{cls:=.type "builtin_function_or_method",data:=.fields #[.builtin "object.__init_subclass__",.ref cls]}]
  let s1:=s.puts objs
  let s2:SM:={s1 with k:=k6 + 2,pl:=s1.pl ++ [raw pos.line,raw pos.col,.ref (c0 + 2)],T:=match bv with | .ref b=>s1.T.set b (addSub (.ref cls)) | _=>s1.T}
  s2.store P name (.ref cls)
noncomputable def simOne (P:Params) (s:SM):Stmt→SM
 | .Assign (.Name x _ :: _) (.Constant (.str v) _ _) _=>({s with k:=s.k + 1}:SM).store P x (.str v s.k)
 | .Assign (.Name x _ :: _) (.Constant (.int v) _ _) _=>({s with k:=s.k + 1}:SM).store P x (.int v s.k)
 | .Assign (.Name x _ :: _) (.BinOp (.Constant (.int a) _ _) _ (.Constant (.int b) _ _) _) _=>({s with k:=s.k + 3}:SM).store P x (.int (a ^ b.toNat) (s.k + 2))
 | .Assign (.Name x _ :: _) (.Tuple es _ _) _=>let (vs,k'):=constVals es s.k; (({s with k:=k'}:SM).put (tup vs)).store P x (.ref s.n)
 | .FunctionDef name args body _ _ _ scope _ _ pos=>simFn P s name args body scope pos
 | .ClassDef name (.Name b _ :: _) _ body _ _ _ _ _ statics pos=>simCls P s name b body statics pos
 | _=>s
noncomputable def simAll (P:Params) (s:SM):List Stmt→SM
 | []=>s
 | x :: r=>simAll P (simOne P s x) r
noncomputable def endPos (p:Pos):Stmt→Pos
 | .Assign (.Name _ q :: _) _ _=>q
 | .FunctionDef _ _ _ _ _ _ _ _ _ q=>q
 | .ClassDef _ _ _ _ _ _ _ _ _ _ q=>q
 | _=>p
noncomputable def endPoses (p:Pos):List Stmt→Pos
 | []=>p
 | x :: r=>endPoses (endPos p x) r
noncomputable def sim0 (P:Params):SM:=
 SM.puts ⟨bootT P,11,187,[key P "__name__" 165 (.str "__main__" 164),key P "__doc__" 166 .none,key P "__package__" 167 .none,key P "__loader__" 168 (.builtin "__main__.__loader__#opaque"),key P "__spec__" 169 .none,key P "__annotations__" 170 (.ref 6),
  key P "__builtins__" 171 (.ref 4),key P "__file__" 173 (.str theFile 172),key P "__cached__" 174 .none],[],.str "__main__" 164⟩
  ((codeObjs 11 182 "<module>" "<module>" 1 0 0 false [] [] none none).objs ++ [{cls:=.type "frame",slots:=#[some (.ref 13),some (.ref mainNs),some (.ref mainNs),none,some (.str "__main__" 164),none,some (.ref builtinsNs)]}])
structure St where
 sim:Params→SM
 pos:Pos
noncomputable def SM.tree (s:SM):BT:=(s.T.set mainNs fun _=>{cls:=.type "dict",data:=.dict s.D.toArray s.D.length}).set 12 fun _=>{cls:=.none,data:=.fields s.pl.toArray}
noncomputable def St.at (S:St) (P:Params) (os:OsState):SharedT:=⟨(S.sim P).tree,(S.sim P).n,{},Array.mk [],boot_drawn,(S.sim P).k,os⟩
noncomputable def St.step (S:St) (l:List Stmt):St:=⟨fun P=>simAll P (S.sim P) l,endPoses S.pos l⟩
noncomputable def St0:St:=⟨sim0,⟨0,0,0,0⟩⟩
abbrev pos0:Pos:=⟨0,0,0,0⟩
noncomputable def envOf (p:Program):Env:={scope:=p.main.scope,locals:=mainNs,globals:=mainNs,cells:=[],code:=.ref 13,frame:=some 14}
noncomputable def cOf (p:Program):Code:=.body (behindTheImports p) (envOf p)
abbrev annO:Option Value:=some (.ref 6)
abbrev Piece (p:Program) (l:List Stmt) (m:Nat) (A B:St):Prop:=
 ∀w:World,(fun os=>segRunT treeTable p w 11 annO 1 m (A.at w.params os) (piecesOf l (envOf p) (cOf p) A.pos [topFrame pos0]))=fun os=>some (.next,B.at w.params os,cOf p,B.pos)
inductive Chain (p:Program):List Stmt→Nat→St→St→Prop
 | nil (S:St):Chain p [] 0 S S
 | cons {l r:List Stmt} {m n:Nat} {A B C:St} (h:Piece p l m A B) (t:Chain p r n B C):Chain p (l ++ r) (m + n) A C
theorem fin_run {tb:String→Option Builtin} {p:Program} {w:World} {n₀:Nat} {ann:Option Value} {c:Code} {pos q:Pos} (s:Shared):topRun tb p w n₀ ann 2 s ⟨doneF .next,c,pos,[topFrame q]⟩=some s:=by
 obtain ⟨a,b,d,e,f⟩:=s
 rfl
theorem chain_run {p:Program} {w:World} {os:OsState} {b:List Stmt} {n:Nat} {A C:St} (h:Chain p b n A C) :
  topRun treeTable p w 11 annO (n + 2) (A.at w.params os).abs (restOf b (envOf p) (cOf p) A.pos [topFrame pos0])=some (C.at w.params os).abs:=by
 induction h with
 | nil S=>exact piece_nil (fin_run _)
 | cons h _ ih=>
  have e:=segRun_of (congrFun (h w) os)
  rw [Nat.add_assoc]
  exact piece_app e ih
abbrev Pre (p:Program):Prop:=∀w:World,(fun os=>topGo treeTable p w 11 annO 12 ⟨boot_heap w.params,Array.mk [],boot_drawn,boot_toks,os⟩ (topStub p))=fun os=>some ((St0.at w.params os).abs,⟨denote treeTable (cOf p),cOf p,pos0,[topFrame pos0]⟩)
abbrev Blk (p:Program):Prop:=∀(w:World) (hp:Heap) (gs:Array GenState) (d:Drawn) (k:Nat) (os:OsState),
 segRun treeTable p w 11 annO 1 1 ⟨hp,gs,d,k,os⟩ (blockOf (behindTheImports p) (envOf p) (cOf p) pos0 [topFrame pos0])=some (.next,⟨hp,gs,d,k,os⟩,cOf p,pos0)
abbrev Look1 (p:Program) (C:St):Prop:=∀w:World,(fun os=>staticsOk (importedModules p.main.body) (boot_heap w.params) (C.at w.params os).abs.heap && namesBound p (C.at w.params os).abs.heap && gensDone (C.at w.params os).abs && laidKept (boot_heap w.params) (C.at w.params os).abs.heap)=fun _=>true
theorem left_cut {p q:Program} {loose:List Str} {Xt:Shared→Bool} {α:Type} {Yf:Shared→α} {Ya:World→α} {N n:Nat} {g0:Bool} {b:List Stmt} {C:St}
  (e:opening p=plainProg p.main.scope.names) (hN:Nat.ble 600 N=true) (f:∀s,fenceModules? p s=some s)
  (pre:Pre p) (blk:Blk p) (hb:behindTheImports p=b) (ch:Chain p b n St0 C) (le:Nat.ble (12 + (1 + (n + 2))) N=true)
  (k1:Look1 p C) (k2:∀w:World,(fun os=>openSeen q loose (importedModules p.main.body) Xt g0 (C.at w.params os).abs)=fun _=>openGood q loose) (k3:∀w:World,(fun os=>Yf (C.at w.params os).abs)=fun _=>Ya w) :
  LeftO p q loose Xt Yf Ya N g0:=fun w=>by
 obtain ⟨⟨hp,gs,d,k,os⟩,a,a'⟩:=Option.map_eq_some_iff.mp (boot_open e hN f w)
 obtain ⟨rfl,rfl,rfl,rfl⟩:hp=boot_heap w.params∧gs = #[]∧d=boot_drawn∧k=boot_toks:=by simpa using a'
 obtain ⟨z1,z2,z3⟩:_∧_∧_:=by simpa only [Prod.mk.injEq] using size_boot w.params
 have r1:=chain_run (w:=w) (os:=os) ch
 rw [← hb] at r1
 have r2:=piece_block (blk w _ _ _ _ _) r1
 have r3:=go_top (congrFun (pre w) os) r2
 have r':=topRun_mono (N - (12 + (1 + (n + 2)))) _ _ _ _ r3
 rw [show 12 + (1 + (n + 2)) + (N - (12 + (1 + (n + 2))))=N by have:=Nat.le_of_ble_eq_true le; omega] at r'
 have l1:=congrFun (k1 w) os
 have t:topFrom treeTable p w N ⟨boot_heap w.params,#[],boot_drawn,boot_toks,os⟩=some (C.at w.params os).abs:=by
  unfold topFrom
  dsimp only
  rw [z1,z2,z3,r']
  show (match staticsOk (importedModules p.main.body) (boot_heap w.params) (C.at w.params os).abs.heap && namesBound p (C.at w.params os).abs.heap && gensDone (C.at w.params os).abs && laidKept (boot_heap w.params) (C.at w.params os).abs.heap with | true=>_ | false=>_)=_
  rw [l1]
 unfold openEnds
 rw [a]
 show (topFrom treeTable p w N _).map _=_
 rw [t]
 exact congrArg some (Prod.ext (congrFun (k2 w) os) (congrFun (k3 w) os))
end HD
namespace HP
open PySem PySem.W HD
noncomputable def pq:Program:=PySem.Challenge.pw_dearsigns_k57_letters
theorem e1:opening pq=plainProg pq.main.scope.names:=by kernel_rfl
theorem e2 (s):fenceModules? pq s=some s:=by kernel_rfl
theorem pre:Pre pq:=fun w=>by kernel_rfl
theorem blk:Blk pq:=fun w _ _ _ _ _=>by kernel_rfl
noncomputable def b0:List Stmt:=behindTheImports pq
noncomputable def S0:St:=St0
noncomputable def l0:List Stmt:=b0.take 5
noncomputable def b1:List Stmt:=b0.drop 5
noncomputable def S1:St:=S0.step l0
theorem q0:Piece pq l0 835 S0 S1:=fun w=>by kernel_rfl
noncomputable def l1:List Stmt:=b1.take 4
noncomputable def b2:List Stmt:=b1.drop 4
noncomputable def S2:St:=S1.step l1
theorem q1:Piece pq l1 853 S1 S2:=fun w=>by kernel_rfl
noncomputable def l2:List Stmt:=b2.take 4
noncomputable def b3:List Stmt:=b2.drop 4
noncomputable def S3:St:=S2.step l2
theorem q2:Piece pq l2 949 S2 S3:=fun w=>by kernel_rfl
noncomputable def l3:List Stmt:=b3.take 12
noncomputable def b4:List Stmt:=b3.drop 12
noncomputable def S4:St:=S3.step l3
theorem q3:Piece pq l3 989 S3 S4:=fun w=>by kernel_rfl
noncomputable def l4:List Stmt:=b4.take 38
noncomputable def b5:List Stmt:=b4.drop 38
noncomputable def S5:St:=S4.step l4
theorem q4:Piece pq l4 983 S4 S5:=fun w=>by kernel_rfl
noncomputable def l5:List Stmt:=b5.take 1
noncomputable def S6:St:=S5.step l5
theorem q5:Piece pq l5 27 S5 S6:=fun w=>by kernel_rfl
theorem chain:Chain pq (l0 ++ (l1 ++ (l2 ++ (l3 ++ (l4 ++ (l5 ++ [])))))) (835 + (853 + (949 + (989 + (983 + (27 + (0))))))) S0 S6:=.cons q0 (.cons q1 (.cons q2 (.cons q3 (.cons q4 (.cons q5 (Chain.nil S6))))))
theorem body:behindTheImports pq=l0 ++ (l1 ++ (l2 ++ (l3 ++ (l4 ++ (l5 ++ []))))):=by kernel_rfl
theorem look1:Look1 pq S6:=fun w=>by kernel_rfl
end HP
namespace L2
open PySem PySem.Spec PyProof.Rows
abbrev Key:=Sum Int Str
def keyIs:Key→Value→Bool
 | .inl k,v=>Value.isInt k v
 | .inr x,v=>Value.isStrOf x v
def keyH (w:World):Key→Int
 | .inl k=>hashInt k
 | .inr x=>hashStr w x
theorem keyIs_shape:∀{k:Key} {v:Value},keyIs k v=true→(∃i t,k=Sum.inl i∧v=Value.int i t)∨(∃x t,k=Sum.inr x∧v=Value.str x t)
 | .inl i,v,h=>by
  obtain ⟨t,e⟩:=Value.isInt_shape (k:=i) (v:=v) h
  exact .inl ⟨i,t,rfl,e⟩
 | .inr x,v,h=>by
  obtain ⟨t,e⟩:=Value.isStrOf_shape (x:=x) (v:=v) h
  exact .inr ⟨x,t,rfl,e⟩
theorem keyIs_int (i:Int) (t:Tok):keyIs (.inl i) (.int i t)=true:=by simp [keyIs,Value.isInt]
theorem keyIs_str (x:Str) (t:Tok):keyIs (.inr x) (.str x t)=true:=by simp [keyIs,Value.isStrOf]
theorem key_ll (a b:Int):decide ((Sum.inl a:Key)=Sum.inl b)=(a == b):=by
 by_cases e:a=b
 ·subst e; simp
 ·have h:¬(Sum.inl a:Key)=Sum.inl b:=fun q=>e (Sum.inl.inj q)
  rw [decide_eq_false h]
  exact (beq_eq_false_iff_ne.mpr e).symm
theorem key_rr (a b:Str):decide ((Sum.inr a:Key)=Sum.inr b)=decide (a=b):=by
 by_cases e:a=b
 ·subst e; simp
 ·have h:¬(Sum.inr a:Key)=Sum.inr b:=fun q=>e (Sum.inr.inj q)
  rw [decide_eq_false h,decide_eq_false e]
theorem key_lr (a:Int) (b:Str):decide ((Sum.inl a:Key)=Sum.inr b)=false:=decide_eq_false (fun q=>nomatch q)
theorem key_rl (a:Str) (b:Int):decide ((Sum.inr a:Key)=Sum.inl b)=false:=decide_eq_false (fun q=>nomatch q)
def mixKind (prog:Program) (w:World):PySem.KeyKind prog w Key where
 is:=keyIs
 hash:=keyH w
 inj:=fun v a b ha hb=>by
  rcases keyIs_shape ha with ⟨i,t,rfl,rfl⟩ | ⟨x,t,rfl,rfl⟩
  ·rcases keyIs_shape hb with ⟨j,u,rfl,e⟩ | ⟨y,u,rfl,e⟩
   ·injection e with e1 _; rw [e1]
   ·exact nomatch e
  ·rcases keyIs_shape hb with ⟨j,u,rfl,e⟩ | ⟨y,u,rfl,e⟩
   ·exact nomatch e
   ·injection e with e1 _; rw [e1]
 byValue:=fun k v h=>by
  rcases keyIs_shape h with ⟨i,t,rfl,rfl⟩ | ⟨x,t,rfl,rfl⟩ <;> rfl
 pyHash:=fun hv h=>by
  rcases keyIs_shape hv with ⟨i,t,rfl,rfl⟩ | ⟨x,t,rfl,rfl⟩
  ·exact wpAny_pyHash_int h
  ·exact wpAny_pyHash_str h
 eqBool:=fun hu hv h=>by
  rcases keyIs_shape hu with ⟨i,t,rfl,rfl⟩ | ⟨x,t,rfl,rfl⟩
  ·rcases keyIs_shape hv with ⟨j,u,rfl,rfl⟩ | ⟨y,u,rfl,rfl⟩
   ·rw [key_ll] at h; exact wpAny_eqBool_int h
   ·rw [key_lr] at h; exact SeqAt.EqAt.int_str i t y u _ _ _ _ h
  ·rcases keyIs_shape hv with ⟨j,u,rfl,rfl⟩ | ⟨y,u,rfl,rfl⟩
   ·rw [key_rl] at h; exact SeqAt.EqAt.str_int x t j u _ _ _ _ h
   ·rw [key_rr] at h; exact wpAny_eqBool_str h
 «strs»:=fun k x t v h=>by
  rcases keyIs_shape h with ⟨i,u,rfl,e⟩ | ⟨y,u,rfl,e⟩
  ·exact nomatch e
  ·injection e with e1 _
   subst e1
   cases v <;> rfl
theorem mixKind_int (prog:Program) (w:World) (i:Int) (t:Tok):(mixKind prog w).is (.inl i) (.int i t)=true:=keyIs_int i t
theorem mixKind_str (prog:Program) (w:World) (x:Str) (t:Tok):(mixKind prog w).is (.inr x) (.str x t)=true:=keyIs_str x t
inductive V where
 | non | bl (b:Bool) | int (i:Int) | str (x:Str) | byt (b:Array UInt8) | flt (b:UInt64) | ref (a:Addr) | ty (n:String)
 deriving DecidableEq
def RelV:V→Value→Prop
 | .non,u=>u=Value.none
 | .bl b,u=>u=Value.bool b
 | .int i,u=>∃t,u=Value.int i t
 | .str x,u=>∃t,u=Value.str x t
 | .byt b,u=>∃t,u=Value.bytes b t
 | .flt b,u=>∃t,u=Value.float b t
 | .ref a,u=>u=Value.ref a
 | .ty n,u=>u=Value.type n
abbrev Vals:List V→List Value→Prop:=Paired RelV
theorem Vals.length {xs:List V} {us:List Value} (r:Vals xs us):xs.length=us.length:=Paired.length r
theorem Vals.get:∀{xs:List V} {us:List Value} {i:Nat} {x:V},Vals xs us→xs[i]? = some x→∃u,us[i]? = some u∧RelV x u
 | _,_,_,_,.nil,e=>by simp at e
 | _,_,0,_,.cons r _,e=>by simp at e; subst e; exact ⟨_,rfl,r⟩
 | _,_,i + 1,x,.cons _ t,e=>by
  obtain ⟨u,h1,h2⟩:=Vals.get (i:=i) (x:=x) t (by simpa using e)
  exact ⟨u,by simpa using h1,h2⟩
theorem Vals.append:∀{xs ys:List V} {us ws:List Value},Vals xs us→Vals ys ws→Vals (xs ++ ys) (us ++ ws)
 | _,_,_,_,.nil,s=>s
 | _,_,_,_,.cons r t,s=>.cons r (Vals.append t s)
theorem Vals.take:∀{xs:List V} {us:List Value} (n:Nat),Vals xs us→Vals (xs.take n) (us.take n)
 | _,_,0,_=>.nil
 | _,_,_ + 1,.nil=>.nil
 | _,_,n + 1,.cons r t=>.cons r (Vals.take n t)
theorem Vals.drop:∀{xs:List V} {us:List Value} (n:Nat),Vals xs us→Vals (xs.drop n) (us.drop n)
 | _,_,0,r=>r
 | _,_,_ + 1,.nil=>.nil
 | _,_,n + 1,.cons _ t=>Vals.drop n t
def RelO:Option V→Option Value→Prop
 | some v,some u=>RelV v u
 | none,none=>True
 | _,_=>False
def KV {κ:Type}:List (κ × V)→List (κ × Value)→Prop:=Paired fun (p:κ × V) (q:κ × Value)=>p.1=q.1∧RelV p.2 q.2
def kV:Key→V
 | .inl i=>.int i
 | .inr x=>.str x
inductive HO where
  | lst (xs:List V)
  | tup (xs:List V)
  | dK (kvs:List (Key × V)) | dT (kvs:List (List Key × V))
  | set (S:Int→Bool) (n:Nat)
  | ins (C dx:Addr) (fs:List (Str × V))
  | own (x:Addr)
  | xd (fs:List (Str × V))
  | met (f x:Addr)
  | rng (lo hi:Int)
  | frz (o:Obj) (u:HO)
  | tbl (ps:Array Value)
  | ext (φ:Heap→Prop)
abbrev Hp:=Addr→Option HO
def upd (H:Hp) (a:Addr) (o:HO):Hp:=fun b=>if b=a then some o else H b
theorem upd_same {H:Hp} {a:Addr} {o:HO}:upd H a o a=some o:=by unfold upd; rw [if_pos rfl]
theorem upd_ne {H:Hp} {a b:Addr} {o:HO} (h:b≠a):upd H a o b=H b:=by unfold upd; rw [if_neg h]
theorem ne_of_none {H:Hp} {a b:Addr} {o:HO} (h:H a=some o) (h':H b=none):a≠b:=by
 intro e; subst e; rw [h] at h'; cases h'
section
variable (P:Program) (w:World)
def ObjOk (H:Hp) (h:Heap) (a:Addr):HO→Prop
 | .lst xs=>xs.length≤sizeLine∧∃(its:List Value) (n:Nat),Vals xs its∧h.get? a=some {cls:=.type "list",data:=.seq its.toArray n}
 | .tup xs=>xs.length≤sizeLine∧∃its:List Value,Vals xs its∧IsTup h a its.toArray
 | .dK kvs=>kvs.length≤sizeLine∧(a == sysModules)=false∧∃vs,KV kvs vs∧h.DictOf (mixKind P w) a vs
 | .dT kvs=>kvs.length≤sizeLine∧(a == sysModules)=false∧∃xs:List (List Key × Addr × Value),
   Paired (fun (p:List Key × V) (q:List Key × Addr × Value)=>p.1=q.1∧H q.2.1=some (.tup (p.1.map kV))∧RelV p.2 q.2.2) kvs xs∧
   ∃o es ep,h.get? a=some o∧o.ExactDict∧o.data = .dict es ep∧es.toList=xs.map (entryOfKey (tupleKind (mixKind P w)))∧(xs.map (·.1)).Nodup
 | .set S n=>h.SetOf (intKind P w) a S n
 | .ins C dx fs=>H dx=some (.own a)∧fs.length≤1000∧dx≠a∧h.get? a=some (PySem.W.instObj C dx)∧
   ∃mA,h.Ns1 dx mA∧(∀f,RelO (fs.lookup f) (mA f))∧PySem.Within mA (fs.map (·.1))
 | .own _=>∃o,h.get? a=some o
 | .xd fs=>∃mA,h.Ns1 a mA∧∀f,RelO (fs.lookup f) (mA f)
 | .rng lo hi=>∃t u v,h.get? a=some {cls:=.type "range",data:=.fields #[.int lo t,.int hi u,.int 1 v]}
 | .frz o u=>h.get? a=some o∧ObjOk H h a u
 | .tbl ps=>h.get? a=some {cls:=.none,data:=.fields ps}
 | .met f x=>h.get? a=some (PySem.W.methodObj (.ref f) (.ref x))
 | .ext φ=>φ h∧(∃o,h.get? a=some o)∧∀h1 h2:Heap,φ h1→(∀o,h1.get? a=some o→h2.get? a=some o)→φ h2
def HOk (H:Hp) (h:Heap):Prop:=∀a o,H a=some o→ObjOk P w H h a o
end
section
variable {P:Program} {w:World} {H H':Hp} {h h':Heap} {a:Addr} {o:HO}
theorem ObjOk.lt (x:ObjOk P w H h a o):a < h.objs.size:=by
 cases o with
 | lst xs=>obtain ⟨_,_,_,_,e⟩:=x; exact Heap.lt_size e
 | tup xs=>obtain ⟨_,_,_,p⟩:=x; exact p.lt
 | dK kvs=>obtain ⟨_,_,_,_,o,_,_,e,_⟩:=x; exact Heap.lt_size e
 | dT kvs=>obtain ⟨_,_,_,_,o,_,_,e,_⟩:=x; exact Heap.lt_size e
 | set S n=>obtain ⟨o,_,_,_,e,_⟩:=x; exact Heap.lt_size e
 | ins C dx fs=>obtain ⟨_,_,_,e,_⟩:=x; exact Heap.lt_size e
 | own y=>obtain ⟨_,e⟩:=x; exact Heap.lt_size e
 | xd fs=>obtain ⟨_,⟨_,_,_,e,_⟩,_⟩:=x; exact Heap.lt_size e
 | rng lo hi=>obtain ⟨_,_,_,e⟩:=x; exact Heap.lt_size e
 | frz ob u=>obtain ⟨e,_⟩:=x; exact Heap.lt_size e
 | tbl ps=>exact Heap.lt_size (show h.get? a=some _ from x)
 | met f y=>exact Heap.lt_size (show h.get? a=some _ from x)
 | ext φ=>obtain ⟨_,⟨_,e⟩,_⟩:=x; exact Heap.lt_size e
theorem Paired.mapP {α β:Type} {F G:α→β→Prop}:∀{l₁:List α} {l₂:List β},Paired F l₁ l₂→(∀a b,F a b→G a b)→Paired G l₁ l₂
 | _,_,.nil,_=>.nil
 | _,_,.cons r t,f=>.cons (f _ _ r) (Paired.mapP t f)
theorem ObjOk.stay (x:ObjOk P w H h a o) (k:∀b u,(b=a∨H b=some (.own a))→h.get? b=some u→h'.get? b=some u)
  (ho:∀b,H b=some (.own a)→H' b=some (.own a)) (ht:∀b xs,H b=some (.tup xs)→H' b=some (.tup xs)):ObjOk P w H' h' a o:=by
 induction o with
 | lst xs=>obtain ⟨z,its,n,r,e⟩:=x; exact ⟨z,its,n,r,k _ _ (.inl rfl) e⟩
 | tup xs=>obtain ⟨z,its,r,ob,e,c⟩:=x; exact ⟨z,its,r,ob,k _ _ (.inl rfl) e,c⟩
 | dK kvs=>obtain ⟨z,y,vs,r,ob,es,ep,e,c⟩:=x; exact ⟨z,y,vs,r,ob,es,ep,k _ _ (.inl rfl) e,c⟩
 | dT kvs=>
  obtain ⟨z,y,xs,r,ob,es,ep,e,c⟩:=x
  exact ⟨z,y,xs,Paired.mapP r fun p q z=>⟨z.1,ht _ _ z.2.1,z.2.2⟩,ob,es,ep,k _ _ (.inl rfl) e,c⟩
 | set S n=>obtain ⟨ob,es,ep,t,e,c⟩:=x; exact ⟨ob,es,ep,t,k _ _ (.inl rfl) e,c⟩
 | ins C dx fs=>
  obtain ⟨d,z,ne,e,mA,⟨od,es,ep,e2,c⟩,r⟩:=x
  exact ⟨ho _ d,z,ne,k _ _ (.inl rfl) e,mA,⟨od,es,ep,k _ _ (.inr d) e2,c⟩,r⟩
 | own y=>obtain ⟨ob,e⟩:=x; exact ⟨ob,k _ _ (.inl rfl) e⟩
 | xd fs=>obtain ⟨mA,⟨od,es,ep,e,c⟩,r⟩:=x; exact ⟨mA,⟨od,es,ep,k _ _ (.inl rfl) e,c⟩,r⟩
 | rng lo hi=>obtain ⟨t,u,v,e⟩:=x; exact ⟨t,u,v,k _ _ (.inl rfl) e⟩
 | frz ob u ih=>obtain ⟨e,q⟩:=x; exact ⟨k _ _ (.inl rfl) e,ih q⟩
 | tbl ps=>
  have e:h.get? a=some {cls:=.none,data:=.fields ps}:=x
  show h'.get? a=some {cls:=.none,data:=.fields ps}
  exact k a _ (.inl rfl) e
 | met f y=>
  have e:h.get? a=some (PySem.W.methodObj (.ref f) (.ref y)):=x
  show h'.get? a=some (PySem.W.methodObj (.ref f) (.ref y))
  exact k a _ (.inl rfl) e
 | ext φ=>obtain ⟨p,⟨o,e⟩,st⟩:=x; exact ⟨st _ _ p fun o q=>k _ _ (.inl rfl) q,⟨o,k _ _ (.inl rfl) e⟩,st⟩
theorem HOk.lt (x:HOk P w H h) (e:H a=some o):a < h.objs.size:=(x a o e).lt
theorem HOk.fresh (x:HOk P w H h) (e:h.objs.size≤a):H a=none:=by
 cases q:H a with
 | none=>rfl
 | some u=>exact absurd (Nat.lt_of_lt_of_le (x.lt q) e) (Nat.lt_irrefl _)
theorem HOk.kept (x:HOk P w H h) (k:∀b u,h.get? b=some u→h'.get? b=some u):HOk P w H h':=fun a o e=>
 (x a o e).stay (fun b u _ q=>k b u q) (fun _ q=>q) fun _ _ q=>q
theorem HOk.laid (x:HOk P w H h) (k:∀b u,h.get? b=some u→h'.get? b=some u) (hp:h.objs.size≤a) (new:ObjOk P w (upd H a o) h' a o):HOk P w (upd H a o) h':=fun b u e=>by
 have hn:=x.fresh hp
 by_cases hb:b=a
 ·subst hb; rw [upd_same] at e; cases e; exact new
 ·rw [upd_ne hb] at e
  exact (x b u e).stay (fun c v _ q=>k c v q) (fun c q=>by rw [upd_ne (ne_of_none q hn)]; exact q) fun c xs q=>by rw [upd_ne (ne_of_none q hn)]; exact q
end
def Rd (H:Hp) (a:Addr) (u:HO):Prop:=H a=some u∨∃o,H a=some (.frz o u)
theorem Rd.ok {P:Program} {w:World} {H:Hp} {h:Heap} {a:Addr} {u:HO} (r:Rd H a u) (x:HOk P w H h):ObjOk P w H h a u:=by
 rcases r with r | ⟨o,r⟩
 ·exact x a u r
 ·obtain ⟨_,q⟩:=x a _ r
  exact q
def Mut:Option HO→Prop
 | some (.lst _)=>True
 | some (.dK _)=>True
 | some (.dT _)=>True
 | some (.set _ _)=>True
 | some (.ins _ _ _)=>True
 | some (.ext _)=>True
 | _=>False
section
variable {P:Program} {w:World} {H:Hp} {h h':Heap} {x e:Addr} {o':HO}
theorem HOk.write (ok:HOk P w H h) (mu:Mut (H x)) (he:e=x∨H e=some (.own x)) (k:∀b u,b≠e→h.get? b=some u→h'.get? b=some u) (heo:∃u,h'.get? e=some u)
  (new:ObjOk P w (upd H x o') h' x o'):HOk P w (upd H x o') h':=fun b u q=>by
 have nown:∀c y,H c=some (.own y)→c≠x:=fun c y r z=>by subst z; rw [r] at mu; exact mu
 have ntup:∀c xs,H c=some (.tup xs)→c≠x:=fun c xs r z=>by subst z; rw [r] at mu; exact mu
 by_cases hb:b=x
 ·subst hb; rw [upd_same] at q; cases q; exact new
 ·rw [upd_ne hb] at q
  by_cases hbe:b=e
  ·have q':H b=some (.own x):=by
    rcases he with z | z
    ·exact absurd (hbe.trans z) hb
    ·rw [hbe]; exact z
   rw [q] at q'; cases q'
   obtain ⟨v,hv⟩:=heo
   exact ⟨v,by rw [hbe]; exact hv⟩
  ·refine (ok b u q).stay (fun c v hc r=>k c v ?_ r) (fun c r=>by rw [upd_ne (nown c b r)]; exact r) fun c xs r=>by rw [upd_ne (ntup c xs r)]; exact r
   rcases hc with rfl | hc
   ·exact hbe
   ·rintro rfl
    rcases he with z | z
    ·exact nown c b hc z
    ·rw [hc] at z; cases z; exact hb rfl
end
structure Un (fs ex:List Addr) (H H':Hp) (h h':Heap):Prop where
 keep:∀b o,h.get? b=some o→H b=none→b∉fs→b∉ex→h'.get? b=some o
 slot:∀b o,h.get? b=some o→H b=none→b∈fs→b∉ex→∃sl,h'.get? b=some {o with slots:=sl}
 free:∀b o,h.get? b=some o→H b=none→b∉ex→H' b=none
 there:∀b o,h.get? b=some o→b∉ex→∃o',h'.get? b=some o'
 tups:∀b xs,H b=some (.tup xs)→H' b=some (.tup xs)
 frzs:∀b o u,H b=some (.frz o u)→H' b=some (.frz o u)
 tbls:∀b ps,H b=some (.tbl ps)→∃more,H' b=some (.tbl (ps ++ more))
section
variable {fs fs' ex ex':List Addr} {H H1 H2:Hp} {h h1 h2 h':Heap} {a x e:Addr} {o:HO}
theorem Un.any (u:Un fs ex H H1 h h1) {b:Addr} {ob:Obj} (q:h.get? b=some ob) (n:H b=none) (hx:b∉ex):∃sl,h1.get? b=some {ob with slots:=sl}:=by
 by_cases hb:b∈fs
 ·exact u.slot b ob q n hb hx
 ·exact ⟨ob.slots,u.keep b ob q n hb hx⟩
theorem Un.trans (a:Un fs ex H H1 h h1) (b:Un fs ex H1 H2 h1 h2):Un fs ex H H2 h h2 where
 keep:=fun c ob q n hc hx=>b.keep c ob (a.keep c ob q n hc hx) (a.free c ob q n hx) hc hx
 slot:=fun c ob q n hc hx=>by
  obtain ⟨sl,e1⟩:=a.slot c ob q n hc hx
  obtain ⟨sl',e2⟩:=b.slot c _ e1 (a.free c ob q n hx) hc hx
  exact ⟨sl',e2⟩
 free:=fun c ob q n hx=>by
  obtain ⟨o',e1⟩:=a.there c ob q hx
  exact b.free c o' e1 (a.free c ob q n hx) hx
 there:=fun c ob q hx=>by
  obtain ⟨o',e1⟩:=a.there c ob q hx
  exact b.there c o' e1 hx
 tups:=fun c xs q=>b.tups c xs (a.tups c xs q)
 frzs:=fun c ob xs q=>b.frzs c ob xs (a.frzs c ob xs q)
 tbls:=fun c ps q=>by
  obtain ⟨m1,e1⟩:=a.tbls c ps q
  obtain ⟨m2,e2⟩:=b.tbls c _ e1
  exact ⟨m1 ++ m2,by rw [e2,Array.append_assoc]⟩
theorem Un.kept (k:∀b u,h.get? b=some u→h'.get? b=some u):Un fs ex H H h h':=
 ⟨fun b ob q _ _ _=>k b ob q,fun b ob q _ _ _=>⟨ob.slots,k b ob q⟩,fun _ _ _ n _=>n,fun b ob q _=>⟨ob,k b ob q⟩,fun _ _ q=>q,fun _ _ _ q=>q,fun _ ps q=>⟨#[],by rw [q]; simp⟩⟩
theorem Un.refl:Un fs ex H H h h:=Un.kept fun _ _ q=>q
theorem Un.laid (k:∀b u,h.get? b=some u→h'.get? b=some u) (hp:h.objs.size≤a) (hn:H a=none):Un fs ex H (upd H a o) h h' where
 keep:=fun b u q _ _ _=>k b u q
 slot:=fun b u q _ _ _=>⟨u.slots,k b u q⟩
 free:=fun b u q n _=>by rw [upd_ne (Nat.ne_of_lt (Nat.lt_of_lt_of_le (Heap.lt_size q) hp))]; exact n
 there:=fun b u q _=>⟨u,k b u q⟩
 tups:=fun b xs q=>by rw [upd_ne (ne_of_none q hn)]; exact q
 frzs:=fun b u xs q=>by rw [upd_ne (ne_of_none q hn)]; exact q
 tbls:=fun b ps q=>⟨#[],by rw [upd_ne (ne_of_none q hn),q]; simp⟩
theorem Un.write (mu:Mut (H x)) (he:e=x∨H e=some (.own x)) (k:∀b u,b≠e→h.get? b=some u→h'.get? b=some u) (heo:∃u,h'.get? e=some u):Un fs ex H (upd H x o) h h':=by
 have hx:∀b,H b=none→b≠x:=fun b n z=>by subst z; rw [n] at mu; exact mu
 have hb:∀b,H b=none→b≠e:=fun b n z=>by
  subst z
  rcases he with r | r
  ·exact hx b n r
  ·rw [n] at r; cases r
 have hm:∀b u,H b=some u→¬Mut (some u)→b≠x:=fun b u q nm z=>by subst z; rw [q] at mu; exact nm mu
 refine ⟨fun b u q n _ _=>k b u (hb b n) q,fun b u q n _ _=>⟨u.slots,k b u (hb b n) q⟩,fun b u q n _=>by rw [upd_ne (hx b n)]; exact n,fun b u q _=>?_,
  fun b xs q=>by rw [upd_ne (hm b _ q fun z=>z)]; exact q,fun b u xs q=>by rw [upd_ne (hm b _ q fun z=>z)]; exact q,fun b ps q=>⟨#[],by rw [upd_ne (hm b _ q fun z=>z),q]; simp⟩⟩
 by_cases hbe:b=e
 ·subst hbe; exact heo
 ·exact ⟨u,k b u hbe q⟩
theorem Un.mono (u:Un fs ex H H1 h h1) (hs:∀b∈fs,b∈fs') (hx:∀b∈ex,b∈ex'):Un fs' ex' H H1 h h1:=
 ⟨fun b ob q n hb he=>u.keep b ob q n (fun z=>hb (hs b z)) fun z=>he (hx b z),fun _ _ q n _ he=>u.any q n fun z=>he (hx _ z),fun b ob q n he=>u.free b ob q n fun z=>he (hx b z),fun b ob q he=>u.there b ob q fun z=>he (hx b z),u.tups,u.frzs,u.tbls⟩
end
def trk (h:Heap) (H:Hp):List Addr:=(List.range h.objs.size).filter fun a=>(H a).isSome
def hidT (h:Heap) (H:Hp):Heap:=PySem.W.hideAll h (trk h H)
theorem hidT_size (h:Heap) (H:Hp):(hidT h H).objs.size=h.objs.size:=PySem.W.hideAll_size _ _
theorem hidT_get {h:Heap} {H:Hp} {b:Addr} {o:Obj} (e:h.get? b=some o) (n:H b=none):(hidT h H).get? b=some o:=
 PySem.W.hideAll_get _ e fun hm=>by
  have q:(H b).isSome=true:=(List.mem_filter.mp hm).2
  rw [n] at q; simp at q
theorem of_hidT {h:Heap} {H:Hp} {b:Addr} {o:Obj} (e:(hidT h H).get? b=some o):h.get? b=some o∧H b=none:=by
 have e':h.get? b=some o:=PySem.W.of_hideAll (trk h H) e
 refine ⟨e',?_⟩
 cases q:H b with
 | none=>rfl
 | some x=>
  have hm:b∈trk h H:=List.mem_filter.mpr ⟨List.mem_range.mpr (Heap.lt_size e'),by simp [q]⟩
  have z:(hidT h H).get? b=none:=PySem.W.hideAll_none (trk h H) hm
  rw [z] at e; cases e
structure Mod (K:PySem.W.Frag) (mg:Str→Option Value) (base:Heap):Prop where
 kin:K.In base
 glob:base.Ns mainGlobals mg
 blt:∃mb,base.Ns builtinsNs mb∧∀x:Str,x≠"__name__"→mb x=bootBuiltins x
 nolimit:base.NoLimit
structure Cx where
 prog:Program
 w:World
 K:PySem.W.Frag
 mg:Str→Option Value
 base:Heap
 A:Around
 N:List Str
 s₀:Shared
 H₀:Hp
 env:Env
 outer:List Env
 stack:List Env
 ex:List Addr
 fn:Str→Bool
 calm:Bool
 pn:List (Addr × Obj)
 xe:Value→Shared→Prop
def frs (l:List Env):List Addr:=l.filterMap (·.frame)
abbrev Cx.fs (X:Cx):List Addr:=frs X.outer
def Vis (sc:Scope) (x:Str):Prop:=sc.names.lookup x=some .local∨sc.names.lookup x=some .cell∨sc.names.lookup x=some .free
def Loc (sc:Scope) (x:Str):Prop:=sc.names.lookup x=some .local∨sc.names.lookup x=some .cell
def Look (env:Env) (h:Heap) (m:Str→Option Value) (x:Str) (u:Value):Prop:=
 (env.kindOf x=some .local∧m x=some u)∨((env.kindOf x=some .cell∨env.kindOf x=some .free)∧∃c,env.cells.lookup x=some c∧h.IsCell c (some u))
structure Cx.Ok (X:Cx):Prop where
 mod:Mod X.K X.mg X.base
 kind:X.env.scope.kind = .function
 glob:X.env.globals=mainGlobals
 blt:X.env.builtins=builtinsNs
 above:X.s₀.heap.objs.size≤X.env.locals
 inj:∀x y c,X.env.cells.lookup x=some c→X.env.cells.lookup y=some c→x=y
 has:∀x,(X.env.kindOf x=some .cell∨X.env.kindOf x=some .free)→∃c,X.env.cells.lookup x=some c
 cab:∀x c,X.fn x=true→X.env.cells.lookup x=some c→X.s₀.heap.objs.size≤c
 hd:X.calm=true→X.A.handled=none
 frames:X.A.frames=some X.stack
 stk:X.stack=X.outer∨(X.stack=X.env :: X.outer∧X.env.frame=some X.env.locals)
 exf:∀b∈X.ex,b≠X.env.locals∧∀x c,X.env.cells.lookup x=some c→c≠b
 bs:∀b o,X.base.get? b=some o→X.s₀.heap.get? b=some o∧X.H₀ b=none
 bsz:X.base.objs.size≤X.s₀.heap.objs.size
 noex:∀b o,X.base.get? b=some o→b∉X.ex
 exfs:∀b∈X.ex,b∉X.fs
 funs:X.s₀.heap.FunFrames X.base X.outer
 frf:∀b∈X.fs,X.H₀ b=none
structure Inv (X:Cx) (pins:List (Addr × Obj)) (σ:List (Option V)) (H:Hp) (s:Shared):Prop where
 ok:X.Ok
 os:s.os=X.s₀.os
 bare:AllBare s.gens
 base:Un X.fs X.ex X.H₀ H X.s₀.heap s.heap
 loc:∃m,s.heap.Ns X.env.locals m∧∀(i:Nat) (x:Str) (v:V),X.N[i]? = some x→σ[i]? = some (some v)→Vis X.env.scope x→∃u,RelV v u∧Look X.env s.heap m x u
 cell:∀x c,X.env.cells.lookup x=some c→∃v,s.heap.IsCell c v
 free:H X.env.locals=none
 freeC:∀x c,X.env.cells.lookup x=some c→H c=none
 pin:∀p∈X.pn ++ pins,s.heap.get? p.1=some p.2∧H p.1=none∧p.1≠X.env.locals∧p.1∉X.fs∧∀v,p.2.data≠.cell v
 hok:HOk X.prog X.w H s.heap
 len:σ.length=X.N.length
section
variable {X:Cx} {pins:List (Addr × Obj)} {σ:List (Option V)} {H H':Hp} {s:Shared} {h':Heap}
theorem Cx.Ok.nofr (ok:X.Ok) {b:Addr} {o:Obj} (e:X.base.get? b=some o):b∉X.fs:=fun hb=>by
 have:=(ok.funs.mem hb).1
 rw [e] at this; cases this
theorem Inv.bs (I:Inv X pins σ H s):∀b o,X.base.get? b=some o→s.heap.get? b=some o∧H b=none:=fun b o e=>
 ⟨I.base.keep b o (I.ok.bs b o e).1 (I.ok.bs b o e).2 (I.ok.nofr e) (I.ok.noex b o e),I.base.free b o (I.ok.bs b o e).1 (I.ok.bs b o e).2 (I.ok.noex b o e)⟩
theorem Inv.bk (I:Inv X pins σ H s):∀b o,X.base.get? b=some o→s.heap.get? b=some o:=fun b o e=>(I.bs b o e).1
theorem Inv.mod (I:Inv X pins σ H s):Mod X.K X.mg X.base:=I.ok.mod
theorem Inv.kIn (I:Inv X pins σ H s):X.K.In s.heap:=I.ok.mod.kin.keeps I.bk
theorem Inv.nolimit (I:Inv X pins σ H s):s.heap.NoLimit:=I.ok.mod.nolimit.keeps I.bk
theorem Inv.lt (I:Inv X pins σ H s):X.env.locals < s.heap.objs.size:=let ⟨_,hn,_⟩:=I.loc; hn.lt
theorem Inv.sz (I:Inv X pins σ H s):X.s₀.heap.objs.size≤s.heap.objs.size:=Nat.le_trans I.ok.above (Nat.le_of_lt I.lt)
theorem Inv.nofs (I:Inv X pins σ H s) {a:Addr} (h:s.heap.objs.size≤a):a∉X.fs:=fun hb=>by
 obtain ⟨_,o,ho,_⟩:=I.ok.funs.mem hb
 exact absurd (Nat.lt_of_lt_of_le (Heap.lt_size ho) (Nat.le_trans I.sz h)) (Nat.lt_irrefl _)
theorem Inv.cne (I:Inv X pins σ H s):∀x c,X.env.cells.lookup x=some c→c≠X.env.locals:=fun x c e z=>by
 obtain ⟨v,o,ho,hd⟩:=I.cell x c e
 obtain ⟨m,⟨o',es,ep,ho',hd',_⟩,_⟩:=I.loc
 rw [z,ho'] at ho; cases ho; rw [hd'] at hd; cases hd
theorem Inv.funs (I:Inv X pins σ H s):s.heap.FunFrames X.base X.outer:=by
 have all:∀(l:List Env),(∀b∈frs l,b∈X.fs)→X.s₀.heap.FunFrames X.base l→s.heap.FunFrames X.base l:=by
  intro l
  induction l with
  | nil=>intro _ _; trivial
  | cons env r ih=>
   intro hs hl
   obtain ⟨hk,⟨L,o,hf,hn,ho,hd⟩,hr⟩:=hl
   have hL:L∈X.fs:=hs L (by unfold frs; rw [List.filterMap_cons,hf]; exact List.mem_cons_self)
   obtain ⟨sl,e⟩:=I.base.slot L o ho (I.ok.frf L hL) hL fun z=>I.ok.exfs L z hL
   exact ⟨hk,⟨L,_,hf,hn,e,hd⟩,ih (fun b hb=>hs b (by unfold frs; rw [List.filterMap_cons,hf]; exact List.mem_cons_of_mem _ hb)) hr⟩
 exact all X.outer (fun _ hb=>hb) I.ok.funs
theorem Inv.stack (I:Inv X pins σ H s):s.heap.FunFrames X.base X.stack:=by
 rcases I.ok.stk with e | ⟨e,hf⟩
 ·rw [e]; exact I.funs
 ·rw [e]
  obtain ⟨m,hn,_⟩:=I.loc
  refine .cons (by rw [I.ok.kind]; decide) hf hn ?_ I.funs
  exact Heap.get?_none_of_le (Nat.le_trans I.ok.bsz I.ok.above)
theorem Inv.stkSub (I:Inv X pins σ H s):∀b∈frs X.stack,b∈X.env.locals :: X.fs:=fun b hb=>by
 rcases I.ok.stk with e | ⟨e,hf⟩
 ·rw [e] at hb; exact List.mem_cons_of_mem _ hb
 ·rw [e] at hb
  unfold frs at hb
  rw [List.filterMap_cons,hf] at hb
  exact hb
theorem Inv.stkFree (I:Inv X pins σ H s):∀b∈frs X.stack,H b=none:=fun b hb=>by
 rcases List.mem_cons.mp (I.stkSub b hb) with e | hb
 ·rw [e]; exact I.free
 ·obtain ⟨_,o,ho,_⟩:=I.ok.funs.mem hb
  exact I.base.free b o ho (I.ok.frf b hb) fun z=>I.ok.exfs b z hb
theorem Inv.step {g':Array GenState} {t':Nat} {d':Drawn} {ch:List Addr} (I:Inv X pins σ H s)
  (hch:∀b∈ch,(b∈X.ex∨X.s₀.heap.objs.size≤b)∧b≠X.env.locals∧(∀x c,X.env.cells.lookup x=some c→c≠b)∧∀p∈X.pn ++ pins,p.1≠b)
  (keep:∀b o,b≠X.env.locals→b∉X.fs→b∉ch→s.heap.get? b=some o→H b=none→h'.get? b=some o)
  (slot:∀b o,b≠X.env.locals→b∈X.fs→b∉ch→s.heap.get? b=some o→H b=none→∃sl,h'.get? b=some {o with slots:=sl}) (free:∀b o,b∉ch→s.heap.get? b=some o→H b=none→H' b=none)
  (there:∀b o,b∉ch→s.heap.get? b=some o→∃o',h'.get? b=some o')
  (tups:∀b xs,H b=some (.tup xs)→H' b=some (.tup xs)) (frzs:∀b o u,H b=some (.frz o u)→H' b=some (.frz o u)) (tbls:∀b ps,H b=some (.tbl ps)→∃more,H' b=some (.tbl (ps ++ more)))
  (ns:∀m,s.heap.Ns X.env.locals m→h'.Ns X.env.locals m) (hok:HOk X.prog X.w H' h') (hg:AllBare g') :
  Inv X pins σ H' {s with heap:=h',gens:=g',drawn:=d',toks:=t'}:=by
 have neL:∀b o,X.s₀.heap.get? b=some o→b≠X.env.locals:=fun b o e=>Nat.ne_of_lt (Nat.lt_of_lt_of_le (Heap.lt_size e) I.ok.above)
 have neC:∀b o,X.s₀.heap.get? b=some o→b∉X.ex→b∉ch:=fun b o e hx hb=>by
  rcases (hch b hb).1 with z | z
  ·exact hx z
  ·exact absurd (Nat.lt_of_lt_of_le (Heap.lt_size e) z) (Nat.lt_irrefl _)
 have cellK:∀x c,X.env.cells.lookup x=some c→∀v,s.heap.IsCell c v→h'.IsCell c v:=fun x c e v ⟨o,ho,hd⟩=>by
  have nch:c∉ch:=fun z=>(hch c z).2.2.1 x c e rfl
  by_cases hc:c∈X.fs
  ·obtain ⟨sl,q⟩:=slot c o (I.cne x c e) hc nch ho (I.freeC x c e)
   exact ⟨_,q,hd⟩
  ·exact ⟨o,keep c o (I.cne x c e) hc nch ho (I.freeC x c e),hd⟩
 refine ⟨I.ok,I.os,hg,⟨fun b o e n hb hx=>?_,fun b o e n hb hx=>?_,fun b o e n hx=>?_,fun b o e hx=>?_,fun b xs e=>tups b xs (I.base.tups b xs e),fun b o xs e=>frzs b o xs (I.base.frzs b o xs e),fun b ps e=>?_⟩,?_,fun x c e=>?_,?_,fun x c e=>?_,fun p hp=>?_,hok,I.len⟩
 ·exact keep b o (neL b o e) hb (neC b o e hx) (I.base.keep b o e n hb hx) (I.base.free b o e n hx)
 ·obtain ⟨sl,e1⟩:=I.base.slot b o e n hb hx
  obtain ⟨sl',e2⟩:=slot b _ (neL b o e) hb (neC b o e hx) e1 (I.base.free b o e n hx)
  exact ⟨sl',e2⟩
 ·obtain ⟨o',e1⟩:=I.base.there b o e hx
  exact free b o' (neC b o e hx) e1 (I.base.free b o e n hx)
 ·obtain ⟨o',e1⟩:=I.base.there b o e hx
  exact there b o' (neC b o e hx) e1
 ·obtain ⟨m1,e1⟩:=I.base.tbls b ps e
  obtain ⟨m2,e2⟩:=tbls b _ e1
  exact ⟨m1 ++ m2,by rw [e2,Array.append_assoc]⟩
 ·obtain ⟨m,hn,hl⟩:=I.loc
  refine ⟨m,ns m hn,fun i x v e1 e2 e3=>?_⟩
  obtain ⟨u,r,l⟩:=hl i x v e1 e2 e3
  refine ⟨u,r,?_⟩
  rcases l with l | ⟨k,c,e,z⟩
  ·exact .inl l
  ·exact .inr ⟨k,c,e,cellK x c e _ z⟩
 ·obtain ⟨v,z⟩:=I.cell x c e
  exact ⟨v,cellK x c e v z⟩
 ·obtain ⟨m,⟨o,_,_,ho,_⟩,_⟩:=I.loc
  exact free _ o (fun z=>(hch _ z).2.1 rfl) ho I.free
 ·obtain ⟨v,o,ho,hd⟩:=I.cell x c e
  exact free c o (fun z=>(hch c z).2.2.1 x c e rfl) ho (I.freeC x c e)
 ·obtain ⟨e,n,ne,nf,d⟩:=I.pin p hp
  have nch:p.1∉ch:=fun z=>(hch p.1 z).2.2.2 p hp rfl
  exact ⟨keep p.1 p.2 ne nf nch e n,free p.1 p.2 nch e n,ne,nf,d⟩
theorem Inv.un {t':Nat} (I:Inv X pins σ H s) (u:Un X.fs [] H H' s.heap h') (hok:HOk X.prog X.w H' h'):Inv X pins σ H' {s with heap:=h',toks:=t'}:=by
 obtain ⟨m,⟨o,es,ep,ho,r⟩,_⟩:=id I.loc
 obtain ⟨sl,hL⟩:=u.any ho I.free (by simp)
 exact I.step (g':=s.gens) (d':=s.drawn) (ch:=[]) (fun _ z=>nomatch z) (fun b o _ hb _ e n=>u.keep b o e n hb (by simp)) (fun b o _ hb _ e n=>u.slot b o e n hb (by simp)) (fun b o _ e n=>u.free b o e n (by simp)) (fun b o _ e=>u.there b o e (by simp)) u.tups u.frzs u.tbls (fun m' hm=>by
  obtain ⟨o',es',ep',ho',r'⟩:=hm
  rw [ho] at ho'; cases ho'
  exact ⟨_,es',ep',hL,r'⟩) hok I.bare
theorem Inv.call {g':Array GenState} {t':Nat} {d':Drawn} {ch:List Addr} (I:Inv X pins σ H s) (u:Un (frs X.stack) ch H H' s.heap h') (hok:HOk X.prog X.w H' h') (hg:AllBare g')
  (hch:∀b∈ch,(b∈X.ex∨X.s₀.heap.objs.size≤b)∧b≠X.env.locals∧(∀x c,X.env.cells.lookup x=some c→c≠b)∧∀p∈X.pn ++ pins,p.1≠b) :
  Inv X pins σ H' {s with heap:=h',gens:=g',drawn:=d',toks:=t'}:=by
 obtain ⟨m,⟨o,es,ep,ho,r⟩,_⟩:=id I.loc
 obtain ⟨sl,hL⟩:=u.any ho I.free fun z=>(hch _ z).2.1 rfl
 exact I.step (ch:=ch) hch (fun b o hL hb hc e n=>u.keep b o e n (fun z=>(List.mem_cons.mp (I.stkSub b z)).elim hL hb) hc) (fun b o _ _ hc e n=>u.any e n hc) (fun b o hc e n=>u.free b o e n hc) (fun b o hc e=>u.there b o e hc) u.tups u.frzs u.tbls (fun m' hm=>by
  obtain ⟨o',es',ep',ho',r'⟩:=hm
  rw [ho] at ho'; cases ho'
  exact ⟨_,es',ep',hL,r'⟩) hok hg
theorem Inv.turned {t':Nat} {it:Addr} (I:Inv X pins σ H s) (k:∀b o,b≠it→s.heap.get? b=some o→h'.get? b=some o) (hn:H it=none) (hL:it≠X.env.locals)
  (h1:it∈X.ex∨X.s₀.heap.objs.size≤it) (h2:∀x c,X.env.cells.lookup x=some c→c≠it) (h3:∀p∈X.pn ++ pins,p.1≠it):Inv X pins σ H {s with heap:=h',toks:=t'}:=by
 have nit:∀b u,H b=some u→b≠it:=fun b u e z=>by rw [z,hn] at e; cases e
 refine I.step (g':=s.gens) (d':=s.drawn) (ch:=[it]) (fun b hb=>?_) (fun b o _ _ hc e _=>k b o (fun z=>hc (by simp [z])) e) (fun b o _ _ hc e _=>⟨o.slots,k b o (fun z=>hc (by simp [z])) e⟩) (fun _ _ _ _ n=>n)
  (fun b o hc e=>⟨o,k b o (fun z=>hc (by simp [z])) e⟩) (fun _ _ e=>e) (fun _ _ _ e=>e) (fun b ps e=>⟨#[],by rw [e]; simp⟩) (fun m hm=>?_) (fun b u e=>?_) I.bare
 ·have e:b=it:=by simpa using hb
  subst e
  exact ⟨h1,hL,h2,h3⟩
 ·obtain ⟨o,es,ep,ho,r⟩:=hm
  exact ⟨o,es,ep,k _ o (Ne.symm hL) ho,r⟩
 ·refine (I.hok b u e).stay (fun c v hc q=>k c v ?_ q) (fun _ q=>q) fun _ _ q=>q
  rcases hc with z | z
  ·rw [z]; exact nit b u e
  ·exact nit c _ z
theorem Inv.tok (I:Inv X pins σ H s) (t:Nat):Inv X pins σ H {s with toks:=t}:=I.un (h':=s.heap) (t':=t) Un.refl I.hok
theorem Inv.kept {t':Nat} (I:Inv X pins σ H s) (k:∀b u,s.heap.get? b=some u→h'.get? b=some u):Inv X pins σ H {s with heap:=h',toks:=t'}:=I.un (Un.kept k) (I.hok.kept k)
theorem Inv.laid {a:Addr} {o:HO} {t':Nat} (I:Inv X pins σ H s) (k:∀b u,s.heap.get? b=some u→h'.get? b=some u) (hp:s.heap.objs.size≤a) (new:ObjOk X.prog X.w (upd H a o) h' a o) :
  Inv X pins σ (upd H a o) {s with heap:=h',toks:=t'}:=I.un (Un.laid k hp (I.hok.fresh hp)) (I.hok.laid k hp new)
theorem Inv.write {x e:Addr} {o:HO} {t':Nat} (I:Inv X pins σ H s) (mu:Mut (H x)) (he:e=x∨H e=some (.own x)) (k:∀b u,b≠e→s.heap.get? b=some u→h'.get? b=some u) (heo:∃u,h'.get? e=some u)
  (new:ObjOk X.prog X.w (upd H x o) h' x o):Inv X pins σ (upd H x o) {s with heap:=h',toks:=t'}:=I.un (Un.write mu he k heo) (I.hok.write mu he k heo new)
theorem Inv.pins_of {pins':List (Addr × Obj)} (I:Inv X pins σ H s) (h:∀p∈pins',s.heap.get? p.1=some p.2∧H p.1=none∧p.1≠X.env.locals∧p.1∉X.fs∧∀v,p.2.data≠.cell v):Inv X pins' σ H s:=
 ⟨I.ok,I.os,I.bare,I.base,I.loc,I.cell,I.free,I.freeC,fun p hp=>(List.mem_append.mp hp).elim (fun z=>I.pin p (List.mem_append_left _ z)) (h p),I.hok,I.len⟩
theorem nodup_ix {N:List Str} (hN:N.Nodup) {i j:Nat} {x:Str} (a:N[i]? = some x) (b:N[j]? = some x):i=j:=by
 obtain ⟨h1,e1⟩:=List.getElem?_eq_some_iff.mp a
 obtain ⟨h2,e2⟩:=List.getElem?_eq_some_iff.mp b
 exact (List.getElem_inj hN).mp (e1.trans e2.symm)
theorem store_ok2 {M:Model} {A:Around} {E:Value→Shared→Prop} {i:Nat} {x:Str} {v:V} {u:Value} {Q:Unit→Shared→Prop} (I:Inv X pins σ H s) (hN:X.N.Nodup) (hi:X.N[i]? = some x) (hx:Loc X.env.scope x) (r:RelV v u)
  (h:∀s',Inv X pins (σ.set i (some v)) H s'→(∃a,Heap.SameBut a s.heap s'.heap∧(a=X.env.locals∨X.env.cells.lookup x=some a))→Q () s') (hf:X.fn x=true∨X.env.scope.names.lookup x=some .local:=by first | exact .inl rfl | exact .inr rfl | assumption):wpAny M A (storeName X.env x u) Q E s:=by
 obtain ⟨m,hn,hl⟩:=id I.loc
 have hcls:(X.env.scope.kind == .class || (X.env.scope.kind == .module && X.env.locals != X.env.globals))=false:=by rw [I.ok.kind]; rfl
 have hiσ:i < σ.length:=by rw [I.len]; exact (List.getElem?_eq_some_iff.mp hi).1
 have cne:=I.cne
 have tracked:∀{a:Addr} {h':Heap},(∃o,s.heap.get? a=some o∧H a=none)→Heap.SameBut a s.heap h'→HOk X.prog X.w H h':=fun {a h'} ha hs b ob e=>by
  obtain ⟨_,_,hfree⟩:=ha
  refine (I.hok b ob e).stay (fun c w' hc q=>(hs.2 c ?_).trans q) (fun _ q=>q) fun _ _ q=>q
  rintro rfl
  rcases hc with rfl | hc
  ·rw [hfree] at e; cases e
  ·rw [hfree] at hc; cases hc
 rcases hx with hk | hk
 ·refine wpAny_storeName_local hk hn (fun h' hn' hs=>?_) hcls
  obtain ⟨oL,_,_,hoL,_⟩:=id hn
  refine h _ ⟨I.ok,I.os,I.bare,⟨fun b o e n hb hx=>?_,fun b o e n hb hx=>?_,I.base.free,fun b o e hx=>?_,I.base.tups,I.base.frzs,I.base.tbls⟩,⟨_,hn',fun j y v' e1 e2 e3=>?_⟩,fun y c e=>?_,I.free,I.freeC,fun p hp=>?_,tracked ⟨oL,hoL,I.free⟩ hs,by simpa using I.len⟩ ⟨_,hs,.inl rfl⟩
  ·exact (hs.2 b (Nat.ne_of_lt (Nat.lt_of_lt_of_le (Heap.lt_size e) I.ok.above))).trans (I.base.keep b o e n hb hx)
  ·obtain ⟨sl,e1⟩:=I.base.slot b o e n hb hx
   exact ⟨sl,(hs.2 b (Nat.ne_of_lt (Nat.lt_of_lt_of_le (Heap.lt_size e) I.ok.above))).trans e1⟩
  ·obtain ⟨o',e1⟩:=I.base.there b o e hx
   exact ⟨o',(hs.2 b (Nat.ne_of_lt (Nat.lt_of_lt_of_le (Heap.lt_size e) I.ok.above))).trans e1⟩
  ·by_cases hj:j=i
   ·subst hj
    rw [hi] at e1; cases e1
    rw [List.getElem?_set_self hiσ] at e2
    cases e2
    exact ⟨u,r,.inl ⟨hk,by simp⟩⟩
   ·rw [List.getElem?_set_ne (Ne.symm hj)] at e2
    obtain ⟨u',r',q⟩:=hl j y v' e1 e2 e3
    refine ⟨u',r',?_⟩
    rcases q with ⟨k,e⟩ | ⟨k,c,e,z⟩
    ·refine .inl ⟨k,?_⟩
     have:y≠x:=fun e=>hj (nodup_ix hN e1 (e ▸ hi))
     simp [this,e]
    ·exact .inr ⟨k,c,e,z.sameBut hs (cne y c e)⟩
  ·obtain ⟨w',z⟩:=I.cell y c e
   exact ⟨w',z.sameBut hs (cne y c e)⟩
  ·obtain ⟨e,n,ne,nf,d⟩:=I.pin p hp
   exact ⟨(hs.2 p.1 ne).trans e,n,ne,nf,d⟩
 ·have hfn:X.fn x=true:=by
   rcases hf with z | z
   ·exact z
   ·rw [z] at hk; cases hk
  obtain ⟨c,hc⟩:=I.ok.has x (.inl hk)
  obtain ⟨w',z⟩:=I.cell x c hc
  refine wpAny_storeName_cell I.ok.kind hk hc z (fun h' hc' hs=>?_)
  obtain ⟨oc,hoc,hocd⟩:=id z
  refine h {s with heap:=h'} ⟨I.ok,I.os,I.bare,⟨fun b o e n hb hx=>?_,fun b o e n hb hx=>?_,I.base.free,fun b o e hx=>?_,I.base.tups,I.base.frzs,I.base.tbls⟩,⟨m,hn.sameBut hs (Ne.symm (cne x c hc)),fun j y v' e1 e2 e3=>?_⟩,fun y c' e=>?_,I.free,I.freeC,fun p hp=>?_,tracked ⟨oc,hoc,I.freeC x c hc⟩ hs,by simpa using I.len⟩ ⟨c,hs,.inr hc⟩
  ·exact (hs.2 b (Nat.ne_of_lt (Nat.lt_of_lt_of_le (Heap.lt_size e) (I.ok.cab x c hfn hc)))).trans (I.base.keep b o e n hb hx)
  ·obtain ⟨sl,e1⟩:=I.base.slot b o e n hb hx
   exact ⟨sl,(hs.2 b (Nat.ne_of_lt (Nat.lt_of_lt_of_le (Heap.lt_size e) (I.ok.cab x c hfn hc)))).trans e1⟩
  ·obtain ⟨o',e1⟩:=I.base.there b o e hx
   exact ⟨o',(hs.2 b (Nat.ne_of_lt (Nat.lt_of_lt_of_le (Heap.lt_size e) (I.ok.cab x c hfn hc)))).trans e1⟩
  ·by_cases hj:j=i
   ·subst hj
    rw [hi] at e1; cases e1
    rw [List.getElem?_set_self hiσ] at e2
    cases e2
    exact ⟨u,r,.inr ⟨.inl hk,c,hc,hc'⟩⟩
   ·rw [List.getElem?_set_ne (Ne.symm hj)] at e2
    obtain ⟨u',r',q⟩:=hl j y v' e1 e2 e3
    refine ⟨u',r',?_⟩
    rcases q with q | ⟨k,c',e,z'⟩
    ·exact .inl q
    ·refine .inr ⟨k,c',e,z'.sameBut hs ?_⟩
     rintro rfl
     exact hj (nodup_ix hN e1 (I.ok.inj _ _ _ e hc ▸ hi))
  ·by_cases hcc:c'=c
   ·subst hcc; exact ⟨_,hc'⟩
   ·obtain ⟨w2,z2⟩:=I.cell y c' e
    exact ⟨w2,z2.sameBut hs hcc⟩
  ·obtain ⟨e,n,ne,nf,d⟩:=I.pin p hp
   refine ⟨(hs.2 p.1 ?_).trans e,n,ne,nf,d⟩
   intro q
   rw [q,hoc] at e
   have q':oc=p.2:=Option.some.inj e
   exact d w' (by rw [← q']; exact hocd)
theorem store_ok {M:Model} {A:Around} {E:Value→Shared→Prop} {i:Nat} {x:Str} {v:V} {u:Value} {Q:Unit→Shared→Prop} (I:Inv X pins σ H s) (hN:X.N.Nodup) (hi:X.N[i]? = some x) (hx:Loc X.env.scope x) (r:RelV v u)
  (h:∀s',Inv X pins (σ.set i (some v)) H s'→Q () s') (hf:X.fn x=true∨X.env.scope.names.lookup x=some .local:=by first | exact .inl rfl | exact .inr rfl | assumption):wpAny M A (storeName X.env x u) Q E s:=
 store_ok2 I hN hi hx r (fun s' I' _=>h s' I') hf
theorem Inv.call' {s':Shared} {ch:List Addr} (I:Inv X pins σ H s) (ho:s'.os=s.os) (u:Un (frs X.stack) ch H H' s.heap s'.heap) (hok:HOk X.prog X.w H' s'.heap) (hg:AllBare s'.gens)
  (hch:∀b∈ch,(b∈X.ex∨X.s₀.heap.objs.size≤b)∧b≠X.env.locals∧(∀x c,X.env.cells.lookup x=some c→c≠b)∧∀p∈X.pn ++ pins,p.1≠b):Inv X pins σ H' s':=by
 obtain ⟨h',g',d',t',o'⟩:=s'
 have e:o'=s.os:=ho
 subst e
 exact I.call (g':=g') (t':=t') (d':=d') u hok hg hch
end
abbrev XK:=Value→Option Addr→Hp→Prop
abbrev St:=List (Option V)
abbrev VK:=V→Hp→Prop
abbrev TE:=St→Hp→VK→Prop
abbrev TT:=St→Hp→(Bool→Hp→Prop)→Prop
abbrev TA:=St→Hp→(List V→Hp→Prop)→Prop
structure Ends where
 nx:St→Hp→Prop
 rt:VK
 bk:St→Hp→Prop:=fun _ _=>False
 ct:St→Hp→Prop:=fun _ _=>False
abbrev TS:=Ends→St→Hp→Prop
def EP (X:Cx) (pins:List (Addr × Obj)) (σ:St) (Q:VK) (u:Value) (s':Shared):Prop:=∃v H',Inv X pins σ H' s'∧RelV v u∧Q v H'
def TP (X:Cx) (pins:List (Addr × Obj)) (σ:St) (Q:Bool→Hp→Prop) (b:Bool) (s':Shared):Prop:=∃H',Inv X pins σ H' s'∧Q b H'
def AP (X:Cx) (pins:List (Addr × Obj)) (σ:St) (Q:List V→Hp→Prop) (us:List Value) (s':Shared):Prop:=∃vs H',Inv X pins σ H' s'∧Vals vs us∧Q vs H'
def SP (X:Cx) (pins:List (Addr × Obj)) (D:Ends) (f:Flow) (s':Shared):Prop:=
 match f with
 | .next=>∃σ' H',Inv X pins σ' H' s'∧D.nx σ' H'
 | .brk=>∃σ' H',Inv X pins σ' H' s'∧D.bk σ' H'
 | .cont=>∃σ' H',Inv X pins σ' H' s'∧D.ct σ' H'
 | .ret u=>∃v σ' H',Inv X pins σ' H' s'∧RelV v u∧D.rt v H'
def PE (X:Cx) (e:Expr) (t:TE):Prop:=
 ∀(pins:List (Addr × Obj)) (s:Shared) (σ:St) (H:Hp) (Q:VK),Inv X pins σ H s→t σ H Q→wpAny (model X.prog X.w) X.A (eval e X.env) (EP X pins σ Q) X.xe s
def PT (X:Cx) (e:Expr) (t:TT):Prop:=
 ∀(pins:List (Addr × Obj)) (s:Shared) (σ:St) (H:Hp) (Q:Bool→Hp→Prop),Inv X pins σ H s→t σ H Q→wpAny (model X.prog X.w) X.A (isTrue e X.env (eval e X.env)) (TP X pins σ Q) X.xe s
def PW (X:Cx) (e:Expr) (t:TT):Prop:=
 ∀(whole:Sem Value) (pins:List (Addr × Obj)) (s:Shared) (σ:St) (H:Hp) (Q:Bool→Hp→Prop),Inv X pins σ H s→t σ H Q→wpAny (model X.prog X.w) X.A (isTrue e X.env whole) (TP X pins σ Q) X.xe s
theorem PW.pt {X:Cx} {e:Expr} {t:TT} (h:PW X e t):PT X e t:=h _
def PA (X:Cx) (es:List Expr) (t:TA):Prop:=
 ∀(pos:Pos) (pins:List (Addr × Obj)) (s:Shared) (σ:St) (H:Hp) (Q:List V→Hp→Prop),Inv X pins σ H s→t σ H Q→wpAny (model X.prog X.w) X.A (spliced (backTo pos (starEach es X.env))) (AP X pins σ Q) X.xe s
def PS (X:Cx) (st:Stmt) (t:TS):Prop:=
 ∀(pins:List (Addr × Obj)) (s:Shared) (σ:St) (H:Hp) (D:Ends),Inv X pins σ H s→t D σ H→wpAny (model X.prog X.w) X.A (exec st X.env) (SP X pins D) X.xe s
def PSs (X:Cx) (st:List Stmt) (t:TS):Prop:=
 ∀(pins:List (Addr × Obj)) (s:Shared) (σ:St) (H:Hp) (D:Ends),Inv X pins σ H s→t D σ H→wpAny (model X.prog X.w) X.A (execs st X.env) (SP X pins D) X.xe s
theorem thn {α:Type} {t:Sem α} {Q Q':α→Shared→Prop} {M:Model} {A:Around} {E:Value→Shared→Prop} {s:Shared} (h:wpAny M A t Q E s) (hQ:∀a s,Q a s→Q' a s):wpAny M A t Q' E s:=wpAny_mono h hQ fun _ _ x=>x
section
variable {X:Cx}
def tVar (i:Nat):TE:=fun σ H Q=>∃v,σ[i]? = some (some v)∧Q v H
def tC (v:V):TE:=fun _ H Q=>Q v H
theorem pe_var {i:Nat} {x:Str} {pos:Pos} (hN:X.N[i]? = some x) (hv:Vis X.env.scope x) (hd:(x == ("__debug__" : Str))=false:=by decide) (hcd:(x == ("__classdict__" : Str))=false:=by decide):PE X (.Name x pos) (tVar i):=by
 intro pins s σ H Q I h
 obtain ⟨v,e,h⟩:=h
 obtain ⟨m,hn,hl⟩:=I.loc
 obtain ⟨u,r,l⟩:=hl i x v hN e hv
 have fin:EP X pins σ Q u s:=⟨v,H,I,r,h⟩
 rcases l with ⟨hk,hm⟩ | ⟨hk,c,hc,hcell⟩
 ·exact wpAny_Name (wpAny_loadName_local I.ok.kind hk hn hm fin) hd
 ·rcases hk with hk | hk
  ·exact wpAny_Name (wpAny_loadName_cell I.ok.kind hk hc hcell fin) hd
  ·exact wpAny_Name (wpAny_loadName_free I.ok.kind hk hc hcell fin hcd) hd
theorem pe_int {i j pos}:PE X (.Constant (.int i) j pos) (tC (.int i)):=fun _ _ _ H _ I h=>wpAny_Constant_int ⟨.int i,H,I.tok _,⟨_,rfl⟩,h⟩
theorem pe_bl {b j pos}:PE X (.Constant (.bool b) j pos) (tC (.bl b)):=fun _ _ _ H _ I h=>Constant_bool ⟨.bl b,H,I,rfl,h⟩
theorem pe_non {j pos}:PE X (.Constant .none j pos) (tC .non):=fun _ _ _ H _ I h=>Constant_none ⟨.non,H,I,rfl,h⟩
theorem pe_str {x j pos}:PE X (.Constant (.str x) j pos) (tC (.str x)):=fun _ _ _ H _ I h=>Calls.Constant_str ⟨.str x,H,I.tok _,⟨_,rfl⟩,h⟩
def Gl (X:Cx) (x:Str):Prop:=X.env.kindOf x=some .globalImplicit
theorem ld_glob {E:Value→Shared→Prop} {pins:List (Addr × Obj)} {s:Shared} {σ:St} {H:Hp} {x:Str} {u:Value} {pos:Pos} {Q:Value→Shared→Prop} (I:Inv X pins σ H s) (hg:Gl X x) (hm:X.mg x=some u) (h:Q u s)
  (hd:(x == ("__debug__" : Str))=false:=by decide):wpAny (model X.prog X.w) X.A (eval (.Name x pos) X.env) Q E s:=
 Calls.Name_function_global I.ok.kind hg (Calls.loadGlobal_global (by rw [I.ok.glob]; exact I.mod.glob.keeps I.bk) hm h) hd
theorem ld_blt {E:Value→Shared→Prop} {pins:List (Addr × Obj)} {s:Shared} {σ:St} {H:Hp} {x:Str} {u:Value} {pos:Pos} {Q:Value→Shared→Prop} (I:Inv X pins σ H s) (hg:Gl X x) (hm:X.mg x=none) (hv:bootBuiltins x=some u) (h:Q u s)
  (hn:x≠"__name__":=by decide) (hd:(x == ("__debug__" : Str))=false:=by decide):wpAny (model X.prog X.w) X.A (eval (.Name x pos) X.env) Q E s:=by
 obtain ⟨mb,h1,h2⟩:=I.mod.blt
 exact Calls.Name_function_global I.ok.kind hg (Calls.loadGlobal_builtin (by rw [I.ok.glob]; exact I.mod.glob.keeps I.bk) hm (by rw [I.ok.blt]; exact h1.keeps I.bk) ((h2 x hn).trans hv) h) hd
theorem pe_glob {x:Str} {v:V} {u:Value} {pos:Pos} (hg:Gl X x) (hm:X.mg x=some u) (r:RelV v u) (hd:(x == ("__debug__" : Str))=false:=by decide):PE X (.Name x pos) (tC v):=
 fun _ _ _ H _ I h=>ld_glob I hg hm ⟨v,H,I,r,h⟩ hd
theorem pe_bltn {x:Str} {v:V} {u:Value} {pos:Pos} (hg:Gl X x) (hm:X.mg x=none) (hv:bootBuiltins x=some u) (r:RelV v u) (hn:x≠"__name__":=by decide) (hd:(x == ("__debug__" : Str))=false:=by decide):PE X (.Name x pos) (tC v):=
 fun _ _ _ H _ I h=>ld_blt I hg hm hv ⟨v,H,I,r,h⟩ hn hd
variable {a b:Expr} {ta tb:TE} {pos:Pos}
def tB (t:TE):TT:=fun σ H Q=>t σ H fun x H1=>∃c,x = .bl c∧Q c H1
theorem pt_val {e:Expr} {t:TE} (h:PE X e t) (he:∀whole,isTrue e X.env whole=(do let v ← whole; standAt e.pos; holding [v] (truthy v)):=by intro _; rfl):PT X e (tB t):=by
 intro pins s σ H Q I hw
 refine isTrue_plain (thn (h pins s σ H _ I hw) fun v s1 ⟨x,H1,I1,r1,q1⟩=>?_) (he _)
 obtain ⟨d,rfl,q⟩:=q1
 cases r1
 exact wpAny_truthy_bool ⟨H1,I1,q⟩
variable {tA tB':TT} {rest:List Expr}
def tOr (t u:TT):TT:=fun σ H Q=>t σ H fun c H1=>if c=true then Q true H1 else u σ H1 Q
def tNot (t:TT):TT:=fun σ H Q=>t σ H fun c H1=>Q (!c) H1
theorem pw_or1 (ha:PT X a tA):PW X (.BoolOp .Or [a] pos) tA:=by
 intro wh pins s σ H Q I h
 refine isTrue_or (thn (ha pins s σ H Q I h) fun c s1 e=>?_)
 cases c with
 | false=>exact isTrue_or_nil e
 | true=>exact e
theorem pw_or (ha:PT X a tA) (hb:PW X (.BoolOp .Or (b :: rest) pos) tB'):PW X (.BoolOp .Or (a :: b :: rest) pos) (tOr tA tB'):=by
 intro wh pins s σ H Q I h
 refine isTrue_or (thn (ha pins s σ H _ I h) fun c s1 ⟨H1,I1,q1⟩=>?_)
 cases c with
 | true=>exact ⟨H1,I1,q1⟩
 | false=>exact hb wh pins s1 σ H1 Q I1 q1
theorem pt_not (ha:PT X a tA):PT X (.UnaryOp .Not a pos) (tNot tA):=by
 intro pins s σ H Q I h
 exact isTrue_not (ha pins s σ H (fun c H1=>Q (!c) H1) I h)
def tAndV (ta tb:TE):TE:=fun σ H Q=>ta σ H fun x H1=>∃c,x = .bl c∧if c=true then tb σ H1 Q else Q (.bl false) H1
def tOrV (ta tb:TE):TE:=fun σ H Q=>ta σ H fun x H1=>∃c,x = .bl c∧if c=true then Q (.bl true) H1 else tb σ H1 Q
def tNotV (ta:TE):TE:=fun σ H Q=>ta σ H fun x H1=>∃c,x = .bl c∧Q (.bl (!c)) H1
theorem pe_one {op} {t:TE} (h:PE X a t):PE X (.BoolOp op [a] pos) t:=fun pins s σ H Q I hw=>BoolOp_one (h pins s σ H Q I hw)
theorem pe_and (ha:PE X a ta) (hb:PE X (.BoolOp .And (b :: rest) pos) tb):PE X (.BoolOp .And (a :: b :: rest) pos) (tAndV ta tb):=by
 intro pins s σ H Q I h
 refine BoolOp_and (thn (ha pins s σ H _ I h) fun v s1 ⟨x,H1,I1,r1,q1⟩=>?_)
 obtain ⟨c,rfl,q1⟩:=q1
 cases r1
 refine wpAny_truthy_bool ?_
 cases c with
 | true=>exact hb pins s1 σ H1 Q I1 q1
 | false=>exact ⟨.bl false,H1,I1,rfl,q1⟩
theorem pe_or (ha:PE X a ta) (hb:PE X (.BoolOp .Or (b :: rest) pos) tb):PE X (.BoolOp .Or (a :: b :: rest) pos) (tOrV ta tb):=by
 intro pins s σ H Q I h
 refine BoolOp_or (thn (ha pins s σ H _ I h) fun v s1 ⟨x,H1,I1,r1,q1⟩=>?_)
 obtain ⟨c,rfl,q1⟩:=q1
 cases r1
 refine wpAny_truthy_bool ?_
 cases c with
 | false=>exact hb pins s1 σ H1 Q I1 q1
 | true=>exact ⟨.bl true,H1,I1,rfl,q1⟩
theorem pe_not (ha:PE X a ta):PE X (.UnaryOp .Not a pos) (tNotV ta):=by
 intro pins s σ H Q I h
 refine UnaryOp_ (thn (ha pins s σ H _ I h) fun v s1 ⟨x,H1,I1,r1,q1⟩=>?_)
 obtain ⟨c,rfl,q1⟩:=q1
 cases r1
 exact not_of (wpAny_truthy_bool ⟨.bl (!c),H1,I1,rfl,q1⟩)
end
def SqL (K:PySem.W.Frag) (H:Hp) (a:Addr) (xs:List V):Prop:=
 Rd H a (.lst xs)∨
  ∃(o:Obj) (its:Array Value) (n:Nat),K.lookup a=some o∧o.cls = .type "list"∧o.dict=none∧o.data = .seq its n∧its.size≤sizeLine∧Vals xs its.toList
def SqT (K:PySem.W.Frag) (H:Hp) (a:Addr) (xs:List V):Prop:=
 Rd H a (.tup xs)∨
  ∃(o:Obj) (its:Array Value) (n:Nat),K.lookup a=some o∧o.cls = .type "tuple"∧o.data = .seq its n∧its.size≤sizeLine∧Vals xs its.toList
def absV:Value→Option V
 | .none=>some .non
 | .bool b=>some (.bl b)
 | .int i _=>some (.int i)
 | .str x _=>some (.str x)
 | .bytes b _=>some (.byt b)
 | .float b _=>some (.flt b)
 | .ref a=>some (.ref a)
 | .type n=>some (.ty n)
 | _=>none
theorem RelV.abs {x:V} {u:Value} (r:RelV x u):absV u=some x:=by
 cases x with
 | non=>cases r; rfl
 | bl _=>cases r; rfl
 | int _=>obtain ⟨t,rfl⟩:=r; rfl
 | str _=>obtain ⟨t,rfl⟩:=r; rfl
 | byt _=>obtain ⟨t,rfl⟩:=r; rfl
 | flt _=>obtain ⟨t,rfl⟩:=r; rfl
 | ref _=>cases r; rfl
 | ty _=>cases r; rfl
theorem RelV.inj {x y:V} {u:Value} (r:RelV x u) (q:RelV y u):x=y:=Option.some.inj (r.abs.symm.trans q.abs)
theorem Vals.inj:∀{xs ys:List V} {us:List Value},Vals xs us→Vals ys us→xs=ys
 | _,_,_,.nil,.nil=>rfl
 | _,_,_,.cons r t,.cons r' t'=>by rw [r.inj r',Vals.inj t t']
section
variable {X:Cx} {pins:List (Addr × Obj)} {σ:St} {H:Hp} {s:Shared} {a:Addr} {xs ys:List V}
theorem SqL.of {K:PySem.W.Frag} (h:H a=some (.lst xs)):SqL K H a xs:=.inl (.inl h)
theorem SqT.of {K:PySem.W.Frag} (h:H a=some (.tup xs)):SqT K H a xs:=.inl (.inl h)
theorem Inv.list (I:Inv X pins σ H s) (h:SqL X.K H a xs):∃its:List Value,Vals xs its∧PlainL s.heap a its.toArray∧xs.length≤sizeLine:=by
 rcases h with h | ⟨o,its,n,hk,hc,hd,hs,hz,r⟩
 ·obtain ⟨z,its,n,r,e⟩:=h.ok I.hok
  exact ⟨its,r,⟨_,n,e,rfl,rfl,rfl⟩,z⟩
 ·refine ⟨its.toList,r,⟨o,n,I.kIn a o hk,hc,hd,by simpa using hs⟩,?_⟩
  have e:=r.length
  simp only [Array.length_toList] at e
  omega
theorem Inv.tuple (I:Inv X pins σ H s) (h:SqT X.K H a xs):∃its:List Value,Vals xs its∧IsTup s.heap a its.toArray∧xs.length≤sizeLine:=by
 rcases h with h | ⟨o,its,n,hk,hc,hs,hz,r⟩
 ·obtain ⟨z,its,r,p⟩:=h.ok I.hok
  exact ⟨its,r,p,z⟩
 ·refine ⟨its.toList,r,⟨o,I.kIn a o hk,hc,n,by simpa using hs⟩,?_⟩
  have e:=r.length
  simp only [Array.length_toList] at e
  omega
theorem Inv.list_inj (I:Inv X pins σ H s) (h:SqL X.K H a xs) (h':SqL X.K H a ys):xs=ys:=by
 obtain ⟨its,r,⟨o,n,e,_,_,d⟩,_⟩:=I.list h
 obtain ⟨its',r',⟨o',n',e',_,_,d'⟩,_⟩:=I.list h'
 rw [e] at e'; cases e'
 rw [d] at d'
 injection d' with d1 _
 have:its=its':=by simpa using congrArg Array.toList d1
 subst this
 exact r.inj r'
end
abbrev Cx.wish (X:Cx) (E:Value→Shared→Prop):Cx:={X with xe:=E}
abbrev Cx.nox (X:Cx):Cx:=X.wish fun _ _=>False
theorem Cx.Ok.wish {X:Cx} (ok:X.Ok) (E:Value→Shared→Prop):(X.wish E).Ok:=
 ⟨ok.mod,ok.kind,ok.glob,ok.blt,ok.above,ok.inj,ok.has,ok.cab,ok.hd,ok.frames,ok.stk,ok.exf,ok.bs,ok.bsz,ok.noex,ok.exfs,ok.funs,ok.frf⟩
theorem Cx.Ok.unwish {X:Cx} {E:Value→Shared→Prop} (ok:(X.wish E).Ok):X.Ok:=
 ⟨ok.mod,ok.kind,ok.glob,ok.blt,ok.above,ok.inj,ok.has,ok.cab,ok.hd,ok.frames,ok.stk,ok.exf,ok.bs,ok.bsz,ok.noex,ok.exfs,ok.funs,ok.frf⟩
section
variable {X:Cx} {pins:List (Addr × Obj)} {σ:St} {H:Hp} {s:Shared} {E:Value→Shared→Prop}
theorem Inv.wish (I:Inv X pins σ H s) (E:Value→Shared→Prop):Inv (X.wish E) pins σ H s:=⟨I.ok.wish E,I.os,I.bare,I.base,I.loc,I.cell,I.free,I.freeC,I.pin,I.hok,I.len⟩
theorem Inv.unwish (I:Inv (X.wish E) pins σ H s):Inv X pins σ H s:=⟨I.ok.unwish,I.os,I.bare,I.base,I.loc,I.cell,I.free,I.freeC,I.pin,I.hok,I.len⟩
theorem SP.unwish {D:Ends} {f:Flow} {s':Shared} (h:SP (X.wish E) pins D f s'):SP X pins D f s':=by
 cases f with
 | next=>obtain ⟨σ',H',I,q⟩:=h; exact ⟨σ',H',I.unwish,q⟩
 | brk=>obtain ⟨σ',H',I,q⟩:=h; exact ⟨σ',H',I.unwish,q⟩
 | cont=>obtain ⟨σ',H',I,q⟩:=h; exact ⟨σ',H',I.unwish,q⟩
 | ret u=>obtain ⟨v,σ',H',I,r,q⟩:=h; exact ⟨v,σ',H',I.unwish,r,q⟩
theorem PSs.nox {st:List Stmt} {t:TS} (h:PSs X.nox st t):PSs X st t:=fun pins s σ H D I hw=>
 wpAny_mono (h pins s σ H D (I.wish _) hw) (fun _ _ q=>q.unwish) fun _ _ z=>False.elim z
end
section
variable {X:Cx} {st:Stmt} {rest:List Stmt} {t u:TS} {e:Expr} {te:TE} {pos:Pos}
def tNext:TS:=fun D σ H=>D.nx σ H
def tSeq (t u:TS):TS:=fun D σ H=>t {D with nx:=u D} σ H
theorem pss_nil:PSs X [] tNext:=fun _ _ σ H _ I h=>wpAny_execs_nil ⟨σ,H,I,h⟩
theorem pss_cons (h1:PS X st t) (h2:PSs X rest u):PSs X (st :: rest) (tSeq t u):=by
 intro pins s σ H D I h
 refine wpAny_execs_cons (thn (h1 pins s σ H {D with nx:=u D} I h) fun f s1 q=>?_)
 cases f with
 | next=>
  obtain ⟨σ',H',I',q⟩:=q
  exact h2 pins s1 σ' H' D I' q
 | ret v=>exact q
 | brk=>exact q
 | cont=>exact q
theorem pss_one (h1:PS X st t):PSs X [st] t:=by
 intro pins s σ H D I h
 refine wpAny_execs_cons (thn (h1 pins s σ H D I h) fun f s1 q=>?_)
 cases f with
 | next=>exact wpAny_execs_nil q
 | ret v=>exact q
 | brk=>exact q
 | cont=>exact q
theorem Inv.quiet {pins:List (Addr × Obj)} {σ:St} {H:Hp} {s:Shared} (I:Inv X pins σ H s):interactive X.env=false:=by simp [interactive,I.ok.kind]
def tDrop (te:TE):TS:=fun D σ H=>te σ H fun _ H1=>D.nx σ H1
theorem ps_expr (he:PE X e te) (hs:swapsWith e none pos.line X.env=pure false:=by rfl):PS X (.Expr e pos) (tDrop te):=by
 intro pins s σ H D I h
 exact wpAny_Expr_any (thn (he pins s σ H _ I h) fun v s1 ⟨x,H1,I1,r1,q1⟩=>⟨σ,H1,I1,q1⟩) I.quiet hs
def tRet (te:TE):TS:=fun D σ H=>te σ H D.rt
theorem ps_ret (he:PE X e te):PS X (.Return (some e) pos) (tRet te):=by
 intro pins s σ H D I h
 exact wpAny_Return_some (thn (he pins s σ H _ I h) fun v s1 ⟨x,H1,I1,r1,q1⟩=>⟨x,σ,H1,I1,r1,q1⟩)
def tIfS (c:TT) (t u:TS):TS:=fun D σ H=>c σ H fun b H1=>if b=true then t D σ H1 else u D σ H1
theorem ps_if {c:Expr} {a b:List Stmt} {tc:TT} (hc:PT X c tc) (ha:PSs X a t) (hb:PSs X b u):PS X (.If c a b pos) (tIfS tc t u):=by
 intro pins s σ H D I h
 refine wpAny_If (thn (hc pins s σ H _ I h) fun d s1 ⟨H1,I1,q1⟩=>?_)
 cases d with
 | true=>exact ha pins s1 σ H1 D I1 q1
 | false=>exact hb pins s1 σ H1 D I1 q1
end
abbrev TG:=V→St→Hp→(St→Hp→Prop)→Prop
abbrev TGs:=List V→St→Hp→(St→Hp→Prop)→Prop
def PG (X:Cx) (target:Expr) (t:TG):Prop:=
 ∀(pins:List (Addr × Obj)) (s:Shared) (σ:St) (H:Hp) (v:V) (u:Value) (Q:St→Hp→Prop),Inv X pins σ H s→RelV v u→t v σ H Q→
  wpAny (model X.prog X.w) X.A (assign target X.env u) (fun _ s'=>∃σ' H',Inv X pins σ' H' s'∧Q σ' H') X.xe s
def PGs (X:Cx) (ts:List Expr) (t:TGs):Prop:=
 ∀(pins:List (Addr × Obj)) (s:Shared) (σ:St) (H:Hp) (vs:List V) (us:List Value) (Q:St→Hp→Prop),Inv X pins σ H s→Vals vs us→t vs σ H Q→
  wpAny (model X.prog X.w) X.A (assignInOrder ((assignEach ts X.env).map (·.2)) us) (fun _ s'=>∃σ' H',Inv X pins σ' H' s'∧Q σ' H') X.xe s
section
variable {X:Cx} {pos:Pos}
def gName (i:Nat):TG:=fun v σ H Q=>Q (σ.set i (some v)) H
theorem pg_name {i:Nat} {x:Str} (hN:X.N.Nodup) (hi:X.N[i]? = some x) (hx:Loc X.env.scope x) (hf:X.fn x=true∨X.env.scope.names.lookup x=some .local:=by first | exact .inl rfl | exact .inr rfl | assumption):PG X (.Name x pos) (gName i):=by
 intro pins s σ H v u Q I r h
 exact wpAny_assign_Name (store_ok I hN hi hx r (fun s' I'=>⟨_,H,I',h⟩) hf)
def gNil:TGs:=fun vs σ H Q=>vs=[]∧Q σ H
def gCons (t:TG) (u:TGs):TGs:=fun vs σ H Q=>∃v r,vs=v :: r∧t v σ H fun σ' H'=>u r σ' H' Q
theorem pgs_nil:PGs X [] gNil:=by
 intro pins s σ H vs us Q I r h
 obtain ⟨e,h⟩:=h
 subst e
 cases r
 exact assignInOrder_nil ⟨σ,H,I,h⟩
theorem pgs_cons {e:Expr} {es:List Expr} {t:TG} {u:TGs} (h1:PG X e t) (h2:PGs X es u)
  (hs:(assignEach (e :: es) X.env).map (·.2)=assign e X.env :: (assignEach es X.env).map (·.2):=by rfl):PGs X (e :: es) (gCons t u):=by
 intro pins s σ H vs us Q I r h
 obtain ⟨v,vr,e1,h⟩:=h
 subst e1
 cases r with
 | cons r rr=>
  rw [hs]
  refine assignInOrder_cons (thn (h1 pins s σ H _ _ _ I r h) fun _ s1 ⟨σ1,H1,I1,q1⟩=>?_)
  exact h2 pins s1 σ1 H1 _ _ Q I1 rr q1
def gTup (K:PySem.W.Frag) (n:Nat) (t:TGs):TG:=fun v σ H Q=>∃a xs,v = .ref a∧SqT K H a xs∧xs.length=n∧t xs σ H Q
theorem pg_tup {es:List Expr} {k:Nat} {t:TGs} {n:Nat} (hc:X.calm=true) (h:PGs X es t)
  (hn:(assignEach es X.env).length=n:=by rfl) (hst:(assignEach es X.env).findIdx? (·.1)=none:=by rfl):PG X (.Tuple es k pos) (gTup X.K n t):=by
 intro pins s σ H v u Q I r hw
 obtain ⟨a,xs,e1,hq,hl,hw⟩:=hw
 subst e1
 cases r
 obtain ⟨its,rv,ht,hz⟩:=I.tuple hq
 refine assign_Tuple_tuple (I.ok.hd hc) ht (by simp [hn,← hl,rv.length]) hst fun h' hx=>?_
 have I1:Inv X pins σ H {s with heap:=h'}:=I.kept (t':=s.toks) fun b o e=>hx b o (Nat.ne_of_lt (Heap.lt_size e)) e
 exact h pins _ σ H xs _ Q I1 (by simpa using rv) hw
def tAsg (te:TE) (g:TG):TS:=fun D σ H=>te σ H fun x H1=>g x σ H1 D.nx
theorem ps_asg {tg e:Expr} {te:TE} {g:TG} (he:PE X e te) (hg:PG X tg g) (hs:swapsWithSole [tg] e pos.line X.env=pure false:=by rfl) (hw:swappedStores [tg] e X.env=pure none:=by rfl)
  (h1:(assignEach [tg] X.env).map (·.2)=[assign tg X.env]:=by rfl):PS X (.Assign [tg] e pos) (tAsg te g):=by
 intro pins s σ H D I h
 refine wpAny_Assign_stores (thn (he pins s σ H _ I h) fun v s1 ⟨x,H1,I1,r1,q1⟩=>?_) hs hw
 rw [h1]
 exact thn (hg pins s1 σ H1 x v _ I1 r1 q1) fun _ s2 q=>q
theorem ps_set {i:Nat} {x:Str} {e:Expr} {te:TE} {pos':Pos} (hN:X.N.Nodup) (hi:X.N[i]? = some x) (hx:Loc X.env.scope x) (he:PE X e te) (hs:swapsWith e (some (.Name x pos')) pos.line X.env=pure false:=by rfl) (hf:X.fn x=true∨X.env.scope.names.lookup x=some .local:=by first | exact .inl rfl | exact .inr rfl | assumption) :
  PS X (.Assign [.Name x pos'] e pos) (tAsg te (gName i)):=by
 intro pins s σ H D I h
 refine wpAny_Assign_Name (thn (he pins s σ H _ I h) fun v s1 ⟨y,H1,I1,r1,q1⟩=>?_) hs
 exact store_ok I1 hN hi hx r1 (fun s2 I2=>⟨_,H1,I2,q1⟩) hf
def tPar (i j:Nat) (ta:TA):TS:=fun D σ H=>ta σ H fun vs H1=>∃v w,vs=[v,w]∧D.nx ((σ.set i (some v)).set j (some w)) H1
theorem ps_par {i j:Nat} {x y:Str} {a b:Expr} {ta:TA} {px py pt:Pos} {kt k2 pt2} (hc:X.calm=true) (hN:X.N.Nodup) (hi:X.N[i]? = some x) (hj:X.N[j]? = some y) (hij:i≠j)
  (hx:X.env.scope.names.lookup x=some .local) (hy:X.env.scope.names.lookup y=some .local) (ha:PA X [a,b] ta)
  (hw:swappedStores [.Tuple [.Name x px,.Name y py] kt pt] (.Tuple [a,b] k2 pt2) X.env=pure (some [x,y]))
  (hs:swapsWithSole [.Tuple [.Name x px,.Name y py] kt pt] (.Tuple [a,b] k2 pt2) pos.line X.env=pure false:=by rfl) :
  PS X (.Assign [.Tuple [.Name x px,.Name y py] kt pt] (.Tuple [a,b] k2 pt2) pos) (tPar i j ta):=by
 intro pins s σ H D I h
 rw [exec_Assign_arm]
 refine wpAny_bind (wpAny_standAt ?_)
 rw [hs]
 refine wpAny_bind (wpAny_pure ?_)
 rw [if_neg (by decide)]
 refine wpAny_bind (Tuple_ (thn (ha _ pins s σ H _ I h) fun us s1 ⟨vs,H1,I1,r1,q1⟩=>?_))
 obtain ⟨v,w,e1,q1⟩:=q1
 subst e1
 obtain ⟨u1,u2,rfl,rv,rw'⟩:∃u1 u2,us=[u1,u2]∧RelV v u1∧RelV w u2:=by
  cases r1 with
  | cons p q=>
   cases q with
   | cons p' q'=>
    cases q'
    exact ⟨_,_,rfl,p,p'⟩
 refine wpAny_newObj_type ?_ (by show 2≤sizeLine; decide)
 have I2:Inv X pins σ H1 {s1 with heap:=s1.heap.push {cls:=.type "tuple",data:=.seq [u1,u2].toArray}}:=I1.kept (t':=s1.toks) fun b o e=>Heap.get?_push_of_some _ e
 rw [hw]
 refine wpAny_bind (wpAny_pure ?_)
 show wpAny (model X.prog X.w) X.A (do rule "assign.swapped-stores"; let items ← unpackItems (.ref s1.heap.objs.size) 2 none; assignInOrder [fun v=>bindName X.env y v,fun v=>bindName X.env x v] items.reverse; pure Flow.next) _ _ _
 refine wpAny_bind (wpAny_rule (wpAny_bind (unpackItems_tuple (items:=#[u1,u2]) (I.ok.hd hc) (IsTup.new s1.heap _) fun h' hx'=>?_)))
 have I3:=I2.kept (h':=h') (t':=s1.toks) fun b o e=>hx' b o (Nat.ne_of_lt (Heap.lt_size e)) e
 show wpAny _ _ (assignInOrder [fun v=>bindName X.env y v,fun v=>bindName X.env x v] [u2,u1] >>= fun _=>pure Flow.next) _ _ _
 refine wpAny_bind (assignInOrder_cons (wpAny_bindName (store_ok I3 hN hj (.inl hy) rw' (fun s2 I4=>?_) (.inr hy))))
 refine assignInOrder_cons (wpAny_bindName (store_ok I4 hN hi (.inl hx) rv (fun s3 I5=>assignInOrder_nil (wpAny_pure ?_)) (.inr hx)))
 rw [List.set_comm _ _ (Ne.symm hij)] at I5
 exact ⟨_,H1,I5,q1⟩
def tWhile (c:TT) (tb:TS):TS:=fun D σ H=>∃W:Nat→St→Hp→Prop,(∃m,W m σ H)∧∀m σ H,W m σ H→
 c σ H fun b H1=>if b=true then ∃N:St→Hp→Prop,(∀σ' H',N σ' H'→∃m',m' < m∧W m' σ' H')∧tb {D with nx:=N,ct:=N,bk:=D.nx} σ H1 else D.nx σ H1
theorem ps_while {c:Expr} {body:List Stmt} {tc:TT} {tb:TS} (hp:PassesOwn (model X.prog X.w) X.A X.env X.xe) (hc:PT X c tc) (hb:PSs X body tb):PS X (.While c body [] pos) (tWhile tc tb):=by
 intro pins s σ H D I h
 obtain ⟨W,⟨m0,w0⟩,turn⟩:=h
 refine wpAny_While (codeAny_whileLoop (fun n s'=>∃σ' H',Inv X pins σ' H' s'∧W n σ' H') ?_ m0 ⟨σ,H,I,w0⟩)
 rintro n s1 ⟨σ1,H1,I1,w1⟩
 refine wpAny_passesOwn hp (thn (hc pins s1 σ1 H1 _ I1 (turn n σ1 H1 w1)) fun b s2 ⟨H2,I2,q2⟩=>?_)
 cases b with
 | true=>
  obtain ⟨N,hN,q2⟩:=q2
  rw [if_pos rfl]
  refine wpAny_passesOwn hp (thn (hb pins s2 σ1 H2 _ I2 q2) fun f s3 q3=>?_)
  cases f with
  | next=>
   obtain ⟨σ3,H3,I3,n3⟩:=q3
   obtain ⟨m',hm,w3⟩:=hN σ3 H3 n3
   exact ⟨m',hm,σ3,H3,I3,w3⟩
  | cont=>
   obtain ⟨σ3,H3,I3,n3⟩:=q3
   obtain ⟨m',hm,w3⟩:=hN σ3 H3 n3
   exact ⟨m',hm,σ3,H3,I3,w3⟩
  | brk=>exact q3
  | ret v=>exact q3
 | false=>
  rw [if_neg Bool.false_ne_true]
  exact wpAny_execs_nil ⟨σ1,H2,I2,q2⟩
end
structure It where
 go:Nat→Hp→Prop
 yld:Nat→Hp→V→Hp→Prop
 stop:Nat→Hp→Prop
def FpOk (X:Cx) (pins:List (Addr × Obj)) (H:Hp) (b:Addr):Prop:=
 H b=none∧b≠X.env.locals∧b∉X.fs∧(b∈X.ex∨X.s₀.heap.objs.size≤b)∧(∀x c,X.env.cells.lookup x=some c→c≠b)∧∀p∈X.pn ++ pins,p.1≠b
theorem Inv.fpOk {X:Cx} {pins:List (Addr × Obj)} {σ:St} {H H':Hp} {s:Shared} {b:Addr} (I:Inv X pins σ H s) (hb:s.heap.objs.size≤b) (hn:H' b=none):FpOk X pins H' b:=by
 refine ⟨hn,Nat.ne_of_gt (Nat.lt_of_lt_of_le I.lt hb),I.nofs hb,.inr (Nat.le_trans I.sz hb),fun x c e z=>?_,fun p hp z=>?_⟩
 ·obtain ⟨v,q⟩:=I.cell x c e
  exact absurd (Nat.lt_of_lt_of_le q.lt (by rw [z]; exact hb)) (Nat.lt_irrefl _)
 ·exact absurd (Nat.lt_of_lt_of_le (Heap.lt_size (I.pin p hp).1) (by rw [z]; exact hb)) (Nat.lt_irrefl _)
structure Turn (P:Program) (w:World) (K:PySem.W.Frag) (tg:Expr) (J:It) (fp:List Addr) (it:Addr) (tn:Nat→Heap→Prop):Prop where
 mem:it∈fp
 obj:∀i h,tn i h→∀b∈fp,∃o,h.get? b=some o∧∀v,o.data≠.cell v
 keep:∀i h h',tn i h→(∀b∈fp,∀o,h.get? b=some o→h'.get? b=some o)→tn i h'
 item:∀(X:Cx),X.prog=P→X.w=w→X.K=K→X.calm=true→∀(i:Nat) (pins:List (Addr × Obj)) (s:Shared) (σ:St) (H:Hp) (E:Value→Shared→Prop),Inv X pins σ H s→(∀b∈fp,FpOk X pins H b)→tn i s.heap→J.go i H→
  wpAny (model P w) X.A (pyNext (.ref it)) (fun r s1=>∃u,r=some u∧
   wpAny (model P w) X.A (letOwnedTupleGo tg (.ref it) u) (fun _ s2=>∃x H',Inv X pins σ H' s2∧RelV x u∧J.yld i H x H'∧tn (i + 1) s2.heap∧∀b∈fp,H' b=none) E s1) E s
 done:∀(X:Cx),X.prog=P→X.w=w→X.K=K→X.calm=true→∀(i:Nat) (pins:List (Addr × Obj)) (s:Shared) (σ:St) (H:Hp) (E:Value→Shared→Prop),Inv X pins σ H s→(∀b∈fp,FpOk X pins H b)→tn i s.heap→J.stop i H→
  wpAny (model P w) X.A (pyNext (.ref it)) (fun r s1=>r=none∧Inv X pins σ H s1) E s
 self:∀(A:Around) (i:Nat) (s:Shared) (Q:Value→Shared→Prop) (E:Value→Shared→Prop),tn i s.heap→Q (.ref it) s→wpAny (model P w) A (pyIter (.ref it)) Q E s
abbrev TI:=St→Hp→(It→Hp→Prop)→Prop
def PIE (X:Cx) (pins:List (Addr × Obj)) (σ:St) (tg:Expr) (R:It→Hp→Prop) (itv:Value) (s2:Shared):Prop:=
 ∃(it:Addr) (fp:List Addr) (tn:Nat→Heap→Prop) (J:It) (H':Hp),itv = .ref it∧Inv X pins σ H' s2∧Turn X.prog X.w X.K tg J fp it tn∧tn 0 s2.heap∧(∀b∈fp,FpOk X pins H' b)∧R J H'
def PI (X:Cx) (tg iter:Expr) (wi:TI):Prop:=
 ∀(pins:List (Addr × Obj)) (s:Shared) (σ:St) (H:Hp) (R:It→Hp→Prop),Inv X pins σ H s→wi σ H R→
  wpAny (model X.prog X.w) X.A (eval iter X.env) (fun v s1=>wpAny (model X.prog X.w) X.A (pyIter v) (PIE X pins σ tg R) X.xe s1) X.xe s
theorem go_of {M:Model} {A:Around} {E:Value→Shared→Prop} {s:Shared} {tg:Expr} {it:Addr} {u:Value} {o:Obj} {n:String} {vs:Array Value} {Q:Unit→Shared→Prop} (ho:s.heap.get? it=some o) (hc:o.cls = .type n) (hd:o.data = .fields vs)
    (hn:["enumerate","zip","dict_itemiterator","dict_reverseitemiterator","odict_iterator","itertools.zip_longest","itertools.pairwise"].contains n=false) (hQ:Q () s):wpAny M A (letOwnedTupleGo tg (.ref it) u) Q E s:=by
  unfold letOwnedTupleGo
  cases tg <;> first
    | exact wpAny_pure hQ
    | (cases u <;> first
        | exact wpAny_pure hQ
        | (refine wpAny_bind (wpAny_load ho ?_)
           rw [hc,hd]
           show wpAny M A (if (["enumerate","zip","dict_itemiterator","dict_reverseitemiterator","odict_iterator","itertools.zip_longest","itertools.pairwise"].contains n && vs[0]? == some (rawInt _))=true then _ else _) Q E s
           rw [if_neg (by intro h; rw [hn,Bool.false_and] at h; cases h)]
           exact wpAny_pure hQ))
def Itl (K:PySem.W.Frag) (a:Addr):It:=
 ⟨fun i H=>∃xs x,SqL K H a xs∧xs[i]? = some x,fun i H x H'=>H'=H∧∀xs,SqL K H a xs→xs[i]? = some x,fun i H=>∃xs,SqL K H a xs∧xs.length≤i⟩
def Itr (lo:Int) (n:Nat):It:=⟨fun i _=>i < n,fun i H x H'=>H'=H∧x = .int (lo + i),fun i _=>n≤i⟩
theorem turn_list {P:Program} {w:World} {K:PySem.W.Frag} {tg:Expr} (a it:Addr):Turn P w K tg (Itl K a) [it] it (fun i h=>h.IsListIter it a i) where
 mem:=by simp
 obj:=fun i h st b hb=>by
  have e:b=it:=by simpa using hb
  subst e
  obtain ⟨o,e,c,d⟩:=st
  exact ⟨o,e,fun v z=>by rw [d] at z; cases z⟩
 keep:=fun i h h' st k=>st.at fun o e=>k it (by simp) o e
 item:=by
  intro X hP hw hK hc i pins s σ H E I hf st hg
  subst hP hw hK
  obtain ⟨xs,x,hq,hx⟩:=hg
  obtain ⟨its,rv,p,hz⟩:=I.list hq
  obtain ⟨u,hu,ru⟩:=rv.get hx
  obtain ⟨f0,f1,f2,f3,f4,f5⟩:=hf it (by simp)
  refine wpAny_pyNext_list_item st p.isList (x:=u) (by simpa using hu) fun h' st' sb=>?_
  have I1:Inv X pins σ H {s with heap:=h'}:=I.turned (t':=s.toks) (fun b o hb e=>(sb.2 b hb).trans e) f0 f1 f3 f4 f5
  obtain ⟨o,e,c,d⟩:=id st'
  exact ⟨u,rfl,go_of (s:={s with heap:=h'}) e c d (by decide) ⟨x,H,I1,ru,⟨rfl,fun ys hy=>by rw [I.list_inj hy hq]; exact hx⟩,st',fun b hb=>(hf b hb).1⟩⟩
 done:=by
  intro X hP hw hK hc i pins s σ H E I hf st hg
  subst hP hw hK
  obtain ⟨xs,hq,hx⟩:=hg
  obtain ⟨its,rv,p,hz⟩:=I.list hq
  obtain ⟨f0,f1,f2,f3,f4,f5⟩:=hf it (by simp)
  have hl:=rv.length
  exact wpAny_pyNext_list_end (I.ok.hd hc) st p.isList (by simp; omega) fun h' eb=>⟨rfl,I.turned (t':=s.toks) (fun b o hb e=>eb b o hb e) f0 f1 f3 f4 f5⟩
 self:=fun _ _ _ _ _ st h=>wpAny_pyIter_listiter st h
theorem turn_range {P:Program} {w:World} {K:PySem.W.Frag} {tg:Expr} (it:Addr) (lo:Int) (n:Nat):Turn P w K tg (Itr lo n) [it] it (fun i h=>IsRangeIter h it (lo + (i:Nat) * 1) ((n:Int) - (i:Nat)) 1) where
 mem:=by simp
 obj:=fun i h st b hb=>by
  have e:b=it:=by simpa using hb
  subst e
  exact ⟨_,st,fun v z=>by
   have z':Data.fields _=Data.cell v:=z
   cases z'⟩
 keep:=fun i h h' st k=>k it (by simp) _ st
 item:=by
  intro X hP hw hK hc i pins s σ H E I hf st hg
  subst hP hw hK
  obtain ⟨f0,f1,f2,f3,f4,f5⟩:=hf it (by simp)
  have W:=Walks.range (prog:=X.prog) (w:=X.w) (I.ok.hd hc) it lo 1 n
  refine W.item i s _ _ hg st fun v h' tk hv st' kk=>?_
  obtain ⟨t,rfl⟩:=hv
  have I1:Inv X pins σ H {s with heap:=h',toks:=tk}:=I.turned (fun b o hb e=>kk b o (by simpa using hb) e) f0 f1 f3 f4 f5
  refine ⟨_,rfl,go_of (s:={s with heap:=h',toks:=tk}) (n:="range_iterator") st' rfl rfl (by decide) ⟨.int (lo + i),H,I1,⟨t,?_⟩,⟨rfl,rfl⟩,st',fun b hb=>(hf b hb).1⟩⟩
  rw [Int.mul_one]
 done:=by
  intro X hP hw hK hc i pins s σ H E I hf st hg
  subst hP hw hK
  obtain ⟨f0,f1,f2,f3,f4,f5⟩:=hf it (by simp)
  exact wpAny_pyNext_range_end (I.ok.hd hc) st (by have:n≤i:=hg; omega) fun h' eb=>⟨rfl,I.turned (t':=s.toks) (fun b o hb e=>eb b o hb e) f0 f1 f3 f4 f5⟩
 self:=fun _ _ _ _ _ st h=>wpAny_pyIter_rangeiter st h
section
variable {X:Cx} {tg:Expr}
def iList (K:PySem.W.Frag) (tl:TE):TI:=fun σ H R=>tl σ H fun x H1=>∃a,x = .ref a∧(∃xs,SqL K H1 a xs)∧R (Itl K a) H1
theorem pi_list {l:Expr} {tl:TE} (hl:PE X l tl):PI X tg l (iList X.K tl):=by
 intro pins s σ H R I h
 refine thn (hl pins s σ H _ I h) fun v s1 ⟨x,H1,I1,r1,q1⟩=>?_
 obtain ⟨a,e,⟨xs,hq⟩,q⟩:=q1
 subst e
 cases r1
 obtain ⟨its,rv,p,hz⟩:=I1.list hq
 refine wpAny_pyIter_list p.isList ?_
 refine ⟨s1.heap.objs.size,[s1.heap.objs.size],_,_,H1,rfl,I1.kept (t':=s1.toks) fun b o e=>Heap.get?_push_of_some _ e,turn_list a _,⟨_,Heap.get?_push_size _ rfl,rfl,rfl⟩,fun b hb=>?_,q⟩
 have e:b=s1.heap.objs.size:=by simpa using hb
 subst e
 exact I1.fpOk (Nat.le_refl _) (I1.hok.fresh (Nat.le_refl _))
theorem range_it {pins:List (Addr × Obj)} {σ:St} {H:Hp} {s:Shared} {R:It→Hp→Prop} {E:Value→Shared→Prop} {lo hi:Int} {t u v:Tok} {tk:Nat} (I:Inv X pins σ H s) (h1:-(2 ^ 62)≤lo) (h2:lo < 2 ^ 62) (h3:-(2 ^ 62)≤hi) (h4:hi < 2 ^ 62)
  (q:R (Itr lo (hi - lo).toNat) H):wpAny (model X.prog X.w) X.A (pyIter (.ref s.heap.objs.size)) (PIE X pins σ tg R) E {s with heap:=s.heap.push {cls:=.type "range",data:=.fields #[.int lo t,.int hi u,.int 1 v]},toks:=tk}:=by
 refine wpAny_pyIter_range (IsRange.new ..) (small_one h1 h2 h3 h4) ?_
 have I1:Inv X pins σ H {s with heap:=s.heap.push {cls:=.type "range",data:=.fields #[.int lo t,.int hi u,.int 1 v]},toks:=tk}:=I.kept fun b o e=>Heap.get?_push_of_some _ e
 refine ⟨(s.heap.push {cls:=.type "range",data:=.fields #[.int lo t,.int hi u,.int 1 v]}).objs.size,[(s.heap.push {cls:=.type "range",data:=.fields #[.int lo t,.int hi u,.int 1 v]}).objs.size],_,_,H,rfl,
  I1.kept (t':=tk) fun b o e=>Heap.get?_push_of_some _ e,turn_range _ lo (hi - lo).toNat,?_,fun b hb=>?_,q⟩
 ·have e1:lo + ((0:Nat):Int) * 1=lo:=by simp
  have e2:(((hi - lo).toNat:Nat):Int) - ((0:Nat):Int)=Builtin.Range.rangeSize lo hi 1:=by rw [rangeSize_one]; split <;> omega
  show IsRangeIter _ _ (lo + ((0:Nat):Int) * 1) ((((hi - lo).toNat:Nat):Int) - ((0:Nat):Int)) 1
  rw [e1,e2]
  exact Heap.get?_push_size _ rfl
 ·have e:b=(s.heap.push {cls:=.type "range",data:=.fields #[.int lo t,.int hi u,.int 1 v]}).objs.size:=by simpa using hb
  subst e
  exact I1.fpOk (Nat.le_refl _) (I1.hok.fresh (Nat.le_refl _))
def iRng1 (ta:TA):TI:=fun σ H R=>ta σ H fun vs H1=>∃j:Int,vs=[.int j]∧-(2 ^ 62)≤j∧j < 2 ^ 62∧R (Itr 0 j.toNat) H1
theorem pi_range1 {a:Expr} {ta:TA} {p pos:Pos} (hg:Gl X "range") (hm:X.mg "range" = none) (ha:PA X [a] ta) (hs:starEach [a] X.env=[(false,eval a X.env)]:=by rfl):PI X tg (.Call (.Name "range" p) [a] [] pos) (iRng1 ta):=by
 intro pins s σ H R I h
 refine Call_ (ld_blt I hg hm boot_range (PyProof.Rows.callWith_type1 (thn (ha pos pins s σ H _ I h) fun us s1 ⟨vs,H1,I1,r1,q1⟩=>?_) hs rfl))
 obtain ⟨j,e,q1,q2,q⟩:=q1
 subst e
 cases r1 with
 | cons r rr=>
  cases rr
  obtain ⟨t,rfl⟩:=r
  exact call_range_1 (range_it I1 (by omega) (by omega) q1 q2 (by simpa using q))
def tFor (wi:TI) (g:TG) (tb:TS):TS:=fun D σ H=>wi σ H fun J H1=>∃W:Nat→Nat→St→Hp→Prop,(∃m,W 0 m σ H1)∧∀i m σ H,W i m σ H→
 (J.stop i H∧D.nx σ H)∨(J.go i H∧∃N:St→Hp→Prop,(∀σ' H',N σ' H'→∃m',m' < m∧W (i + 1) m' σ' H')∧∀x H',J.yld i H x H'→g x σ H' fun σ2 H2=>tb {D with nx:=N,ct:=N,bk:=D.nx} σ2 H2)
def pinsAt (fp:List Addr) (h:Heap):List (Addr × Obj):=fp.filterMap fun b=>(h.get? b).map fun o=>(b,o)
theorem mem_pinsAt {fp:List Addr} {h:Heap} {b:Addr} {o:Obj} (hb:b∈fp) (e:h.get? b=some o):(b,o)∈pinsAt fp h:=List.mem_filterMap.mpr ⟨b,hb,by rw [e]; rfl⟩
theorem of_pinsAt {fp:List Addr} {h:Heap} {p:Addr × Obj} (hp:p∈pinsAt fp h):p.1∈fp∧h.get? p.1=some p.2:=by
 obtain ⟨b,hb,e⟩:=List.mem_filterMap.mp hp
 cases q:h.get? b with
 | none=>rw [q] at e; cases e
 | some o=>
  rw [q] at e
  have e':(b,o)=p:=Option.some.inj e
  subst e'
  exact ⟨hb,q⟩
theorem Inv.pinned {pins:List (Addr × Obj)} {σ:St} {H:Hp} {s:Shared} {fp:List Addr} (I:Inv X pins σ H s) (hf:∀b∈fp,FpOk X pins H b) (ho:∀b∈fp,∃o,s.heap.get? b=some o∧∀v,o.data≠.cell v):Inv X (pins ++ pinsAt fp s.heap) σ H s:=
 I.pins_of fun p hp=>(List.mem_append.mp hp).elim (fun z=>I.pin p (List.mem_append_right _ z)) fun z=>by
  obtain ⟨hb,e⟩:=of_pinsAt z
  obtain ⟨f0,f1,f2,_⟩:=hf p.1 hb
  obtain ⟨o,e',d⟩:=ho p.1 hb
  rw [e] at e'; cases e'
  exact ⟨e,f0,f1,f2,d⟩
theorem Inv.unpinned {pins pl:List (Addr × Obj)} {σ:St} {H:Hp} {s:Shared} (I:Inv X (pins ++ pl) σ H s):Inv X pins σ H s:=I.pins_of fun p hp=>I.pin p (List.mem_append_right _ (List.mem_append_left _ hp))
theorem ps_for {iter:Expr} {body:List Stmt} {wi:TI} {g:TG} {tb:TS} {pos:Pos} (hp:PassesOwn (model X.prog X.w) X.A X.env X.xe) (hc:X.calm=true) (hi:PI X tg iter wi) (hg:PG X tg g) (hb:PSs X body tb)
  (hs:∀x,foldedSetIterable iter X.env x=pure x:=by intro _; rfl):PS X (.For tg iter body [] pos) (tFor wi g tb):=by
 intro pins s σ H D I h
 refine wpAny_For (thn (hi pins s σ H _ I h) fun v s1 h1=>thn h1 fun itv s2 h2=>?_) hs
 obtain ⟨it,fp,tn,J,H2,e,I2,T,st2,f2,W,⟨m0,w0⟩,turn⟩:=h2
 subst e
 have stat:∀{H':Hp},(∀b∈fp,H' b=none)→∀b∈fp,FpOk X pins H' b:=fun hn b hb=>⟨hn b hb,(f2 b hb).2⟩
 refine codeAny_forLoop_any (fun n s'=>∃i σ' H',Inv X pins σ' H' s'∧tn i s'.heap∧(∀b∈fp,H' b=none)∧W i n σ' H') ?_ m0 ⟨0,σ,H2,I2,st2,fun b hb=>(f2 b hb).1,w0⟩
 rintro n s3 ⟨i,σ3,H3,I3,st3,fr3,w3⟩
 rcases turn i n σ3 H3 w3 with ⟨stop,qn⟩ | ⟨go,N,hN,step⟩
 ·refine wpAny_passesOwn hp (thn (T.done X rfl rfl rfl hc i pins s3 σ3 H3 X.xe I3 (stat fr3) st3 stop) fun r s4 ⟨hr,I4⟩=>?_)
  subst hr
  exact wpAny_execs_nil ⟨σ3,H3,I4,qn⟩
 ·refine wpAny_passesOwn hp (thn (T.item X rfl rfl rfl hc i pins s3 σ3 H3 X.xe I3 (stat fr3) st3 go) fun r s4 ⟨u,hr,h4⟩=>?_)
  subst hr
  refine wpAny_passesOwn hp (thn h4 fun _ s5 ⟨x,H5,I5,r5,y5,st5,fr5⟩=>?_)
  have I5':=I5.pinned (stat fr5) (T.obj _ _ st5)
  refine wpAny_passesOwn hp (thn (hg _ s5 σ3 H5 x u _ I5' r5 (step x H5 y5)) fun _ s6 ⟨σ6,H6,I6,q6⟩=>?_)
  refine wpAny_passesOwn hp (thn (hb _ s6 σ6 H6 _ I6 q6) fun f s7 q7=>?_)
  have again:∀{σ7:St} {H7:Hp},Inv X (pins ++ pinsAt fp s5.heap) σ7 H7 s7→N σ7 H7→∃m,m < n∧∃i σ' H',Inv X pins σ' H' s7∧tn i s7.heap∧(∀b∈fp,H' b=none)∧W i m σ' H':=fun {σ7 H7} I7 n7=>by
   obtain ⟨m',hm,w7⟩:=hN σ7 H7 n7
   refine ⟨m',hm,i + 1,σ7,H7,I7.unpinned,T.keep _ _ _ st5 fun b hb o e=>(I7.pin (b,o) (List.mem_append_right _ (List.mem_append_right _ (mem_pinsAt hb e)))).1,fun b hb=>?_,w7⟩
   obtain ⟨o,e,d⟩:=T.obj _ _ st5 b hb
   exact (I7.pin (b,o) (List.mem_append_right _ (List.mem_append_right _ (mem_pinsAt hb e)))).2.1
  cases f with
  | next=>obtain ⟨σ7,H7,I7,n7⟩:=q7; exact again I7 n7
  | cont=>obtain ⟨σ7,H7,I7,n7⟩:=q7; exact again I7 n7
  | brk=>obtain ⟨σ7,H7,I7,q7⟩:=q7; exact ⟨σ7,H7,I7.unpinned,q7⟩
  | ret v=>obtain ⟨x7,σ7,H7,I7,r7,q7⟩:=q7; exact ⟨x7,σ7,H7,I7.unpinned,r7,q7⟩
end
theorem for_list {K:PySem.W.Frag} {a:Addr} {xs:List V} {g:TG} {tb:TS} {D:Ends} {σ:St} {H:Hp} (Pv:Nat→St→Hp→Prop) (h0:Pv 0 σ H) (hl:∀i σ H,i≤xs.length→Pv i σ H→SqL K H a xs)
  (hs:∀i x σ H,xs[i]? = some x→Pv i σ H→g x σ H fun σ2 H2=>tb {D with nx:=Pv (i + 1),ct:=Pv (i + 1),bk:=D.nx} σ2 H2) (hd:∀σ H,Pv xs.length σ H→D.nx σ H) :
  ∃W:Nat→Nat→St→Hp→Prop,(∃m,W 0 m σ H)∧∀i m σ H,W i m σ H→
   ((Itl K a).stop i H∧D.nx σ H)∨((Itl K a).go i H∧∃N:St→Hp→Prop,(∀σ' H',N σ' H'→∃m',m' < m∧W (i + 1) m' σ' H')∧∀x H',(Itl K a).yld i H x H'→g x σ H' fun σ2 H2=>tb {D with nx:=N,ct:=N,bk:=D.nx} σ2 H2):=by
 refine ⟨fun i m σ H=>m=xs.length - i∧i≤xs.length∧Pv i σ H,⟨xs.length,by simp,Nat.zero_le _,h0⟩,?_⟩
 rintro i m σ H ⟨rfl,hi,p⟩
 have q:=hl i σ H hi p
 by_cases hlt:i < xs.length
 ·refine .inr ⟨⟨xs,xs[i],q,by simp [hlt]⟩,Pv (i + 1),fun σ' H' p'=>⟨xs.length - (i + 1),by omega,rfl,hlt,p'⟩,fun x H' y=>?_⟩
  obtain ⟨e,y⟩:=y
  subst e
  exact hs i x σ _ (y xs q) p
 ·have e:i=xs.length:=by omega
  subst e
  exact .inl ⟨⟨xs,q,Nat.le_refl _⟩,hd σ H p⟩
theorem for_range {lo:Int} {n:Nat} {g:TG} {tb:TS} {D:Ends} {σ:St} {H:Hp} (Pv:Nat→St→Hp→Prop) (h0:Pv 0 σ H)
  (hs:∀i σ H,i < n→Pv i σ H→g (.int (lo + i)) σ H fun σ2 H2=>tb {D with nx:=Pv (i + 1),ct:=Pv (i + 1),bk:=D.nx} σ2 H2) (hd:∀σ H,Pv n σ H→D.nx σ H) :
  ∃W:Nat→Nat→St→Hp→Prop,(∃m,W 0 m σ H)∧∀i m σ H,W i m σ H→
   ((Itr lo n).stop i H∧D.nx σ H)∨((Itr lo n).go i H∧∃N:St→Hp→Prop,(∀σ' H',N σ' H'→∃m',m' < m∧W (i + 1) m' σ' H')∧∀x H',(Itr lo n).yld i H x H'→g x σ H' fun σ2 H2=>tb {D with nx:=N,ct:=N,bk:=D.nx} σ2 H2):=by
 refine ⟨fun i m σ H=>m=n - i∧i≤n∧Pv i σ H,⟨n,by simp,Nat.zero_le _,h0⟩,?_⟩
 rintro i m σ H ⟨rfl,hi,p⟩
 by_cases hlt:i < n
 ·refine .inr ⟨hlt,Pv (i + 1),fun σ' H' p'=>⟨n - (i + 1),by omega,rfl,hlt,p'⟩,fun x H' y=>?_⟩
  obtain ⟨e,y⟩:=y
  subst e y
  exact hs i σ _ hlt p
 ·have e:i=n:=by omega
  subst e
  exact .inl ⟨Nat.le_refl _,hd σ H p⟩
theorem while_by {c:TT} {tb:TS} {D:Ends} {σ:St} {H:Hp} (Pv:St→Hp→Prop) (μ:St→Hp→Nat) (h0:Pv σ H)
  (hs:∀σ H,Pv σ H→c σ H fun b H1=>if b=true then tb {D with nx:=fun σ' H'=>Pv σ' H'∧μ σ' H' < μ σ H,ct:=fun σ' H'=>Pv σ' H'∧μ σ' H' < μ σ H,bk:=D.nx} σ H1 else D.nx σ H1)
  (mono:∀σ H Q Q',(∀b H1,Q b H1→Q' b H1)→c σ H Q→c σ H Q'):tWhile c tb D σ H:=by
 refine ⟨fun m σ H=>m=μ σ H∧Pv σ H,⟨_,rfl,h0⟩,?_⟩
 rintro m σ H ⟨rfl,p⟩
 refine mono σ H _ _ (fun b H1 q=>?_) (hs σ H p)
 cases b with
 | true=>exact ⟨_,fun σ' H' ⟨p',l⟩=>⟨_,l,rfl,p'⟩,q⟩
 | false=>exact q
abbrev R2:=V→V→Hp→VK→Prop
def OpR (X:Cx) (f:Value→Value→Sem Value) (r:R2):Prop:=
 ∀(pins:List (Addr × Obj)) (s:Shared) (σ:St) (H:Hp) (x y:V) (v u:Value) (Q:VK),Inv X pins σ H s→RelV x v→RelV y u→r x y H Q→
  wpAny (model X.prog X.w) X.A (f v u) (EP X pins σ Q) X.xe s
def UnR (X:Cx) (f:Value→Sem Value) (r:V→Hp→VK→Prop):Prop:=
 ∀(pins:List (Addr × Obj)) (s:Shared) (σ:St) (H:Hp) (x:V) (v:Value) (Q:VK),Inv X pins σ H s→RelV x v→r x H Q→
  wpAny (model X.prog X.w) X.A (f v) (EP X pins σ Q) X.xe s
def CallR (X:Cx) (f:Value) (r:List V→Hp→VK→Prop):Prop:=
 ∀(pins:List (Addr × Obj)) (s:Shared) (σ:St) (H:Hp) (xs:List V) (us:List Value) (Q:VK),Inv X pins σ H s→Vals xs us→r xs H Q→
  wpAny (model X.prog X.w) X.A (call f us) (EP X pins σ Q) X.xe s
def tOp (r:R2) (ta tb:TE):TE:=fun σ H Q=>ta σ H fun x H1=>tb σ H1 fun y H2=>r x y H2 Q
def tUn (r:V→Hp→VK→Prop) (ta:TE):TE:=fun σ H Q=>ta σ H fun x H1=>r x H1 Q
def rI (C:Int→Int→Prop) (g:Int→Int→V):R2:=fun x y H Q=>∃i j,x = .int i∧y = .int j∧C i j∧Q (g i j) H
def rI0 (g:Int→Int→V):R2:=fun x y H Q=>∃i j,x = .int i∧y = .int j∧Q (g i j) H
def rU (g:Int→V):V→Hp→VK→Prop:=fun x H Q=>∃i,x = .int i∧Q (g i) H
section
variable {X:Cx} {a b c:Expr} {ta tb tc:TE} {pos:Pos}
theorem binT (ha:PE X a ta) (hb:PE X b tb) {pins:List (Addr × Obj)} {s:Shared} {σ:St} {H:Hp} {R:V→V→Hp→Prop} (I:Inv X pins σ H s)
  (h:ta σ H fun x H1=>tb σ H1 fun y H2=>R x y H2) {Q:Value→Shared→Prop} {f:Value→Value→Sem Value}
  (hf:∀v u s2 x y H2,Inv X pins σ H2 s2→RelV x v→RelV y u→R x y H2→wpAny (model X.prog X.w) X.A (f v u) Q X.xe s2) :
  wpAny (model X.prog X.w) X.A (eval a X.env) (fun v s₁=>wpAny (model X.prog X.w) X.A (eval b X.env) (fun u s₂=>wpAny (model X.prog X.w) X.A (f v u) Q X.xe s₂) X.xe s₁) X.xe s:=by
 refine thn (ha pins s σ H _ I h) fun v s1 ⟨x,H1,I1,r1,q1⟩=>?_
 refine thn (hb pins s1 σ H1 _ I1 q1) fun u s2 ⟨y,H2,I2,r2,q2⟩=>?_
 exact hf v u s2 x y H2 I2 r1 r2 q2
theorem pe_op {op:Operator} {r:R2} (ho:OpR X (binaryOp op) r) (ha:PE X a ta) (hb:PE X b tb):PE X (.BinOp a op b pos) (tOp r ta tb):=by
 intro pins s σ H Q I h
 exact wpAny_BinOp (binT ha hb I h fun v u s2 x y H2 I2 rx ry q=>ho pins s2 σ H2 x y v u Q I2 rx ry q)
theorem pe_un {op:UnaryOp} {r:V→Hp→VK→Prop} (ho:UnR X (unaryOp op) r) (ha:PE X a ta):PE X (.UnaryOp op a pos) (tUn r ta):=by
 intro pins s σ H Q I h
 exact UnaryOp_ (thn (ha pins s σ H _ I h) fun v s1 ⟨x,H1,I1,r1,q1⟩=>ho pins s1 σ H1 x v Q I1 r1 q1)
theorem opI {f:Value→Value→Sem Value} {C:Int→Int→Prop} {g:Int→Int→Int}
  (rule:∀(i j:Int) (t u:Tok) (s:Shared) (Q:Value→Shared→Prop) (E:Value→Shared→Prop),C i j→Q (.int (g i j) s.toks) {s with toks:=s.toks + 1}→wpAny (model X.prog X.w) X.A (f (.int i t) (.int j u)) Q E s) :
  OpR X f (rI C fun i j=>.int (g i j)):=by
 intro pins s σ H x y v u Q I rx ry h
 obtain ⟨i,j,rfl,rfl,hc,q⟩:=h
 obtain ⟨t,rfl⟩:=rx
 obtain ⟨t',rfl⟩:=ry
 exact rule i j t t' s _ _ hc ⟨.int (g i j),H,I.tok _,⟨_,rfl⟩,q⟩
theorem opI0 {f:Value→Value→Sem Value} {g:Int→Int→Int}
  (rule:∀(i j:Int) (t u:Tok) (s:Shared) (Q:Value→Shared→Prop) (E:Value→Shared→Prop),Q (.int (g i j) s.toks) {s with toks:=s.toks + 1}→wpAny (model X.prog X.w) X.A (f (.int i t) (.int j u)) Q E s) :
  OpR X f (rI0 fun i j=>.int (g i j)):=by
 intro pins s σ H x y v u Q I rx ry h
 obtain ⟨i,j,rfl,rfl,q⟩:=h
 obtain ⟨t,rfl⟩:=rx
 obtain ⟨t',rfl⟩:=ry
 exact rule i j t t' s _ _ ⟨.int (g i j),H,I.tok _,⟨_,rfl⟩,q⟩
theorem opB0 {f:Value→Value→Sem Value} {g:Int→Int→Bool}
  (rule:∀(i j:Int) (t u:Tok) (s:Shared) (Q:Value→Shared→Prop) (E:Value→Shared→Prop),Q (.bool (g i j)) s→wpAny (model X.prog X.w) X.A (f (.int i t) (.int j u)) Q E s) :
  OpR X f (rI0 fun i j=>.bl (g i j)):=by
 intro pins s σ H x y v u Q I rx ry h
 obtain ⟨i,j,rfl,rfl,q⟩:=h
 obtain ⟨t,rfl⟩:=rx
 obtain ⟨t',rfl⟩:=ry
 exact rule i j t t' s _ _ ⟨.bl (g i j),H,I,rfl,q⟩
def CDiv (i j:Int):Prop:=0 < j∧j < 1073741824
def CPow (i j:Int):Prop:=0≤j∧j≤1000000∧i.natAbs < 2 ^ 64
def CMul (i j:Int):Prop:=(-(2 ^ 64) < i∧i < 2 ^ 64)∨(-(2 ^ 64) < j∧j < 2 ^ 64)
theorem CMul.ok {i j:Int} (h:CMul i j):IntMulOk i j:=by
 rcases h with ⟨h1,h2⟩ | ⟨h1,h2⟩
 ·exact .of_left (intBits_le_64 h1 h2)
 ·exact .of_right (intBits_le_64 h1 h2)
theorem op_add:OpR X (binaryOp .Add) (rI0 fun i j=>.int (i + j)):=opI0 fun _ _ _ _ _ _ _ q=>add_int q
theorem op_sub:OpR X (binaryOp .Sub) (rI0 fun i j=>.int (i - j)):=opI0 fun _ _ _ _ _ _ _ q=>sub_int q
theorem op_mul:OpR X (binaryOp .Mult) (rI CMul fun i j=>.int (i * j)):=opI fun _ _ _ _ _ _ _ hc q=>mul_int q hc.ok
theorem op_fdiv:OpR X (binaryOp .FloorDiv) (rI CDiv fun i j=>.int (i / j)):=opI fun i j _ _ _ _ _ hc q=>by
 have h1:(0:Int) < j:=hc.1
 have h2:j < 1073741824:=hc.2
 exact floordiv_int (by omega) (by rw [Int.fdiv_eq_ediv_of_nonneg i (by omega)]; exact q) (.inl (PyProof.noPylong_small (by omega)))
theorem op_mod:OpR X (binaryOp .Mod) (rI (fun _ j=>0 < j) fun i j=>.int (i % j)):=opI fun i j _ _ _ _ _ hc q=>by
 have h1:(0:Int) < j:=hc
 exact mod_int' (by omega) (by rw [Int.fmod_eq_emod_of_nonneg i (by omega)]; exact q)
theorem op_pow:OpR X (binaryOp .Pow) (rI CPow fun i j=>.int (i ^ j.toNat)):=opI fun _ _ _ _ _ _ _ hc q=>pow_int_small hc.1 hc.2.1 hc.2.2 q
theorem unI {f:Value→Sem Value} {g:Int→Int}
  (rule:∀(i:Int) (t:Tok) (s:Shared) (Q:Value→Shared→Prop) (E:Value→Shared→Prop),Q (.int (g i) s.toks) {s with toks:=s.toks + 1}→wpAny (model X.prog X.w) X.A (f (.int i t)) Q E s) :
  UnR X f (rU fun i=>.int (g i)):=by
 intro pins s σ H x v Q I rx h
 obtain ⟨i,rfl,q⟩:=h
 obtain ⟨t,rfl⟩:=rx
 exact rule i t s _ _ ⟨.int (g i),H,I.tok _,⟨_,rfl⟩,q⟩
theorem un_neg:UnR X (unaryOp .USub) (rU fun i=>.int (-i)):=unI fun _ _ _ _ _ q=>neg_int q
end
def scal:V→V→Bool
 | .non,.non=>true | .non,.int _=>true | .int _,.non=>true | .non,.bl _=>true | .bl _,.non=>true | .non,.str _=>true | .str _,.non=>true
 | .int _,.int _=>true | .bl _,.bl _=>true | .str _,.str _=>true | .byt _,.byt _=>true
 | .int _,.str _=>true | .str _,.int _=>true | .bl _,.str _=>true | .str _,.bl _=>true
 | _,_=>false
def rEq:R2:=fun x y H Q=>scal x y=true∧Q (.bl (decide (x=y))) H
def rNe:R2:=fun x y H Q=>scal x y=true∧Q (.bl (!decide (x=y))) H
theorem dec_int {i j:Int}:decide (V.int i=V.int j)=(i == j):=by
 rw [Bool.eq_iff_iff]
 simp
theorem dec_bl {i j:Bool}:decide (V.bl i=V.bl j)=(i == j):=by
 rw [Bool.eq_iff_iff]
 simp
theorem dec_str {i j:Str}:decide (V.str i=V.str j)=(i == j):=by
 rw [Bool.eq_iff_iff]
 simp
theorem dec_byt {i j:Array UInt8}:decide (V.byt i=V.byt j)=(i.toList == j.toList):=by
 rw [Bool.eq_iff_iff]
 cases i
 cases j
 simp
section
variable {X:Cx} {a b c:Expr} {ta tb tc:TE} {pos:Pos}
theorem fin_bl {pins:List (Addr × Obj)} {σ:St} {H:Hp} {s:Shared} {Q:VK} {k k':Bool} (I:Inv X pins σ H s) (q:Q (.bl k) H) (e:k=k'):EP X pins σ Q (.bool k') s:=by
 subst e
 exact ⟨.bl k,H,I,rfl,q⟩
theorem op_eq:OpR X (compareOp .Eq) rEq:=by
 intro pins s σ H x y v u Q I rx ry h
 obtain ⟨hs,q⟩:=h
 cases x with
 | non=>
  cases rx
  cases y with
  | non=>cases ry; exact PySem.EqNone.eq_none_none (fin_bl I q (by simp))
  | bl j=>cases ry; exact PySem.EqNone.eq_none_bool (fin_bl I q (by simp))
  | int j=>obtain ⟨t',rfl⟩:=ry; exact PySem.EqNone.eq_none_int (fin_bl I q (by simp))
  | str j=>obtain ⟨t',rfl⟩:=ry; exact PySem.EqNone.eq_none_str (fin_bl I q (by simp))
  | _=>exact absurd (show false=true from hs) Bool.false_ne_true
 | bl i=>
  cases rx
  cases y with
  | non=>cases ry; exact PySem.EqNone.eq_bool_none (fin_bl I q (by simp))
  | bl j=>cases ry; exact eq_bool (fin_bl I q dec_bl)
  | str j=>obtain ⟨t',rfl⟩:=ry; exact PySem.EqMixed.eq_bool_str (fin_bl I q (by simp))
  | _=>exact absurd (show false=true from hs) Bool.false_ne_true
 | int i=>
  obtain ⟨t,rfl⟩:=rx
  cases y with
  | non=>cases ry; exact PySem.EqNone.eq_int_none (fin_bl I q (by simp))
  | int j=>obtain ⟨t',rfl⟩:=ry; exact eq_int (fin_bl I q dec_int)
  | str j=>obtain ⟨t',rfl⟩:=ry; exact PySem.EqMixed.eq_int_str (fin_bl I q (by simp))
  | _=>exact absurd (show false=true from hs) Bool.false_ne_true
 | str i=>
  obtain ⟨t,rfl⟩:=rx
  cases y with
  | non=>cases ry; exact PySem.EqNone.eq_str_none (fin_bl I q (by simp))
  | bl j=>cases ry; exact PySem.EqMixed.eq_str_bool (fin_bl I q (by simp))
  | int j=>obtain ⟨t',rfl⟩:=ry; exact PySem.EqMixed.eq_str_int (fin_bl I q (by simp))
  | str j=>obtain ⟨t',rfl⟩:=ry; exact eq_str (fin_bl I q dec_str)
  | _=>exact absurd (show false=true from hs) Bool.false_ne_true
 | byt i=>
  obtain ⟨t,rfl⟩:=rx
  cases y with
  | byt j=>obtain ⟨t',rfl⟩:=ry; exact PySem.W.eq_bytes (fin_bl I q dec_byt)
  | _=>exact absurd (show false=true from hs) Bool.false_ne_true
 | _=>cases y <;> exact absurd (show false=true from hs) Bool.false_ne_true
theorem op_ne:OpR X (compareOp .NotEq) rNe:=by
 intro pins s σ H x y v u Q I rx ry h
 obtain ⟨hs,q⟩:=h
 cases x with
 | non=>
  cases rx
  cases y with
  | non=>cases ry; exact PySem.EqNone.ne_none_none (fin_bl I q (by simp))
  | bl j=>cases ry; exact PySem.EqNone.ne_none_bool (fin_bl I q (by simp))
  | int j=>obtain ⟨t',rfl⟩:=ry; exact PySem.EqNone.ne_none_int (fin_bl I q (by simp))
  | str j=>obtain ⟨t',rfl⟩:=ry; exact PySem.EqNone.ne_none_str (fin_bl I q (by simp))
  | _=>exact absurd (show false=true from hs) Bool.false_ne_true
 | bl i=>
  cases rx
  cases y with
  | non=>cases ry; exact PySem.EqNone.ne_bool_none (fin_bl I q (by simp))
  | bl j=>cases ry; exact ne_bool (fin_bl I q (congrArg not dec_bl))
  | str j=>obtain ⟨t',rfl⟩:=ry; exact PySem.EqMixed.ne_bool_str (fin_bl I q (by simp))
  | _=>exact absurd (show false=true from hs) Bool.false_ne_true
 | int i=>
  obtain ⟨t,rfl⟩:=rx
  cases y with
  | non=>cases ry; exact PySem.EqNone.ne_int_none (fin_bl I q (by simp))
  | int j=>obtain ⟨t',rfl⟩:=ry; exact ne_int (fin_bl I q (congrArg not dec_int))
  | str j=>obtain ⟨t',rfl⟩:=ry; exact PySem.EqMixed.ne_int_str (fin_bl I q (by simp))
  | _=>exact absurd (show false=true from hs) Bool.false_ne_true
 | str i=>
  obtain ⟨t,rfl⟩:=rx
  cases y with
  | non=>cases ry; exact PySem.EqNone.ne_str_none (fin_bl I q (by simp))
  | bl j=>cases ry; exact PySem.EqMixed.ne_str_bool (fin_bl I q (by simp))
  | int j=>obtain ⟨t',rfl⟩:=ry; exact PySem.EqMixed.ne_str_int (fin_bl I q (by simp))
  | str j=>obtain ⟨t',rfl⟩:=ry; exact ne_str (fin_bl I q (congrArg not dec_str))
  | _=>exact absurd (show false=true from hs) Bool.false_ne_true
 | byt i=>
  obtain ⟨t,rfl⟩:=rx
  cases y with
  | byt j=>obtain ⟨t',rfl⟩:=ry; exact PySem.W.ne_bytes (fin_bl I q (congrArg not dec_byt))
  | _=>exact absurd (show false=true from hs) Bool.false_ne_true
 | _=>cases y <;> exact absurd (show false=true from hs) Bool.false_ne_true
theorem op_lt:OpR X (compareOp .Lt) (rI0 fun i j=>.bl (decide (i < j))):=opB0 fun _ _ _ _ _ _ _ q=>lt_int q
theorem op_le:OpR X (compareOp .LtE) (rI0 fun i j=>.bl (decide (i≤j))):=opB0 fun _ _ _ _ _ _ _ q=>le_int q
theorem op_gt:OpR X (compareOp .Gt) (rI0 fun i j=>.bl (decide (j < i))):=opB0 fun _ _ _ _ _ _ _ q=>gt_int q
theorem op_ge:OpR X (compareOp .GtE) (rI0 fun i j=>.bl (decide (j≤i))):=opB0 fun _ _ _ _ _ _ _ q=>ge_int q
theorem op_in_str:OpR X (compareOp .In) (fun x y H Q=>∃i j,x = .str i∧y = .str j∧Q (.bl (!(Builtin.Str.occurrences j i 0 j.length 1).isEmpty)) H):=by
 intro pins s σ H x y v u Q I rx ry h
 obtain ⟨i,j,rfl,rfl,q⟩:=h
 obtain ⟨t,rfl⟩:=rx
 obtain ⟨t',rfl⟩:=ry
 exact in_str (fin_bl I q rfl)
theorem op_isN:OpR X (compareOp .Is) (fun x y H Q=>y = .non∧Q (.bl (decide (x = .non))) H):=by
 intro pins s σ H x y v u Q I rx ry h
 obtain ⟨rfl,q⟩:=h
 cases ry
 refine is_none_gen (fin_bl I q ?_)
 cases x <;> first
  | (cases rx; rfl)
  | (obtain ⟨t,rfl⟩:=rx; rfl)
theorem nomark (b:Expr) {op:CmpOp} (h:op≠.In:=by decide) (h2:op≠.NotIn:=by decide):behindInMarks op b=false:=by
 have e1:(op == CmpOp.In)=false:=by cases op <;> first | rfl | exact absurd rfl h
 have e2:(op == CmpOp.NotIn)=false:=by cases op <;> first | rfl | exact absurd rfl h2
 cases b <;> simp [behindInMarks,e1,e2]
theorem pe_cmpR {op:CmpOp} {r:R2} (ho:OpR X (compareOp op) r) (ha:PE X a ta) (hb:PE X b tb) (hm:behindInMarks op b=false):PE X (.Compare a [op] [b] pos) (tOp r ta tb):=by
 intro pins s σ H Q I h
 exact wpAny_Compare1 (binT ha hb I h fun v u s2 x y H2 I2 rx ry q=>ho pins s2 σ H2 x y v u Q I2 rx ry q) hm
def tTest (t:TE):TT:=fun σ H Q=>t σ H fun x H'=>∃k,x = .bl k∧Q k H'
theorem pt_cmpR {op:CmpOp} {r:R2} (ho:OpR X (compareOp op) r) (ha:PE X a ta) (hb:PE X b tb) (hm:behindInMarks op b=false):PT X (.Compare a [op] [b] pos) (tTest (tOp r ta tb)):=by
 intro pins s σ H Q I h
 refine wpAny_isTrue_Compare1 (thn (ha pins s σ H _ I h) fun v s1 ⟨x,H1,I1,r1,q1⟩=>thn (hb pins s1 σ H1 _ I1 q1) fun u s2 ⟨y,H2,I2,r2,q2⟩=>
  thn (ho pins s2 σ H2 x y v u _ I2 r1 r2 q2) fun c s3 ⟨z,H3,I3,r3,k,e,q3⟩=>?_) hm
 subst e
 cases r3
 exact wpAny_truthy_bool ⟨H3,I3,q3⟩
theorem line63:(sizeLine:Nat) < 2 ^ 63:=by rw [sizeLine_eq]; decide
theorem op_add_str:OpR X (binaryOp .Add) (fun x y H Q=>∃i j,x = .str i∧y = .str j∧i.length + j.length≤sizeLine∧Q (.str (i ++ j)) H):=by
 intro pins s σ H x y v u Q I rx ry h
 obtain ⟨i,j,rfl,rfl,hz,q⟩:=h
 obtain ⟨t,rfl⟩:=rx
 obtain ⟨t',rfl⟩:=ry
 exact add_str (fun t' tk=>⟨.str (i ++ j),H,I.tok _,⟨_,rfl⟩,q⟩) hz
theorem vals1 {x:V} {us:List Value} (r:Vals [x] us):∃u,us=[u]∧RelV x u:=by
 cases r with
 | cons r1 r2=>cases r2; exact ⟨_,rfl,r1⟩
theorem vals2 {x y:V} {us:List Value} (r:Vals [x,y] us):∃u w',us=[u,w']∧RelV x u∧RelV y w':=by
 cases r with
 | cons r1 r2=>
  cases r2 with
  | cons r3 r4=>cases r4; exact ⟨_,_,rfl,r1,r3⟩
theorem call_abs:CallR X (.builtin "abs") (fun xs H Q=>∃i,xs=[.int i]∧Q (.int (if i < 0 then -i else i)) H):=by
 intro pins s σ H xs us Q I r h
 obtain ⟨i,rfl,q⟩:=h
 obtain ⟨u,rfl,t,rfl⟩:=vals1 r
 exact call_abs_int fun u tk=>⟨.int (if i < 0 then -i else i),H,I.tok _,⟨_,rfl⟩,q⟩
end
structure ObjM (h:Heap) (x dx C:Addr) (mA:Str→Option Value):Prop where
 obj:h.get? x=some (PySem.W.instObj C dx)
 ns:h.Ns1 dx mA
 ne:dx≠x
theorem lookIn_ns {h:Heap} {dx:Addr} {mA:Str→Option Value} (n:h.Ns1 dx mA):∃od,h.get? dx=some od∧∀name,PySem.W.lookIn name od=some (mA name):=by
 obtain ⟨o,es,ep,ho,hd,hk,_,hm⟩:=n
 refine ⟨o,ho,fun name=>?_⟩
 have e:=hm name
 unfold nsFind findBy at e
 rw [← Array.find?_toList] at e
 unfold PySem.W.lookIn
 rw [hd]
 dsimp only
 split
 ·rename_i y q
  rw [q] at e
  exact congrArg some e
 ·rename_i q
  rw [q] at e
  have a:es.toList.any (·.refKey)=false:=by
   rw [List.any_eq_false]
   intro y hy
   obtain ⟨z,t,hkey⟩:=hk y (Array.mem_toList_iff.mp hy)
   simp [DictEntry.refKey,hkey]
  have a':¬es.toList.any (·.refKey)=true:=by rw [a]; exact Bool.false_ne_true
  rw [if_neg a']
  exact congrArg some e
theorem ObjM.look {h:Heap} {x dx C:Addr} {mA:Str→Option Value} (I:ObjM h x dx C mA):∃od,PySem.W.InstAt h x (PySem.W.instObj C dx) C (some od)∧∀name,PySem.W.lookIn name od=some (mA name):=
 let ⟨od,ho,hl⟩:=lookIn_ns I.ns
 ⟨od,⟨I.obj,rfl,rfl,ho⟩,hl⟩
section
variable {prog:Program} {w:World} {A:Around} {E:Value→Shared→Prop} {s:Shared} {K:PySem.W.Frag} {x dx C f:Addr} {mA:Str→Option Value} {name:Str} {v:Value}
end
theorem RelO.some_of {v:V} {o:Option Value} (r:RelO (some v) o):∃u,o=some u∧RelV v u:=by
 cases o with
 | none=>exact (show False from r).elim
 | some u=>exact ⟨u,rfl,r⟩
theorem handed_of {v:V} {u:Value} (r:RelV v u):PySem.W.handedIn u=true:=by
 cases v with
 | non=>cases (show u=Value.none from r); rfl
 | bl b=>cases (show u=Value.bool b from r); rfl
 | int i=>obtain ⟨t,e⟩:=(show ∃t,u=Value.int i t from r); cases e; rfl
 | str x=>obtain ⟨t,e⟩:=(show ∃t,u=Value.str x t from r); cases e; rfl
 | byt b=>obtain ⟨t,e⟩:=(show ∃t,u=Value.bytes b t from r); cases e; rfl
 | flt b=>obtain ⟨t,e⟩:=(show ∃t,u=Value.float b t from r); cases e; rfl
 | ref a=>cases (show u=Value.ref a from r); rfl
 | ty n=>cases (show u=Value.type n from r); rfl
section
variable {P:Program} {w:World} {H H':Hp} {h h':Heap} {a C dx:Addr} {fs fs':List (Str × V)}
theorem ins_get (hok:HOk P w H h) (e:H a=some (.ins C dx fs)):∃mA,ObjM h a dx C mA∧(∀f,RelO (fs.lookup f) (mA f))∧PySem.Within mA (fs.map (·.1))∧fs.length≤1000∧H dx=some (.own a):=by
 obtain ⟨d,z,ne,ob,mA,n,r,q⟩:=(show ObjOk P w H h a (.ins C dx fs) from hok a _ e)
 exact ⟨mA,⟨ob,n,ne⟩,r,q,z,d⟩
end
structure Cls (K:PySem.W.Frag) (C:Addr):Prop where
 pg:PySem.W.plainGet K C Str.empty=true
 hd:PySem.W.hasDictIn K C=true
 po:PySem.W.plainOver K C=true
 sa:PySem.W.findIn K (.ref C) "__setattr__" = some (some (.builtin "object.__setattr__"))
theorem Cls.get {K:PySem.W.Frag} {C:Addr} (c:Cls K C) (f:Str):PySem.W.plainGet K C f=true:=c.pg
section
variable {X:Cx} {pins:List (Addr × Obj)} {σ:St} {H:Hp} {s:Shared} {a C dx:Addr} {fs:List (Str × V)} {f:Str} {v:V} {A:Around} {E:Value→Shared→Prop}
theorem attr_of {prog:Program} {w:World} {env:Env} {e:Expr} {f:Str} {pos:Pos} {s:Shared} {Q:Value→Shared→Prop} (hb:attributeBase e f env (eval e env)=eval e env)
  (h:wpAny (model prog w) A (eval e env) (fun o s₁=>wpAny (model prog w) A (getAttr o f true) Q E s₁) E s):wpAny (model prog w) A (eval (.Attribute e f pos) env) Q E s:=
 Attribute_any_ h (by rw [arm_eval_Attribute,hb])
end
section
variable {X:Cx} {o e value:Expr} {f:Str} {pos pos' tpos:Pos} {ta tv:TE}
end
section
variable {X:Cx} {pins:List (Addr × Obj)} {σ:St} {H:Hp} {s:Shared} {A:Around} {E:Value→Shared→Prop} {Q:Value→Shared→Prop} {c:Value} {b:Bool}
inductive TyOf (K:PySem.W.Frag) (H:Hp):V→Value→Prop where
 | non:TyOf K H .non (.type "NoneType")
 | bl (x:Bool):TyOf K H (.bl x) (.type "bool")
 | int (i:Int):TyOf K H (.int i) (.type "int")
 | str (x:Str):TyOf K H (.str x) (.type "str")
 | flt (x:UInt64):TyOf K H (.flt x) (.type "float")
 | lst {a:Addr} {xs:List V} (e:H a=some (.lst xs)):TyOf K H (.ref a) (.type "list")
 | frz {a:Addr} {o:Obj} {xs:List V} (e:H a=some (.frz o (.lst xs))):TyOf K H (.ref a) (.type "list")
 | tup {a:Addr} {xs:List V} (e:H a=some (.tup xs)):TyOf K H (.ref a) (.type "tuple")
 | dK {a:Addr} {kvs:List (Key × V)} (e:H a=some (.dK kvs)):TyOf K H (.ref a) (.type "dict")
 | dT {a:Addr} {kvs:List (List Key × V)} (e:H a=some (.dT kvs)):TyOf K H (.ref a) (.type "dict")
 | ins {a C dx:Addr} {fs:List (Str × V)} (e:H a=some (.ins C dx fs)) (cl:Cls K C) (ha:PySem.W.findIn K (.ref C) "__class__" = some (some (.builtin "object.__class__")))
   (hn:PySem.W.specialIn K (.builtin "object.__class__") "__get__" = some (some (.builtin "getset_descriptor.__get__"))) (htk:PySem.W.takesIn K (.builtin "object.__class__")=some true)
   (hm:PySem.W.mroIn K C (.type "object")=some true):TyOf K H (.ref a) (.ref C)
end
structure Room (k:Nat) (A:Around):Prop where
 hd:A.handled=none
 dp:A.depth + 3 * k + 5 < recursionLimit
 un:A.units + 16 * k + 200 < cLine
theorem Room.mono {j k:Nat} {A:Around} (r:Room k A) (h:j≤k):Room j A:=⟨r.hd,by have:=r.dp; omega,by have:=r.un; omega⟩
theorem Room.deeper {k:Nat} {A:Around} (r:Room (k + 1) A) (env:Env):Room k (A.deeper env):=
 ⟨r.hd,by have:=r.dp; show A.depth + 1 + 3 * k + 5 < _; omega,by have:=r.un; show A.units + 3 + 16 * k + 200 < _; omega⟩
theorem make_depth {A:Around} {C:Addr} {us:List Value} {kw:List (Str × Value)}:(A.under (.builtin "type.__call__" ⟨.ref C :: us,kw⟩)).depth=A.depth + 1:=by
 first | rfl | simp [Around.under,Code.weight,Code.isCreation,Code.isGuard,Code.isCaller,Code.frames,Code.isFrame,guardIds]
theorem make_units {A:Around} {C:Addr} {us:List Value} {kw:List (Str × Value)}:(A.under (.builtin "type.__call__" ⟨.ref C :: us,kw⟩)).units=A.units + 1:=by
 first | rfl | simp [Around.under,Code.cUnits,Code.frames,Code.isFrame]
theorem Room.make {k:Nat} {A:Around} (r:Room (k + 1) A) (C:Addr) (us:List Value) (kw:List (Str × Value)):Room k (A.under (.builtin "type.__call__" ⟨.ref C :: us,kw⟩)):=
 ⟨r.hd,by have:=r.dp; rw [make_depth]; omega,by have:=r.un; rw [make_units]; omega⟩
theorem Room.depth {k:Nat} {A:Around} (r:Room k A):A.depth < recursionLimit:=by have:=r.dp; omega
def tNil:TA:=fun _ H Q=>Q [] H
def tCons (ta:TE) (tr:TA):TA:=fun σ H Q=>ta σ H fun x H1=>tr σ H1 fun xs H2=>Q (x :: xs) H2
section
variable {X:Cx} {e:Expr} {es:List Expr} {te:TE} {t:TA} {pos:Pos}
theorem pa_nil:PA X [] tNil:=fun _ _ _ _ H Q I h=>Calls.spliced_nil ⟨[],H,I,.nil,h⟩
theorem pa_cons (ha:PE X e te) (hr:PA X es t) (hs:starEach (e :: es) X.env=(false,eval e X.env) :: starEach es X.env:=by rfl):PA X (e :: es) (tCons te t):=by
 intro pos pins s σ H Q I h
 rw [hs]
 show wpAny _ _ (spliced ((false,eval e X.env) :: backTo pos (starEach es X.env))) _ _ s
 refine Calls.spliced_cons (thn (ha pins s σ H _ I h) fun u s1 ⟨x,H1,I1,r1,q1⟩=>?_)
 exact thn (hr pos pins s1 σ H1 _ I1 q1) fun us s2 ⟨xs,H2,I2,r2,q2⟩=>⟨x :: xs,H2,I2,.cons r1 r2,q2⟩
def tTup (t:TA):TE:=fun σ H Q=>t σ H fun xs H1=>xs.length≤sizeLine∧∀p,H1 p=none→Q (.ref p) (upd H1 p (.tup xs))
def tLst (t:TA):TE:=fun σ H Q=>t σ H fun xs H1=>xs.length≤sizeLine∧∀p,H1 p=none→Q (.ref p) (upd H1 p (.lst xs))
theorem pe_tup {x1} (h:PA X es t):PE X (.Tuple es x1 pos) (tTup t):=by
 intro pins s σ H Q I hq
 refine wpAny_Tuple_spliced (thn (h pos pins s σ H _ I hq) fun us s1 ⟨xs,H1,I1,r,z,q⟩=>⟨by rw [← r.length]; exact z,?_⟩)
 have hf:H1 s1.heap.objs.size=none:=I1.hok.fresh (Nat.le_refl _)
 refine ⟨.ref s1.heap.objs.size,upd H1 s1.heap.objs.size (.tup xs),I1.laid (t':=s1.toks) (fun b u e=>Heap.get?_push_of_some _ e) (Nat.le_refl _) ?_,rfl,q _ hf⟩
 exact ⟨z,us,r,⟨_,Heap.get?_push_size _ rfl,rfl,_,rfl⟩⟩
theorem pe_lst (h:PA X es t):PE X (.List es pos) (tLst t):=by
 intro pins s σ H Q I hq
 refine wpAny_List_spliced (thn (h pos pins s σ H _ I hq) fun us s1 ⟨xs,H1,I1,r,z,q⟩=>⟨by rw [← r.length]; exact z,?_⟩)
 have hf:H1 s1.heap.objs.size=none:=I1.hok.fresh (Nat.le_refl _)
 refine ⟨.ref s1.heap.objs.size,upd H1 s1.heap.objs.size (.lst xs),I1.laid (t':=s1.toks) (fun b u e=>Heap.get?_push_of_some _ e) (Nat.le_refl _) ?_,rfl,q _ hf⟩
 exact ⟨z,us,0,r,Heap.get?_push_size _ rfl⟩
end
abbrev Sp:=List V→Hp→VK→XK→Prop
abbrev CXT:=List Env→Hp→Shared→XK→Value→Shared→Prop
structure Env0 (P:Program) (w:World) (K:PySem.W.Frag) (mg:Str→Option Value) (base:Heap) (A:Around) (outer:List Env) (s:Shared) (H:Hp):Prop where
 frames:A.frames=some outer
 mod:Mod K mg base
 bs:∀b o,base.get? b=some o→s.heap.get? b=some o∧H b=none
 bsz:base.objs.size≤s.heap.objs.size
 funs:s.heap.FunFrames base outer
 frf:∀b∈frs outer,H b=none
 hok:HOk P w H s.heap
 bare:AllBare s.gens
def CE (outer:List Env) (P:Program) (w:World) (H:Hp) (s:Shared) (Q:VK) (u:Value) (s':Shared):Prop:=
 ∃v H',s'.os=s.os∧AllBare s'.gens∧Un (frs outer) [] H H' s.heap s'.heap∧HOk P w H' s'.heap∧RelV v u∧Q v H'
def CR (CX:CXT) (outer:List Env) (P:Program) (w:World) (H:Hp) (s:Shared) (Q:VK) (E:XK) (r:Result) (s':Shared):Prop:=
 match r with
 | .ok (.ret u)=>CE outer P w H s Q u s'
 | .ok _=>False
 | .error e=>CX outer H s E e s'
structure FnOk (P:Program) (w:World) (K:PySem.W.Frag) (mg:Str→Option Value) (base:Heap) (CX:CXT) (k:Nat) (f:Addr) (fd:FuncData) (ps:List Str) (sp:Sp):Prop where
 len:∀vs H Q E,sp vs H Q E→vs.length=ps.length
 run:∀(A:Around) (outer:List Env) (s:Shared) (H:Hp) (args:Args) (us:List Value) (vs:List V) (Q:VK) (E:XK),Room k A→Env0 P w K mg base A outer s H→BindsTo s fd args (ps.zip us)→Vals vs us→sp vs H Q E→
  codeAny (model P w) A (.call (.ref f) args) (CR CX outer P w H s Q E) s
section
variable {X:Cx} {pins:List (Addr × Obj)} {σ:St} {H:Hp} {s s':Shared}
theorem Inv.env0 (I:Inv X pins σ H s):Env0 X.prog X.w X.K X.mg X.base X.A X.stack s H:=
 ⟨I.ok.frames,I.ok.mod,I.bs,Nat.le_trans I.ok.bsz I.sz,I.stack,I.stkFree,I.hok,I.bare⟩
theorem Inv.after {Q:VK} {u:Value} (I:Inv X pins σ H s) (h:CE X.stack X.prog X.w H s Q u s'):EP X pins σ Q u s':=by
 obtain ⟨v,H',os,bare,un,hok,r,q⟩:=h
 obtain ⟨hh,g,d,t,os'⟩:=s'
 obtain rfl:os'=s.os:=os
 exact ⟨v,H',I.call (h':=hh) (g':=g) (d':=d) (t':=t) (ch:=[]) un hok bare (fun b z=>absurd z (by simp)),r,q⟩
end
def tCall (sp:Sp) (dvs:List V) (E:XK) (t:TA):TE:=fun σ H Q=>t σ H fun vs H1=>sp (vs ++ dvs) H1 Q E
def Binds (K:PySem.W.Frag) (fd:FuncData) (ps:List Str) (ds:List Value):Prop:=
 ∀(s:Shared) (us:List Value),K.In s.heap→(us ++ ds).length=ps.length→BindsTo s fd ⟨us,[]⟩ (ps.zip (us ++ ds))
theorem Binds.all {K:PySem.W.Frag} {fd:FuncData} {ps:List Str} (h:∀us:List Value,us.length=ps.length→bindArgs fd ⟨us,[]⟩=pure (ps.zip us)):Binds K fd ps []:=fun s us _ hl=>by
 rw [List.append_nil] at hl ⊢
 exact .of_eq (h us hl)
def Passes (CX:CXT) (X:Cx) (E:XK):Prop:=∀(pins:List (Addr × Obj)) (σ:St) (H:Hp) (s:Shared) (e:Value) (s':Shared),Inv X pins σ H s→CX X.stack H s E e s'→X.xe e s'
section
variable {X:Cx} {CX:CXT} {k:Nat} {f C:Addr} {fd:FuncData} {ps:List Str} {sp:Sp} {dvs:List V} {ds:List Value} {E:XK} {x m:Str} {p pos apos:Pos} {e o:Expr} {es:List Expr} {ta:TE} {t:TA}
theorem run_fn {pins:List (Addr × Obj)} {σ:St} {H:Hp} {s:Shared} {Q:VK} {us:List Value} {vs:List V} (F:FnOk X.prog X.w X.K X.mg X.base CX k f fd ps sp) (hr:Room k X.A) (hb:Binds X.K fd ps ds) (hd:Vals dvs ds) (hx:Passes CX X E)
  (I:Inv X pins σ H s) (r:Vals vs us) (h:sp (vs ++ dvs) H Q E):wpAny (model X.prog X.w) X.A (call (.ref f) us) (EP X pins σ Q) X.xe s:=by
 have r2:Vals (vs ++ dvs) (us ++ ds):=r.append hd
 have hl:(us ++ ds).length=ps.length:=by rw [← r2.length]; exact F.len _ _ _ _ h
 refine wpAny_call (codeAny_mono (F.run X.A X.stack s H ⟨us,[]⟩ (us ++ ds) (vs ++ dvs) Q E hr I.env0 (hb s us I.kIn hl) r2 h) fun r s' hq=>?_)
 cases r with
 | error e=>exact hx pins σ H s e s' I hq
 | ok fl=>
  cases fl with
  | ret u=>exact I.after hq
  | next=>exact False.elim hq
  | brk=>exact False.elim hq
  | cont=>exact False.elim hq
theorem pe_call (F:FnOk X.prog X.w X.K X.mg X.base CX k f fd ps sp) (hr:Room k X.A) (hg:Gl X x) (hm:X.mg x=some (.ref f)) (hk:PySem.W.keepIn X.K (.ref f)=true) (hb:Binds X.K fd ps ds) (hd:Vals dvs ds) (hx:Passes CX X E)
  (ha:PA X (e :: es) t) (hdb:(x == ("__debug__" : Str))=false:=by decide) (he:starEach (e :: es) X.env=(false,eval e X.env) :: starEach es X.env:=by rfl) (hpl:(backTo pos (starEach es X.env)).any (·.1)=false:=by rfl) :
  PE X (.Call (.Name x p) (e :: es) [] pos) (tCall sp dvs E t):=by
 intro pins s σ H Q I h
 refine wpAny_Call_Name_kw (ld_glob I hg hm ?_ hdb)
 refine PySem.W.callWith_K (h₀:=X.base) I.ok.mod.kin hk (thn (ha pos pins s σ H _ I h) fun us s1 ⟨vs,H1,I1,r,q⟩=>⟨I1.kIn,?_⟩) he hpl
 exact run_fn F hr hb hd hx I1 r q
end
section
variable {X:Cx} {CX:CXT} {k:Nat} {f C:Addr} {fd:FuncData} {ps ks:List Str} {sp:Sp} {E:XK} {x m:Str} {p pos apos kpos:Pos} {e o:Expr} {es:List Expr} {kws:List Keyword} {te ta:TE} {t tk:TA} {nm:Option Str}
variable {g:List Value→List Value→List Value} {gV:List V→List V→List V}
end
structure FnScope (N P:List Str) (sc:Scope):Prop where
 kind:sc.kind = .function
 co:sc.isCoroutine=false
 gen:sc.isGenerator=false
 nd:N.Nodup
 pre:N.take P.length=P
 par:∀x∈P,sc.names.lookup x=some .local∨sc.names.lookup x=some .cell
 nofree:∀y∈sc.names,y.2≠.free
theorem bindL_out {kindOf:Str→Option NameKind} {x:Str}:∀{binds:List (Str × Value)} {m:Str→Option Value},(∀v,(x,v)∉binds)→bindL kindOf binds m x=m x
 | [],_,_=>rfl
 | (n,v) :: r,m,h=>by
  unfold bindL
  rw [bindL_out fun w hw=>h w (List.mem_cons_of_mem _ hw)]
  split
  ·have:x≠n:=by rintro rfl; exact h v List.mem_cons_self
   simp [this]
  ·rfl
theorem bindC_out {kindOf:Str→Option NameKind} {x:Str}:∀{binds:List (Str × Value)} {m:Str→Option Value},(∀v,(x,v)∉binds)→bindC kindOf binds m x=m x
 | [],_,_=>rfl
 | (n,v) :: r,m,h=>by
  unfold bindC
  rw [bindC_out fun w hw=>h w (List.mem_cons_of_mem _ hw)]
  split
  ·rfl
  ·have:x≠n:=by rintro rfl; exact h v List.mem_cons_self
   simp [this]
theorem bindL_get {kindOf:Str→Option NameKind} {x:Str} {v:Value}:∀{P:List Str} {vs:List Value} {i:Nat} {m:Str→Option Value},P.Nodup→P[i]? = some x→vs[i]? = some v→kindOf x=some .local→
  bindL kindOf (P.zip vs) m x=some v
 | [],_,_,_,_,h,_,_=>by simp at h
 | _ :: _,[],_,_,_,_,h,_=>by simp at h
 | p :: P,w :: vs,0,m,nd,h1,h2,hk=>by
  simp at h1 h2; subst h1; subst h2
  show bindL kindOf ((p,w) :: P.zip vs) m p=_
  unfold bindL
  rw [bindL_out fun v hv=>(List.nodup_cons.mp nd).1 (List.of_mem_zip hv).1,if_pos hk]
  simp
 | p :: P,w :: vs,i + 1,m,nd,h1,h2,hk=>by
  show bindL kindOf ((p,w) :: P.zip vs) m x=_
  unfold bindL
  exact bindL_get (i:=i) (List.nodup_cons.mp nd).2 (by simpa using h1) (by simpa using h2) hk
theorem bindC_get {kindOf:Str→Option NameKind} {x:Str} {v:Value}:∀{P:List Str} {vs:List Value} {i:Nat} {m:Str→Option Value},P.Nodup→P[i]? = some x→vs[i]? = some v→kindOf x≠some .local→
  bindC kindOf (P.zip vs) m x=some v
 | [],_,_,_,_,h,_,_=>by simp at h
 | _ :: _,[],_,_,_,_,h,_=>by simp at h
 | p :: P,w :: vs,0,m,nd,h1,h2,hk=>by
  simp at h1 h2; subst h1; subst h2
  show bindC kindOf ((p,w) :: P.zip vs) m p=_
  unfold bindC
  rw [bindC_out fun v hv=>(List.nodup_cons.mp nd).1 (List.of_mem_zip hv).1,if_neg hk]
  simp
 | p :: P,w :: vs,i + 1,m,nd,h1,h2,hk=>by
  show bindC kindOf ((p,w) :: P.zip vs) m x=_
  unfold bindC
  exact bindC_get (i:=i) (List.nodup_cons.mp nd).2 (by simpa using h1) (by simpa using h2) hk
def start (N:List Str) (vs:List V):St:=vs.map some ++ List.replicate (N.length - vs.length) none
def cxOf (CX:CXT) (P:Program) (w:World) (K:PySem.W.Frag) (mg:Str→Option Value) (base:Heap) (N:List Str) (qual:Str) (scope:Scope) (f:Addr) (cd:Value) (A:Around) (outer:List Env) (s:Shared) (H:Hp) (E:XK):Cx where
 prog:=P
 w:=w
 K:=K
 mg:=mg
 base:=base
 A:=A.deeper (envOfC qual scope s.heap.objs.size f cd)
 N:=N
 s₀:=s
 H₀:=H
 env:=envOfC qual scope s.heap.objs.size f cd
 outer:=outer
 stack:=envOfC qual scope s.heap.objs.size f cd :: outer
 ex:=[]
 calm:=true
 fn:=fun _=>true
 pn:=[]
 xe:=fun e s'=>wpAny (model P w) (A.deeper (envOfC qual scope s.heap.objs.size f cd)) (leaving (envOfC qual scope s.heap.objs.size f cd) e) (fun _ s''=>CX outer H s E e s'') (fun e' s''=>CX outer H s E e' s'') s'
theorem cell_has {sc:Scope} {n:Nat} {x:Str} (h:sc.names.lookup x=some .cell):∃c,(cellsFrom n sc.names []).lookup x=some c:=by
 have q:=PySem.W.cellsFrom_some sc.names n [] (.inl h)
 exact Option.isSome_iff_exists.mp q
theorem inv_start {CX:CXT} {P:Program} {w:World} {K:PySem.W.Frag} {mg:Str→Option Value} {base:Heap} {N ps:List Str} {qual:Str} {scope:Scope} {f:Addr} {cd:Value} {A:Around} {outer:List Env} {s s1:Shared} {H:Hp} {E:XK} {us:List Value} {vs:List V}
  (S:FnScope N ps scope) (hd:A.handled=none) (e0:Env0 P w K mg base A outer s H) (hl:vs.length=ps.length) (r:Vals vs us)
  (x:InCallC s s.heap.objs.size (bindL (envOfC qual scope s.heap.objs.size f cd).kindOf (ps.zip us) fun _=>none) (cellsFrom (s.heap.objs.size + 1) scope.names []) (bindC (envOfC qual scope s.heap.objs.size f cd).kindOf (ps.zip us) fun _=>none) s1) :
  Inv (cxOf CX P w K mg base N qual scope f cd A outer s H E) [] (start N vs) H s1:=by
 have hpl:ps.length≤N.length:=by have:=congrArg List.length S.pre; rw [List.length_take] at this; omega
 obtain ⟨h1,tk,rfl,hk⟩:=x.done
 have noA:∀b:Addr,b∉(cxOf CX P w K mg base N qual scope f cd A outer s H E).ex:=fun b z=>absurd (show b∈([]:List Addr) from z) (by simp)
 refine ⟨⟨e0.mod,S.kind,rfl,rfl,Nat.le_refl _,fun y z c h1 h2=>?_,fun y hy=>?_,fun y c _ h=>?_,fun _=>hd,Around.frames_deeper e0.frames,.inr ⟨rfl,rfl⟩,fun b z=>absurd z (noA b),e0.bs,e0.bsz,fun b _ _=>noA b,fun b z=>absurd z (noA b),e0.funs,e0.frf⟩,
  rfl,e0.bare,Un.kept hk,⟨_,x.toInCall.ns,fun i y v h1 h2 h3=>?_⟩,fun y c h=>⟨_,x.cell y c h⟩,e0.hok.fresh (Nat.le_refl _),fun y c h=>?_,fun p hp=>absurd (show p∈([]:List (Addr × Obj)) from hp) (by simp),e0.hok.kept hk,?_⟩
 ·exact name_of_addr x.apart (PySem.mem_of_lookup h1) (PySem.mem_of_lookup h2)
 ·have hy:scope.names.lookup y=some .cell∨scope.names.lookup y=some .free:=hy
  rcases hy with hy | hy
  ·exact cell_has hy
  ·exact absurd rfl (S.nofree _ (PySem.mem_of_lookup hy))
 ·exact Nat.le_of_lt (x.above y c (PySem.mem_of_lookup h))
 ·have hi:i < vs.length:=by
   unfold start at h2
   by_cases hi:i < vs.length
   ·exact hi
   ·rw [List.getElem?_append_right (by simpa using hi)] at h2
    rw [List.getElem?_replicate] at h2
    split at h2 <;> cases h2
  have ha:vs[i]? = some v:=by
   unfold start at h2
   rw [List.getElem?_append_left (by simpa using hi),List.getElem?_map] at h2
   cases e:vs[i]? with
   | none=>rw [e] at h2; cases h2
   | some a=>rw [e] at h2; cases h2; rfl
  obtain ⟨u,hu,rv⟩:=r.get ha
  have hp:ps[i]? = some y:=by
   rw [← S.pre,List.getElem?_take_of_lt (by omega)]; exact h1
  have ndP:ps.Nodup:=by rw [← S.pre]; exact S.nd.sublist (List.take_sublist _ _)
  refine ⟨u,rv,?_⟩
  rcases S.par y (List.mem_of_getElem? hp) with k | k
  ·exact .inl ⟨k,bindL_get ndP hp hu k⟩
  ·obtain ⟨c,e⟩:=cell_has (n:=s.heap.objs.size + 1) k
   refine .inr ⟨.inl k,c,e,?_⟩
   have q:=x.cell y c e
   rw [bindC_get ndP hp hu (by show scope.names.lookup y≠_; rw [k]; decide)] at q
   exact q
 ·exact e0.hok.fresh (Nat.le_of_lt (x.above y c (PySem.mem_of_lookup h)))
 ·unfold start
  show _=N.length
  rw [List.length_append,List.length_map,List.length_replicate]
  omega
theorem fn_of {CX:CXT} {P:Program} {w:World} {K:PySem.W.Frag} {mg:Str→Option Value} {base:Heap} {k:Nat} {f:Addr} {name qual:Str} {params:Arguments} {body:List Stmt} {scope:Scope} {dV kV doc pm cdv ct oc:Value} {an od:Option Addr}
  {osl:Array (Option Value)} {N ps:List Str} {sp:Sp} (lk:K.lookup f=some ⟨oc,od,.func (PySem.W.fnOf name qual params body scope dV kV doc pm an cdv ct),osl⟩) (hcd:PySem.W.codeIn K cdv qual=true) (S:FnScope N ps scope)
  (len:∀vs H Q E,sp vs H Q E→vs.length=ps.length)
  (hbody:∀(A:Around) (outer:List Env) (s:Shared) (H:Hp) (vs:List V) (Q:VK) (E:XK),Room k (A.deeper (envOfC qual scope s.heap.objs.size f cdv))→sp vs H Q E→
   ∃t,PSs (cxOf CX P w K mg base N qual scope f cdv A outer s H E) body t∧t {nx:=fun _ H'=>Q .non H',rt:=Q} (start N vs) H) :
  FnOk P w K mg base CX (k + 1) f (PySem.W.fnOf name qual params body scope dV kV doc pm an cdv ct) ps sp:=by
 refine ⟨len,fun A outer s H args us vs Q E hr e0 hb r hsp=>?_⟩
 have hl:=len _ _ _ _ hsp
 have KX:K.In s.heap:=e0.mod.kin.keeps fun b o e=>(e0.bs b o e).1
 have lim:s.heap.NoLimit:=e0.mod.nolimit.keeps fun b o e=>(e0.bs b o e).1
 have hkind:∀y∈ps.zip us,scope.names.lookup y.1=some .local∨(scope.names.lookup y.1=some .cell∧((cellsFrom (s.heap.objs.size + 1) scope.names []).lookup y.1).isSome=true):=fun ⟨n,v⟩ hy=>by
  rcases S.par n (List.of_mem_zip hy).1 with q | q
  ·exact .inl q
  ·exact .inr ⟨q,PySem.W.cellsFrom_some _ _ _ (.inl q)⟩
 refine codeAny_call_function hr.depth (KX _ _ lk) rfl S.co S.gen rfl (PySem.W.codeRec_of KX hcd) (hb _ _ _ _ ?_)
 refine wpAny_newFunctionEnv_cells S.kind hkind fun env he s1 x=>?_
 subst he
 refine ⟨lim.keeps x.toInCall.keep,codeAny_func ?_⟩
 obtain ⟨t,ht,hq⟩:=hbody A outer s H vs Q E (hr.deeper _) hsp
 have I:Inv (cxOf CX P w K mg base N qual scope f cdv A outer s H E) [] (start N vs) H s1:=inv_start S hr.hd e0 hl r x
 refine wpAny_mono (ht [] s1 (start N vs) H _ I hq) (fun fl s' hs=>?_) fun e s' hs=>hs
 have fin:∀{σ':St} {H':Hp} {v:V} {u:Value},Inv (cxOf CX P w K mg base N qual scope f cdv A outer s H E) [] σ' H' s'→RelV v u→Q v H'→CE outer P w H s Q u s':=
  fun {σ' H' v u} J rv q=>⟨v,H',J.os,J.bare,J.base,J.hok,rv,q⟩
 cases fl with
 | ret u=>
  obtain ⟨v,σ',H',J,rv,q⟩:=hs
  exact fin J rv q
 | next=>
  obtain ⟨σ',H',J,q⟩:=hs
  exact fin (v:=V.non) (u:=Value.none) J rfl q
 | brk=>
  obtain ⟨_,_,_,q⟩:=hs
  exact False.elim q
 | cont=>
  obtain ⟨_,_,_,q⟩:=hs
  exact False.elim q
section
variable {X:Cx} {x:Str} {p pos:Pos} {e:Expr} {es:List Expr} {t:TA} {id T:String} {r:List V→Hp→VK→Prop}
def tCB (r:List V→Hp→VK→Prop) (t:TA):TE:=fun σ H Q=>t σ H fun vs H1=>r vs H1 Q
theorem pe_callB (hc:CallR X (.builtin id) r) (hg:Gl X x) (hm:X.mg x=none) (hv:bootBuiltins x=some (.builtin id)) (ha:PA X (e :: es) t) (hn:x≠"__name__":=by decide) (hdb:(x == ("__debug__" : Str))=false:=by decide)
  (he:starEach (e :: es) X.env=(false,eval e X.env) :: starEach es X.env:=by rfl) (hpl:(backTo pos (starEach es X.env)).any (·.1)=false:=by rfl):PE X (.Call (.Name x p) (e :: es) [] pos) (tCB r t):=by
 intro pins s σ H Q I h
 refine wpAny_Call_Name_kw (ld_blt I hg hm hv ?_ hn hdb)
 exact PyProof.Rows.callWith_builtin1 (thn (ha pos pins s σ H _ I h) fun us s1 ⟨vs,H1,I1,r1,q1⟩=>hc pins s1 σ H1 vs us Q I1 r1 q1) he hpl
theorem pe_callTy (hc:CallR X (.type T) r) (hg:Gl X x) (hm:X.mg x=none) (hv:bootBuiltins x=some (.type T)) (ha:PA X (e :: es) t) (hn:x≠"__name__":=by decide) (hdb:(x == ("__debug__" : Str))=false:=by decide)
  (he:starEach (e :: es) X.env=(false,eval e X.env) :: starEach es X.env:=by rfl) (hpl:(backTo pos (starEach es X.env)).any (·.1)=false:=by rfl):PE X (.Call (.Name x p) (e :: es) [] pos) (tCB r t):=by
 intro pins s σ H Q I h
 refine wpAny_Call_Name_kw (ld_blt I hg hm hv ?_ hn hdb)
 exact PyProof.Rows.callWith_type1 (thn (ha pos pins s σ H _ I h) fun us s1 ⟨vs,H1,I1,r1,q1⟩=>hc pins s1 σ H1 vs us Q I1 r1 q1) he hpl
theorem pe_callTy0 (hc:CallR X (.type T) r) (hg:Gl X x) (hm:X.mg x=none) (hv:bootBuiltins x=some (.type T)) (hn:x≠"__name__":=by decide) (hdb:(x == ("__debug__" : Str))=false:=by decide) :
  PE X (.Call (.Name x p) [] [] pos) (tCB r tNil):=by
 intro pins s σ H Q I h
 refine wpAny_Call_Name_kw (ld_blt I hg hm hv ?_ hn hdb)
 exact PyProof.Rows.callWith_type0 (hc pins s σ H [] [] Q I .nil h)
end
end L2
namespace HT
open PySem PyProof.Rows
section
open PySem.SeqAt
open PySem.AutoSeq1 (wpAny_loadPart')
open PySem.MeetsSeq PySem.MeetsSeq2 PySem.MeetsSeq3
end
section
variable {prog:Program} {w:World} {A:Around} {E:Value→Shared→Prop} {s:Shared}
def sIx (n d:Nat):Option Int→Nat
 | none=>d
 | some v=>if v < 0 then (v + (n:Int)).toNat else min v.toNat n
theorem sIx_none (n d:Nat):sIx n d none=d:=rfl
theorem sIx_nat (n d k:Nat):sIx n d (some (k:Int))=min k n:=by
 show (if (k:Int) < 0 then ((k:Int) + (n:Int)).toNat else min (k:Int).toNat n)=min k n
 rw [if_neg (by omega),Int.toNat_natCast]
end
end HT
namespace L2
open PySem PySem.Spec PyProof.Rows
abbrev TO:=St→Hp→(Option Int→Hp→Prop)→Prop
def PO (X:Cx) (e:Option Expr) (t:TO):Prop:=
 ∀(pins:List (Addr × Obj)) (s:Shared) (σ:St) (H:Hp) (Q:Option Int→Hp→Prop),Inv X pins σ H s→t σ H Q→
  wpAny (model X.prog X.w) X.A (evalPart e X.env) (fun u s'=>∃o H',Inv X pins σ H' s'∧IsPart u o∧Q o H') X.xe s
def tNoPart:TO:=fun _ H Q=>Q none H
def tPart (t:TE):TO:=fun σ H Q=>t σ H fun x H1=>∃i,x = .int i∧Q (some i) H1
section
variable {X:Cx} {e:Expr} {te:TE} {lo hi:Option Expr} {tl th:TO} {pos p2:Pos}
theorem po_none:PO X none tNoPart:=by
 intro pins s σ H Q I h
 rw [evalPart_none]
 exact wpAny_pure ⟨none,H,I,.none,h⟩
theorem po_some (h:PE X e te):PO X (some e) (tPart te):=by
 intro pins s σ H Q I hw
 rw [evalPart_some]
 refine thn (h pins s σ H _ I hw) fun u s1 ⟨x,H1,I1,r1,q1⟩=>?_
 obtain ⟨i,rfl,q⟩:=q1
 obtain ⟨t,rfl⟩:=r1
 exact ⟨some i,H1,I1,.int i t,q⟩
def SlR (X:Cx) (r:V→Option Int→Option Int→Hp→VK→Prop):Prop:=
 ∀(pins:List (Addr × Obj)) (s:Shared) (σ:St) (H:Hp) (x:V) (v vl vu:Value) (lo hi:Option Int) (sl:Addr) (Q:VK),Inv X pins σ H s→RelV x v→s.heap.IsSliceOf sl vl vu .none→IsPart vl lo→IsPart vu hi→r x lo hi H Q→
  ∃T id,typeLookup (.type T) "__getitem__" = pure (some (.builtin id))∧s.TypeIs v T∧wpAny (model X.prog X.w) X.A (getItem v (.ref sl)) (EP X pins σ Q) X.xe s
def tSl (r:V→Option Int→Option Int→Hp→VK→Prop) (te:TE) (tl th:TO):TE:=fun σ H Q=>te σ H fun x H1=>tl σ H1 fun l H2=>th σ H2 fun u H3=>r x l u H3 Q
theorem pe_slice {r:V→Option Int→Option Int→Hp→VK→Prop} (hr:SlR X r) (he:PE X e te) (hl:PO X lo tl) (hu:PO X hi th):PE X (.Subscript e (.Slice lo hi none p2) pos) (tSl r te tl th):=by
 intro pins s σ H Q I h
 refine Subscript_ (thn (he pins s σ H _ I h) fun v s1 ⟨x,H1,I1,r1,q1⟩=>?_)
 refine wpAny_Slice (thn (hl pins s1 σ H1 _ I1 q1) fun vl s2 ⟨l,H2,I2,pl,q2⟩=>thn (hu pins s2 σ H2 _ I2 q2) fun vu s3 ⟨u,H3,I3,pu,q3⟩=>?_)
 rw [evalPart_none]
 refine wpAny_pure ?_
 have I4:Inv X pins σ H3 {s3 with heap:=s3.heap.push {cls:=.type "slice",data:=.fields #[vl,vu,.none]}}:=I3.kept (t':=s3.toks) fun b ob q=>Heap.get?_push_of_some _ q
 obtain ⟨T,id,hT,ht,hg⟩:=hr pins {s3 with heap:=s3.heap.push {cls:=.type "slice",data:=.fields #[vl,vu,.none]}} σ H3 x v vl vu l u s3.heap.objs.size Q I4 r1 (Heap.IsSliceOf.new ..) pl pu q3
 show wpAny (model X.prog X.w) X.A (subscriptTail e (.Slice lo hi none p2) v (.ref s3.heap.objs.size)) (EP X pins σ Q) X.xe {s3 with heap:=s3.heap.push {cls:=.type "slice",data:=.fields #[vl,vu,.none]}}
 exact tail_any (ops:=[.ref s3.heap.objs.size,v]) ht hT hg (by with_unfolding_all rfl)
def cutV (xs:List V) (lo hi:Option Int):List V:=(xs.drop (HT.sIx xs.length 0 lo)).take (HT.sIx xs.length xs.length hi - HT.sIx xs.length 0 lo)
theorem cutV_length (xs:List V) (lo hi:Option Int):(cutV xs lo hi).length≤xs.length:=by
 unfold cutV
 rw [List.length_take,List.length_drop]
 omega
end
def ixN (n:Nat) (i:Int):Option Nat:=if 0≤i then (if i < n then some i.toNat else none) else if -(n:Int)≤i then some (i + n).toNat else none
def atI {α:Type} (xs:List α) (i:Int):Option α:=(ixN xs.length i).bind fun j=>xs[j]?
theorem ixN_seq {n:Nat} {i:Int} {j:Nat} (h:ixN n i=some j):seqIndex? i n=some j∧j < n∧-(n:Int)≤i∧i < n:=by
 unfold ixN at h
 by_cases h0:0≤i
 ·rw [if_pos h0] at h
  by_cases h1:i < n
  ·rw [if_pos h1] at h
   have e:i.toNat=j:=Option.some.inj h
   exact ⟨by rw [seqIndex_of h0 h1,e],by omega,by omega,h1⟩
  ·rw [if_neg h1] at h; cases h
 ·rw [if_neg h0] at h
  by_cases h1:-(n:Int)≤i
  ·rw [if_pos h1] at h
   have e:(i + n).toNat=j:=Option.some.inj h
   exact ⟨by rw [seqIndex_neg (by omega) h1,e],by omega,h1,by omega⟩
  ·rw [if_neg h1] at h; cases h
theorem atI_get {α:Type} {xs:List α} {i:Int} {v:α} (h:atI xs i=some v):∃j,seqIndex? i xs.length=some j∧xs[j]? = some v∧j < xs.length∧-(xs.length:Int)≤i∧i < xs.length:=by
 unfold atI at h
 cases e:ixN xs.length i with
 | none=>rw [e] at h; cases h
 | some j=>
  rw [e] at h
  obtain ⟨h1,h2,h3,h4⟩:=ixN_seq e
  exact ⟨j,h1,h,h2,h3,h4⟩
theorem atI_nat {α:Type} {xs:List α} {j:Nat} {v:α} (h:xs[j]? = some v):atI xs (j:Int)=some v:=by
 have hj:j < xs.length:=(List.getElem?_eq_some_iff.mp h).1
 have e:ixN xs.length (j:Int)=some j:=by
  unfold ixN
  rw [if_pos (by omega),if_pos (by omega)]; simp
 unfold atI; rw [e]; exact h
def PlainIx (b:Expr):Prop:=∀o i,subscripted b false o i=operate [o,i] (getItem o i)
def IxR (X:Cx) (r:R2):Prop:=
 ∀(value slice:Expr) (pins:List (Addr × Obj)) (s:Shared) (σ:St) (H:Hp) (x y:V) (v u:Value) (Q:VK),Inv X pins σ H s→RelV x v→RelV y u→r x y H Q→
  subscripted slice false v u=operate [v,u] (getItem v u)→wpAny (model X.prog X.w) X.A (subscriptTail value slice v u) (EP X pins σ Q) X.xe s
def MtR (X:Cx) (id:String) (r:V→List V→Hp→VK→Prop):Prop:=
 ∀(pins:List (Addr × Obj)) (s:Shared) (σ:St) (H:Hp) (x:V) (xs:List V) (v:Value) (us:List Value) (Q:VK),Inv X pins σ H s→RelV x v→Vals xs us→r x xs H Q→
  wpAny (model X.prog X.w) X.A (call (.builtin id) (v :: us)) (EP X pins σ Q) X.xe s
section
variable {X:Cx} {a b:Expr} {ta tb:TE} {pos:Pos}
theorem pe_ix {r:R2} (hr:IxR X r) (ha:PE X a ta) (hb:PE X b tb) (hs:PlainIx b):PE X (.Subscript a b pos) (tOp r ta tb):=by
 intro pins s σ H Q I h
 exact Subscript_ (binT ha hb I h fun v u s2 x y H2 I2 rx ry q=>hr a b pins s2 σ H2 x y v u Q I2 rx ry q (hs _ _))
def rIxL (K:PySem.W.Frag):R2:=fun x y H Q=>∃p xs i v,x = .ref p∧y = .int i∧SqL K H p xs∧atI xs i=some v∧Q v H
def rIxT (K:PySem.W.Frag):R2:=fun x y H Q=>∃p xs i v,x = .ref p∧y = .int i∧SqT K H p xs∧atI xs i=some v∧Q v H
def rIxS:R2:=fun x y H Q=>∃z i c,x = .str z∧y = .int i∧z.length≤sizeLine∧atI z.cps.toList i=some c∧Q (.str ⟨#[c]⟩) H
theorem ix_list:IxR X (rIxL X.K):=by
 intro value slice pins s σ H x y v u Q I rx ry h hs
 obtain ⟨p,xs,i,z,rfl,rfl,hq,he,q⟩:=h
 cases rx
 obtain ⟨t,rfl⟩:=ry
 obtain ⟨its,r,pl,hz⟩:=I.list hq
 obtain ⟨j,h1,h2,h3,h4,h5⟩:=atI_get he
 obtain ⟨w,ew,rw'⟩:=r.get h2
 have hl:=r.length
 have hn:=line63
 have fin:EP X pins σ Q w s:=⟨z,H,I,rw',q⟩
 by_cases h0:0≤i
 ·have hj:i.toNat=j:=by
   rw [seqIndex_of h0 h5] at h1
   exact Option.some.inj h1
  exact item_listR pl.isList h0 (by omega) (by rw [hj]; simpa using ew) fin hs
 ·have hj:(i + (its.toArray.size:Int)).toNat=j:=by
   rw [seqIndex_neg (by omega) h4] at h1
   rw [List.size_toArray,← hl]
   exact Option.some.inj h1
  exact subscriptTail_builtinR (x:=w) pl.isList.typeIs slot_list_getitem.lookup
   (wpAny_getItem_list_neg (Q:=fun r s'=>r=w∧EP X pins σ Q r s') pl.isList (by omega) (by rw [List.size_toArray] <;> omega) (by omega) (by rw [hj]; simpa using ew) ⟨rfl,fin⟩) hs
theorem ix_tup:IxR X (rIxT X.K):=by
 intro value slice pins s σ H x y v u Q I rx ry h hs
 obtain ⟨p,xs,i,z,rfl,rfl,hq,he,q⟩:=h
 cases rx
 obtain ⟨t,rfl⟩:=ry
 obtain ⟨its,r,pl,hz⟩:=I.tuple hq
 obtain ⟨j,h1,h2,h3,h4,h5⟩:=atI_get he
 obtain ⟨w,ew,rw'⟩:=r.get h2
 have hl:=r.length
 have hn:=line63
 have fin:EP X pins σ Q w s:=⟨z,H,I,rw',q⟩
 exact subscriptTail_builtinR (x:=w) pl.typeIs slot_tuple_getitem.lookup
  (getItem_tuple (j:=j) (Q:=fun r s'=>r=w∧EP X pins σ Q r s') pl (by omega) (by omega) (by rw [List.size_toArray,← hl]; exact h1) (by simpa using ew) ⟨rfl,fin⟩) hs
theorem ix_str:IxR X rIxS:=by
 intro value slice pins s σ H x y v u Q I rx ry h hs
 obtain ⟨z,i,c,rfl,rfl,hz,he,q⟩:=h
 obtain ⟨t,rfl⟩:=rx
 obtain ⟨t',rfl⟩:=ry
 obtain ⟨j,h1,h2,h3,h4,h5⟩:=atI_get he
 have hl:z.cps.toList.length=z.length:=by simp [Str.length]
 rw [hl] at h1 h4 h5
 have hn:=line63
 exact tail_any (typeIs_str s z t) slot_str_getitem.lookup (getItem_str (c:=c) (by
  have e1:decide (i < -(2 ^ 63:Int))=false:=decide_eq_false (by omega)
  have e2:decide (i ≥ 2 ^ 63)=false:=decide_eq_false (by omega)
  rw [e1,e2,Bool.or_false]) (by rw [h1]; simpa using h2) ⟨.str ⟨#[c]⟩,H,I.tok _,⟨_,rfl⟩,q⟩) hs
theorem slice_bounds (lo hi:Option Int) (n:Nat):(sliceBounds lo hi none n).1=((HT.sIx n 0 lo:Nat):Int)∧(sliceBounds lo hi none n).2.1=((HT.sIx n n hi:Nat):Int)∧(sliceBounds lo hi none n).2.2=1:=by
 refine ⟨?_,?_,rfl⟩
 ·cases lo with
  | none=>simp [sliceBounds,HT.sIx]
  | some i=>
   simp only [sliceBounds,HT.sIx,Option.getD_none,show (1:Int) > 0 by decide,if_true]
   by_cases h:i < 0
   ·simp only [h,if_true] <;> omega
   ·simp only [h,if_false] <;> omega
 ·cases hi with
  | none=>simp [sliceBounds,HT.sIx]
  | some i=>
   simp only [sliceBounds,HT.sIx,Option.getD_none,show (1:Int) > 0 by decide,if_true]
   by_cases h:i < 0
   ·simp only [h,if_true] <;> omega
   ·simp only [h,if_false] <;> omega
theorem slicePick_cut (its:List Value) (lo hi:Option Int):slicePick its.toArray lo hi none=((its.drop (HT.sIx its.length 0 lo)).take (HT.sIx its.length its.length hi - HT.sIx its.length 0 lo)).toArray:=by
 obtain ⟨h1,h2,h3⟩:=slice_bounds lo hi its.toArray.size
 unfold slicePick
 rw [h1,h2,h3]
 simp only [sliceRange_one,pick_run,List.size_toArray] <;> rfl
def rSlL (K:PySem.W.Frag):V→Option Int→Option Int→Hp→VK→Prop:=fun x lo hi H Q=>∃a xs,x = .ref a∧SqL K H a xs∧∀p,H p=none→Q (.ref p) (upd H p (.lst (cutV xs lo hi)))
theorem sl_list:SlR X (rSlL X.K):=by
 intro pins s σ H x v vl vu lo hi sl Q I rx hs pl pu h
 obtain ⟨a,xs,rfl,hx,q⟩:=h
 cases rx
 obtain ⟨its,r,ht,hz⟩:=I.list hx
 have hlen:=r.length
 refine ⟨"list",_,slot_list_getitem.lookup,ht.isList.typeIs,?_⟩
 refine wpAny_getItem_list_slice ht.isList hs pl pu .none (by simp) ?_ (by rw [List.size_toArray] <;> omega)
 rw [slicePick_cut,← hlen]
 refine ⟨.ref s.heap.objs.size,_,I.laid (t':=s.toks) (o:=.lst (cutV xs lo hi)) (fun b ob q=>Heap.get?_push_of_some _ q) (Nat.le_refl _) ?_,rfl,q _ (I.hok.fresh (Nat.le_refl _))⟩
 exact ⟨Nat.le_trans (cutV_length xs lo hi) hz,_,0,(r.drop (HT.sIx xs.length 0 lo)).take (HT.sIx xs.length xs.length hi - HT.sIx xs.length 0 lo),Heap.get?_push_size _ rfl⟩
def flatV:V→Bool
 | .non=>true
 | .bl _=>true
 | .int _=>true
 | .str _=>true
 | _=>false
def eqV:V→V→Bool
 | .non,.non=>true
 | .bl a,.bl b=>a == b
 | .bl a,.int b=>(if a then 1 else 0) == b
 | .int a,.bl b=>a == (if b then 1 else 0)
 | .int a,.int b=>a == b
 | .str a,.str b=>a == b
 | _,_=>false
theorem eqAt_V {A:Around} {s:Shared} {y x:V} {u v:Value} (ry:RelV y u) (rx:RelV x v) (fy:flatV y=true) (fx:flatV x=true):SeqAt.EqAt A s u v (eqV y x):=by
 cases y with
 | non=>
  cases ry
  cases x with
  | non=>cases rx; exact SeqAt.EqAt.same _
  | bl b=>cases rx; exact SeqAt.EqAt.none_bool b
  | int b=>obtain ⟨t,rfl⟩:=rx; exact SeqAt.EqAt.none_int b t
  | str b=>obtain ⟨t,rfl⟩:=rx; exact SeqAt.EqAt.none_str b t
  | _=>exact absurd (show false=true from fx) Bool.false_ne_true
 | bl a=>
  cases ry
  cases x with
  | non=>cases rx; exact SeqAt.EqAt.bool_none a
  | bl b=>cases rx; exact SeqAt.EqAt.bool_bool a b
  | int b=>obtain ⟨t,rfl⟩:=rx; exact SeqAt.EqAt.bool_int a b t
  | str b=>obtain ⟨t,rfl⟩:=rx; exact SeqAt.EqAt.bool_str a b t
  | _=>exact absurd (show false=true from fx) Bool.false_ne_true
 | int a=>
  obtain ⟨t',rfl⟩:=ry
  cases x with
  | non=>cases rx; exact SeqAt.EqAt.int_none a t'
  | bl b=>cases rx; exact SeqAt.EqAt.int_bool a t' b
  | int b=>obtain ⟨t,rfl⟩:=rx; exact SeqAt.EqAt.int_int a t' b t
  | str b=>obtain ⟨t,rfl⟩:=rx; exact SeqAt.EqAt.int_str a t' b t
  | _=>exact absurd (show false=true from fx) Bool.false_ne_true
 | str a=>
  obtain ⟨t',rfl⟩:=ry
  cases x with
  | non=>cases rx; exact SeqAt.EqAt.str_none a t'
  | bl b=>cases rx; exact SeqAt.EqAt.str_bool a t' b
  | int b=>obtain ⟨t,rfl⟩:=rx; exact SeqAt.EqAt.str_int a t' b t
  | str b=>obtain ⟨t,rfl⟩:=rx; exact SeqAt.EqAt.str_str a t' b t
  | _=>exact absurd (show false=true from fx) Bool.false_ne_true
 | _=>exact absurd (show false=true from fy) Bool.false_ne_true
def eqU (x:V) (u:Value):Bool:=match u with
 | .none=>eqV .non x
 | .bool b=>eqV (.bl b) x
 | .int i _=>eqV (.int i) x
 | .str z _=>eqV (.str z) x
 | _=>false
theorem eqU_of {x y:V} {u:Value} (r:RelV y u) (f:flatV y=true):eqU x u=eqV y x:=by
 cases y with
 | non=>cases r; rfl
 | bl b=>cases r; rfl
 | int i=>obtain ⟨t,rfl⟩:=r; rfl
 | str z=>obtain ⟨t,rfl⟩:=r; rfl
 | _=>exact absurd (show false=true from f) Bool.false_ne_true
theorem any_eqU {x:V}:∀{xs:List V} {us:List Value},Vals xs us→xs.all flatV=true→us.any (eqU x)=xs.any fun y=>eqV y x
 | _,_,.nil,_=>rfl
 | y :: xs,u :: us,.cons r t,f=>by
  rw [List.all_cons,Bool.and_eq_true] at f
  rw [List.any_cons,List.any_cons,eqU_of r f.1,any_eqU t f.2]
theorem mem_eqAt {A:Around} {s:Shared} {x:V} {v:Value} (rx:RelV x v) (fx:flatV x=true):∀{xs:List V} {us:List Value},Vals xs us→xs.all flatV=true→∀u∈us,SeqAt.EqAt A s u v (eqU x u)
 | _,_,.nil,_=>fun u hu=>by cases hu
 | y :: xs,u :: us,.cons r t,f=>fun u' hu=>by
  rw [List.all_cons,Bool.and_eq_true] at f
  rcases List.mem_cons.mp hu with rfl | hu
  ·rw [eqU_of r f.1]; exact eqAt_V r rx f.1 fx
  ·exact mem_eqAt rx fx t f.2 u' hu
def inV (x:V) (xs:List V):Bool:=xs.any fun y=>eqV y x
def rIn (K:PySem.W.Frag) (neg:Bool):R2:=fun x y H Q=>∃p xs,y = .ref p∧(SqL K H p xs∨SqT K H p xs)∧flatV x=true∧xs.all flatV=true∧Q (.bl (if neg then !inV x xs else inV x xs)) H
theorem op_notIn_seq:OpR X (compareOp .NotIn) (rIn X.K true):=by
 intro pins s σ H x y v u Q I rx ry h
 obtain ⟨p,xs,rfl,hq,fx,fs,q⟩:=h
 cases ry
 rcases hq with hq | hq
 ·obtain ⟨its,r,pl,hz⟩:=I.list hq
  refine SeqAt.notIn_listAt (eqU x) pl.isList (fun w hw=>mem_eqAt rx fx r fs w (by simpa using hw)) ⟨.bl _,H,I,rfl,?_⟩
  rw [show its.toArray.any (eqU x)=its.any (eqU x) by simp,any_eqU r fs]
  exact q
 ·obtain ⟨its,r,pl,hz⟩:=I.tuple hq
  refine SeqAt.notIn_tupleAt (eqU x) pl (fun w hw=>mem_eqAt rx fx r fs w (by simpa using hw)) ⟨.bl _,H,I,rfl,?_⟩
  rw [show its.toArray.any (eqU x)=its.any (eqU x) by simp,any_eqU r fs]
  exact q
theorem call_len_seq:CallR X (.builtin "len") (fun xs H Q=>∃p ys,xs=[.ref p]∧(SqL X.K H p ys∨SqT X.K H p ys)∧Q (.int ys.length) H):=by
 intro pins s σ H xs us Q I r h
 obtain ⟨p,ys,rfl,hq,q⟩:=h
 obtain ⟨u,rfl,rx⟩:=vals1 r
 cases rx
 have hn:=line63
 rcases hq with hq | hq
 ·obtain ⟨its,r',pl,hz⟩:=I.list hq
  have hlen:=r'.length
  exact Calls.call_len_list pl.isList (by simp only [List.size_toArray] <;> omega) ⟨.int ys.length,H,I.tok _,⟨s.toks + 1,by rw [List.size_toArray,hlen]⟩,q⟩
 ·obtain ⟨its,r',pl,hz⟩:=I.tuple hq
  have hlen:=r'.length
  exact len_tuple pl (by simp only [List.size_toArray] <;> omega) ⟨.int ys.length,H,I.tok _,⟨s.toks + 1,by rw [List.size_toArray,hlen]⟩,q⟩
theorem call_len_str:CallR X (.builtin "len") (fun xs H Q=>∃z,xs=[.str z]∧z.length≤sizeLine∧Q (.int z.length) H):=by
 intro pins s σ H xs us Q I r h
 obtain ⟨z,rfl,hz,q⟩:=h
 obtain ⟨u,rfl,t,rfl⟩:=vals1 r
 have hn:=line63
 exact len_str (by omega) ⟨.int z.length,H,I.tok _,⟨_,rfl⟩,q⟩
theorem call_list_of:CallR X (.type "list") (fun xs H Q=>∃p ys,xs=[.ref p]∧(SqL X.K H p ys∨SqT X.K H p ys)∧∀l,H l=none→Q (.ref l) (upd H l (.lst ys))):=by
 intro pins s σ H xs us Q I r h
 obtain ⟨p,ys,rfl,hq,q⟩:=h
 obtain ⟨u,rfl,rx⟩:=vals1 r
 cases rx
 have fin:∀(its:List Value),Vals ys its→ys.length≤sizeLine→∀(h':Heap) (c':Nat),(∀b o',s.heap.get? b=some o'→h'.get? b=some o')→
   h'.get? s.heap.objs.size=some {cls:=.type "list",dict:=none,data:=.seq its.toArray c',slots:=#[]}→EP X pins σ Q (.ref s.heap.objs.size) {s with heap:=h'}:=fun its r' hz h' c' kp e=>
  ⟨.ref s.heap.objs.size,_,I.laid (t':=s.toks) kp (Nat.le_refl _) (show ObjOk X.prog X.w _ h' _ (.lst ys) from ⟨hz,its,c',r',e⟩),rfl,q _ (I.hok.fresh (Nat.le_refl _))⟩
 rcases hq with hq | hq
 ·obtain ⟨its,r',pl,hz⟩:=I.list hq
  have hlen:=r'.length
  obtain ⟨o,ho,hc,n,hd⟩:=pl.isList
  exact call_list_seq p (.inl rfl) ho hc hd (fun h' c' kp e=>fin its r' hz h' c' kp e) (by simp only [List.size_toArray] <;> omega)
 ·obtain ⟨its,r',pl,hz⟩:=I.tuple hq
  have hlen:=r'.length
  obtain ⟨o,ho,hc,n,hd⟩:=pl
  exact call_list_seq p (.inr rfl) ho hc hd (fun h' c' kp e=>fin its r' hz h' c' kp e) (by simp only [List.size_toArray] <;> omega)
theorem call_tuple_of:CallR X (.type "tuple") (fun xs H Q=>∃p ys,xs=[.ref p]∧((SqL X.K H p ys∧∀l,H l=none→Q (.ref l) (upd H l (.tup ys)))∨(SqT X.K H p ys∧Q (.ref p) H))):=by
 intro pins s σ H xs us Q I r h
 obtain ⟨p,ys,rfl,h⟩:=h
 obtain ⟨u,rfl,rx⟩:=vals1 r
 cases rx
 rcases h with ⟨hq,q⟩ | ⟨hq,q⟩
 ·obtain ⟨its,r',pl,hz⟩:=I.list hq
  have hlen:=r'.length
  refine call_tuple_list pl.isList (fun h' kp=>?_) (by simp only [List.size_toArray] <;> omega)
  have I1:Inv X pins σ H {s with heap:=h'}:=I.kept (t':=s.toks) kp
  have I2:Inv X pins σ (upd H h'.objs.size (.tup ys)) {s with heap:=h'.push {cls:=.type "tuple",data:=.seq its.toArray}}:=
   I1.laid (t':=s.toks) (fun b o e=>Heap.get?_push_of_some _ e) (Nat.le_refl _) (show ObjOk X.prog X.w _ _ _ (.tup ys) from ⟨hz,its,r',IsTup.new _ _⟩)
  exact ⟨.ref h'.objs.size,_,I2,rfl,q _ (I1.hok.fresh (Nat.le_refl _))⟩
 ·obtain ⟨its,r',pl,hz⟩:=I.tuple hq
  exact call_tuple_same pl ⟨.ref p,H,I,rfl,q⟩
def tyV (K:PySem.W.Frag) (T:String) (x:V) (H:Hp):Prop:=match x with
 | .str _=>T = "str"
 | .int _=>T = "int"
 | .ref p=>(T = "list"∧∃xs,SqL K H p xs)∨(T = "tuple"∧∃o,K.lookup p=some o∧o.cls = .type "tuple"∧o.dict=none)∨
   (T = "dict"∧((∃kvs,H p=some (.dK kvs))∨∃kvs,H p=some (.dT kvs)))∨(T = "set"∧∃S n,H p=some (.set S n))
 | _=>False
theorem tyV_is {pins:List (Addr × Obj)} {σ:St} {H:Hp} {s:Shared} {T:String} {x:V} {v:Value} (I:Inv X pins σ H s) (r:RelV x v) (ty:tyV X.K T x H) :
  s.TypeIs v T∧∀a,v = .ref a→∃ob,s.heap.get? a=some ob∧ob.dict=none:=by
 cases x with
 | str z=>
  obtain ⟨t,rfl⟩:=r
  cases (show T = "str" from ty)
  exact ⟨typeIs_str s z t,fun _ e=>nomatch e⟩
 | int i=>
  obtain ⟨t,rfl⟩:=r
  cases (show T = "int" from ty)
  exact ⟨typeIs_int s i t,fun _ e=>nomatch e⟩
 | ref p=>
  cases r
  rcases ty with ⟨rfl,xs,hq⟩ | ⟨rfl,o,hk,hc,hd⟩ | ⟨rfl,hk⟩ | ⟨rfl,S,n,hk⟩
  ·obtain ⟨its,_,pl,_⟩:=I.list hq
   refine ⟨pl.isList.typeIs,fun a e=>?_⟩
   cases e
   obtain ⟨o,n,e,c,hd,_⟩:=pl
   exact ⟨o,e,hd⟩
  ·refine ⟨⟨o,I.kIn p o hk,hc⟩,fun a e=>?_⟩
   cases e
   exact ⟨o,I.kIn _ o hk,hd⟩
  ·have z:∃o,s.heap.get? p=some o∧o.ExactDict:=by
    rcases hk with ⟨kvs,hk⟩ | ⟨kvs,hk⟩
    ·obtain ⟨_,_,_,_,o,_,_,e,ex,_⟩:=I.hok p _ hk
     exact ⟨o,e,ex⟩
    ·obtain ⟨_,_,_,_,o,_,_,e,ex,_⟩:=I.hok p _ hk
     exact ⟨o,e,ex⟩
   obtain ⟨o,e,ex⟩:=z
   refine ⟨⟨o,e,ex.1⟩,fun a e2=>?_⟩
   cases e2
   exact ⟨o,e,ex.2.1⟩
  ·obtain ⟨o,_,_,_,e,ex,_⟩:=I.hok p _ hk
   refine ⟨⟨o,e,ex.1⟩,fun a e2=>?_⟩
   cases e2
   exact ⟨o,e,ex.2.1⟩
 | _=>exact False.elim ty
def tBM0 (K:PySem.W.Frag) (T:String) (r:V→List V→Hp→VK→Prop) (to:TE):TE:=fun σ H Q=>to σ H fun x H1=>tyV K T x H1∧r x [] H1 Q
def tBM (K:PySem.W.Frag) (T:String) (r:V→List V→Hp→VK→Prop) (to:TE) (t:TA):TE:=fun σ H Q=>to σ H fun x H1=>tyV K T x H1∧t σ H1 fun xs H2=>r x xs H2 Q
variable {o e:Expr} {es:List Expr} {to:TE} {t:TA} {name:Str} {apos cpos:Pos} {T id:String} {r:V→List V→Hp→VK→Prop}
theorem pe_bm0 (pa:PlainAttrs T) (slot:Slot T name id) (hty:typeOf (.builtin id)=pure (.type "method_descriptor")) (hm:MtR X id r) (ho:PE X o to)
  (hbase:attributeBase o name X.env (eval o X.env)=eval o X.env:=by rfl) (hline:(apos.endLine == cpos.line)=true:=by rfl):PE X (.Call (.Attribute o name apos) [] [] cpos) (tBM0 X.K T r to):=by
 intro pins s σ H Q I h
 refine wpAny_Call_method0_late hbase hline (thn (ho pins s σ H _ I h) fun v s1 ⟨x,H1,I1,r1,ty,q1⟩=>?_)
 obtain ⟨h1,h2⟩:=tyV_is I1 r1 ty
 exact ⟨T,id,pa,slot,hty,h1,h2,Calls.callWith_builtin rfl (PySem.evalArgs_none (hm pins s1 σ H1 x [] v [] Q I1 r1 .nil q1))⟩
theorem pe_bm (pa:PlainAttrs T) (slot:Slot T name id) (hty:typeOf (.builtin id)=pure (.type "method_descriptor")) (hm:MtR X id r) (ho:PE X o to) (ha:PA X (e :: es) t)
  (hbase:attributeBase o name X.env (eval o X.env)=eval o X.env:=by rfl)
  (hfew:((backTo cpos (starEach (e :: es) X.env)).all (fun x=>!x.1) && (backToKw cpos (keywordEach [] X.env)).all (fun x=>x.1.isSome)
   && decide ((e :: es).length + ([]:List Keyword).length + (if ([]:List Keyword).isEmpty then 0 else 1) < 30))=true:=by rfl)
  (hline:(apos.endLine == cpos.line)=true:=by rfl) (hs:starEach (e :: es) X.env=(false,eval e X.env) :: starEach es X.env:=by rfl) (hplain:(backTo cpos (starEach es X.env)).any (·.1)=false:=by rfl) :
  PE X (.Call (.Attribute o name apos) (e :: es) [] cpos) (tBM X.K T r to t):=by
 intro pins s σ H Q I h
 refine wpAny_Call_method_late hbase hfew hline rfl (thn (ho pins s σ H _ I h) fun v s1 ⟨x,H1,I1,r1,ty,q1⟩=>?_)
 obtain ⟨h1,h2⟩:=tyV_is I1 r1 ty
 refine ⟨T,id,pa,slot,hty,h1,h2,?_⟩
 have hA:=ha cpos pins s1 σ H1 _ I1 q1
 rw [hs] at hA ⊢
 refine Calls.callWith_builtin (by show (false || (backTo cpos (starEach es X.env)).any (·.1))=false; rw [hplain] <;> rfl) (Calls.evalArgs_plain ?_)
 exact thn hA fun us s2 ⟨vs,H2,I2,r2,q2⟩=>hm pins s2 σ H2 x vs v us Q I2 r1 r2 q2
/- xs.append(e),list.index on a module's tuple .. are MtR facts of 06m -/
end
def MtM (X:Cx) (id:String) (r:V→List V→Hp→VK→Prop):Prop:=
 ∀(pins:List (Addr × Obj)) (s:Shared) (σ:St) (H:Hp) (x:V) (xs:List V) (v:Value) (us:List Value) (Q:VK),Inv X pins σ H s→RelV x v→Vals xs us→r x xs H Q→
  wpAny (model X.prog X.w) X.A (call (.builtin id) (v :: us)) (EP X pins σ Q) X.xe s
theorem Vals.one:∀{x:V} {us:List Value},Vals [x] us→∃u,us=[u]∧RelV x u
 | _,_,.cons r .nil=>⟨_,rfl,r⟩
theorem Vals.zero:∀{us:List Value},Vals [] us→us=[]
 | _,.nil=>rfl
theorem Vals.reverse {xs:List V} {us:List Value} (h:Vals xs us):Vals xs.reverse us.reverse:=by
 induction h with
 | nil=>exact .nil
 | cons r t ih=>rw [List.reverse_cons,List.reverse_cons]; exact Vals.append ih (.cons r .nil)
theorem Vals.rep {xs:List V} {us:List Value} (h:Vals xs us):∀k:Nat,Vals (List.replicate k xs).flatten (List.replicate k us).flatten
 | 0=>.nil
 | k + 1=>by
  rw [List.replicate_succ,List.replicate_succ,List.flatten_cons,List.flatten_cons]
  exact Vals.append h (Vals.rep h k)
theorem foldl_rep (its:List Value):∀(k:Nat) (acc:List Value),
  List.foldl (fun x1 x2=>x1 ++ x2) acc.toArray (List.replicate k its.toArray)=(acc ++ (List.replicate k its).flatten).toArray
 | 0,acc=>by simp
 | k + 1,acc=>by
  have e:acc.toArray ++ its.toArray=(acc ++ its).toArray:=by simp
  have e2:(acc ++ its) ++ (List.replicate k its).flatten=acc ++ (List.replicate (k + 1) its).flatten:=by
   rw [List.replicate_succ,List.flatten_cons,List.append_assoc]
  rw [← e2,← foldl_rep its k (acc ++ its),← e,List.replicate_succ,List.foldl_cons]
section
variable {X:Cx} {pins:List (Addr × Obj)} {σ:St} {H:Hp} {s:Shared} {l b:Addr} {xs ys zs:List V}
theorem Inv.lset {its its':List Value} {n:Nat} {f:Array Value→Array Value} {t':Nat} (I:Inv X pins σ H s) (hH:H l=some (.lst xs))
  (e:s.heap.get? l=some {cls:=.type "list",data:=.seq its.toArray n}) (hf:f its.toArray=its'.toArray) (hv:Vals ys its') (hz:ys.length≤sizeLine) :
  Inv X pins σ (upd H l (.lst ys)) {s with heap:=s.heap.update l (Obj.mapSeq f),toks:=t'}:=by
 have q:=PySem.IsL.update e f
 rw [hf] at q
 refine I.write (x:=l) (e:=l) (by rw [hH]; exact trivial) (.inl rfl) (fun b' u hb hu=>(Heap.get?_update_other s.heap (Obj.mapSeq f) (Ne.symm hb)).trans hu) ⟨_,q⟩ ?_
 exact ⟨hz,its',_,hv,q⟩
theorem Inv.lnew {its:List Value} {t':Nat} (I:Inv X pins σ H s) (hv:Vals ys its) (hz:ys.length≤sizeLine) :
  Inv X pins σ (upd H s.heap.objs.size (.lst ys)) {s with heap:=s.heap.push {cls:=.type "list",data:=.seq its.toArray},toks:=t'}:=
 I.laid (fun _ _ q=>Heap.get?_push_of_some _ q) (Nat.le_refl _) ⟨hz,its,0,hv,Heap.get?_push_size _ rfl⟩
theorem Inv.fresh (I:Inv X pins σ H s):H s.heap.objs.size=none:=I.hok.fresh (Nat.le_refl _)
theorem Inv.lstM (I:Inv X pins σ H s) (hH:H l=some (.lst xs)):xs.length≤sizeLine∧∃(its:List Value) (n:Nat),Vals xs its∧xs.length=its.length∧s.heap.get? l=some {cls:=.type "list",data:=.seq its.toArray n}:=by
 obtain ⟨z,its,n,r,e⟩:=I.hok l _ hH
 exact ⟨z,its,n,r,r.length,e⟩
theorem notLongL {n:Nat} (h:n≤sizeLine):Builtin.List.listTooLong n=false:=by
 unfold Builtin.List.listTooLong
 exact decide_eq_false (by omega)
end
section
variable {X:Cx}
def rAppend:V→List V→Hp→VK→Prop:=fun x vs H Q=>∃l xs y,x = .ref l∧vs=[y]∧H l=some (.lst xs)∧xs.length < sizeLine∧Q .non (upd H l (.lst (xs ++ [y])))
theorem mt_append:MtM X "list.append" rAppend:=by
 intro pins s σ H x vs v us Q I rx rv h
 obtain ⟨l,xs,y,rfl,rfl,hH,hz,q⟩:=h
 cases rx
 obtain ⟨u,rfl,ru⟩:=rv.one
 obtain ⟨z,its,n,r,hl,e⟩:=I.lstM hH
 refine call_meets F.slot_list_append ⟨_,e,rfl⟩ F.entry_list_append (F.args_list_append_2 _ _) (PySem.list_append l its.toArray n u (by rw [List.size_toArray]; omega)) ⟨e,?_⟩
 refine ⟨.non,_,I.lset (its':=its ++ [u]) hH e (by simp) (r.append (.cons ru .nil)) ?_,rfl,q⟩
 rw [List.length_append,List.length_singleton]
 omega
def rClear:V→List V→Hp→VK→Prop:=fun x vs H Q=>∃l xs,x = .ref l∧vs=[]∧H l=some (.lst xs)∧Q .non (upd H l (.lst []))
theorem mt_clear:MtM X "list.clear" rClear:=by
 intro pins s σ H x vs v us Q I rx rv h
 obtain ⟨l,xs,rfl,rfl,hH,q⟩:=h
 cases rx
 have hus:=rv.zero
 subst hus
 obtain ⟨z,its,n,r,hl,e⟩:=I.lstM hH
 refine call_meets F.slot_list_clear ⟨_,e,rfl⟩ F.entry_list_clear (F.args_list_clear_1 _) (AutoSeq1.list_clear_list_0 l its.toArray n (by rw [List.size_toArray]; omega)) ⟨e,?_⟩
 exact ⟨.non,_,I.lset (its':=[]) (ys:=[]) hH e rfl .nil (Nat.zero_le _),rfl,q⟩
def rCat:R2:=fun x y H Q=>∃l b xs zs,x = .ref l∧y = .ref b∧H l=some (.lst xs)∧H b=some (.lst zs)∧xs.length + zs.length≤sizeLine∧∀p,H p=none→Q (.ref p) (upd H p (.lst (xs ++ zs)))
theorem op_cat:OpR X (binaryOp .Add) rCat:=by
 intro pins s σ H x y v u Q I rx ry h
 obtain ⟨l,b,xs,zs,rfl,rfl,hH,hB,hz,q⟩:=h
 cases rx
 cases ry
 obtain ⟨z,its,n,r,hl,e⟩:=I.lstM hH
 obtain ⟨z2,its2,n2,r2,hl2,e2⟩:=I.lstM hB
 refine PySem.P.add_list e e2 ?_ (by rw [List.size_toArray,List.size_toArray]; omega)
 have ea:its.toArray ++ its2.toArray=(its ++ its2).toArray:=by simp
 rw [ea]
 exact ⟨.ref _,_,I.lnew (t':=s.toks) (r.append r2) (by rw [List.length_append]; omega),rfl,q _ I.fresh⟩
def rRep:R2:=fun x y H Q=>∃l k xs,x = .ref l∧y = .int k∧H l=some (.lst xs)∧-(2 ^ 63)≤k∧k < 2 ^ 63∧xs.length * k.toNat≤sizeLine∧
 ∀p,H p=none→Q (.ref p) (upd H p (.lst (List.replicate k.toNat xs).flatten))
theorem len_rep {α:Type} (xs:List α) (k:Nat):(List.replicate k xs).flatten.length=k * xs.length:=by
 induction k with
 | zero=>simp
 | succ k ih=>rw [List.replicate_succ,List.flatten_cons,List.length_append,ih,Nat.succ_mul,Nat.add_comm]
theorem op_rep:OpR X (binaryOp .Mult) rRep:=by
 intro pins s σ H x y v u Q I rx ry h
 obtain ⟨l,k,xs,rfl,rfl,hH,h1,h2,hz,q⟩:=h
 cases rx
 obtain ⟨t,rfl⟩:=ry
 obtain ⟨z,its,n,r,hl,e⟩:=I.lstM hH
 have hlen:its.toArray.size * k.toNat≤sizeLine:=by rw [List.size_toArray,← hl]; exact hz
 have hcap:¬its.toArray.size * k.toNat > (2 ^ 63 - 1) / 8:=by
  have:(sizeLine:Nat)≤(2 ^ 63 - 1) / 8:=by decide
  omega
 have hfit:¬(!Builtin.List.listFitsIndex k)=true:=by
  rw [fitsIndex_both h1 h2]
  exact Bool.false_ne_true
 have hlong:¬Builtin.List.listTooLong (its.toArray.size * k.toNat)=true:=by
  rw [notLongL hlen]
  exact Bool.false_ne_true
 have hnew:List.foldl (fun x1 x2=>x1 ++ x2) #[] (List.replicate (if its.toArray.isEmpty=true then 0 else k.toNat) its.toArray)=(List.replicate k.toNat its).flatten.toArray:=by
  have f0:∀m:Nat,List.foldl (fun x1 x2=>x1 ++ x2) #[] (List.replicate m its.toArray)=(List.replicate m its).flatten.toArray:=fun m=>by
   have:=foldl_rep its m []
   rw [List.nil_append] at this
   exact this
  rw [f0]
  cases its with
  | nil=>simp
  | cons a r'=>rw [if_neg (by simp)]
 refine wpAny_binaryOp_repeat_ref (T:="list") (U:="int") (by decide) ⟨_,e,rfl⟩ (fun s'=>typeIs_int s' k t) noFill_list_mul F.fills_int_mul F.slot_int_rmul repeat_list F.slot_int_index.lookup
  (call_meets F.slot_int_rmul (typeIs_int s k t) F.entry_int_rmul (F.args_int_rmul_2 _ _) (int___rmul___int_list k t l its.toArray n)
   ⟨e,rfl,⟨_,e,rfl⟩,call_meets F.slot_list_mul ⟨_,e,rfl⟩ F.entry_list_mul (F.args_list_mul_2 _ _) (AutoListH.list___mul___list_int_3 l its.toArray n k t hfit hcap hlong) ⟨e,?_⟩⟩)
 rw [hnew]
 exact ⟨.ref _,_,I.lnew (t':=s.toks) (r.rep k.toNat) (by rw [len_rep,Nat.mul_comm]; exact hz),rfl,q _ I.fresh⟩
end
section
variable {prog:Program} {w:World} {A:Around} {E:Value→Shared→Prop} {s:Shared}
set_option maxRecDepth 100000 in
end
section
variable {X:Cx}
end
end L2
namespace Att
open PySem PySem.W PySem.Calls PyProof.Rows
theorem ints_of_wellAll {P:Params} {h:Heap}:∀(ns:List Int) (vs:List Value),WellAll P h vs (ns.map WData.int)→IntsAre vs ns:=by
 intro ns
 induction ns with
 | nil=>
  intro vs w
  rw [List.map_nil] at w
  cases w
  exact .nil
 | cons n ns ih=>
  intro vs w
  rw [List.map_cons] at w
  cases w with
  | cons a b=>
   cases a
   exact .cons _ _ (ih _ b)
theorem script_of {l:OpenLaw} {n:Nat} (hn:l.most=some n) {P:Params} {h:Heap} {args:List WData} {vals:List Value}
  (hpre:l.row.toRowW.claim.pre args=true) (hwl:WellAll P h vals args) :
  ∃a vs ns,vals=[Value.ref a]∧args=[WData.list (ns.map WData.int)]∧h.get? a=some {cls:=.type "list",data:=.seq vs.toArray}∧IntsAre vs ns∧ns.length≤n:=by
 have hsh:WShape.hasAll [] args [.list .int]=true:=(pre_splitW hpre).1
 have hc:l.pre.holds [] {args:=args}=true:=(pre_splitW hpre).2
 obtain ⟨d,r,rfl,h1,h2⟩:=hasAllW_cons hsh
 obtain rfl:=hasAllW_nil h2
 obtain ⟨xs,rfl,h3⟩:=hasW_list h1
 obtain ⟨ns,rfl⟩:=items_int h3
 have hlen:ns.length≤n:=by
  unfold OpenLaw.pre at hc
  have h4:(WTm.not (.lt (.lit (.int (n:Int))) (.len (.arg 0)))).holds [] {args:=[.list (ns.map .int)]}=true:=by
   have h4:=(holds_andW hc).1
   rw [hn] at h4
   exact h4
  have h5:=condW_of h4 (w_not (w_lt w_lit (w_len_list (w_arg rfl))))
  rw [List.length_map] at h5
  refine Nat.le_of_not_lt fun q=>?_
  have q':(n:Int) < ((ns.length:Nat):Int):=by omega
  first
   | (rw [decide_eq_true q'] at h5; exact absurd h5 (by decide))
   | (simp at h5; omega)
 cases hwl with
 | cons w1 w2=>
  cases w2
  cases w1 with
  | list ho hall=>exact ⟨_,_,ns,rfl,rfl,ho,ints_of_wellAll ns _ hall,hlen⟩
theorem post_true (l:OpenLaw) (args:List WData):l.row.toRowW.claim.post args (.bool true) args=true:=
 postW_of (r:=l.row.toRowW) (X:=(true == true))
  (show WShape.has [] (.bool true) .bool=true by first | rfl | decide | simp [WShape.has,WShape.arms,WShape.armsAll])
  (show (WTm.eq .res (.lit (.bool true))).value [] {args:=args,res:=some (.bool true),after:=args}=some (.bool (true == true)) from w_eq_bool (w_res rfl) w_lit) rfl
theorem attach_call {l:OpenLaw} {n:Nat} {q:Program} {loose:List Str} {XP:(Str→Option Value)→Heap→Prop} {YP:World→Heap→Prop} {d:DefRec}
  (hn:l.most=some n) (hdf:d.params.defaults=[])
  (call:∀(w:World) (s₀ s₁:Shared) (mg mb:Str→Option Value) (fa:Addr) (o:Obj) (pm cd doc:Value) (a:Addr) (vs:List Value) (ns:List Int),
   Ground q loose [] XP w s₀ mg mb s₁.heap→YP w s₁.heap→
   s₁.heap.get? fa=some o→o.data = .func (docDef d.name d.params d.body d.scope pm cd doc)→s₁.heap.CodeRec cd d.name→mg d.name=some (.ref fa)→
   s₁.heap.get? a=some {cls:=.type "list",data:=.seq vs.toArray}→IntsAre vs ns→ns.length≤n→s₁.gens = #[]→
   codeAny (model l.prog w) callerA (.call (.ref fa) ⟨[.ref a],[]⟩) (fun r s'=>r = .ok (.ret (.bool true))∧OldK s₁.heap s'.heap∧s'.os=s₁.os∧AllBare s'.gens) s₁) :
  WalkO q loose XP YP l.row.toRowW d [] (fun f vs=>PySem.call f vs):=by
 intro w s₀ s₁ mg mb G Y fa o pm cd doc dV kV ho hd hcd hD hmg hg args vals as hpre hlay hrd hwl hlo
 obtain rfl:dV = .none:=Dflts.none hD hdf
 obtain rfl:kV = .none:=Dflts.noKw hD
 obtain ⟨a,vs,ns,rfl,rfl,hobj,hints,hlen⟩:=script_of hn hpre hwl
 refine enter_call (codeAny_mono (call w s₀ s₁ mg mb fa o pm cd doc a vs ns G Y ho (fd_plain hd) hcd hmg hobj hints hlen hg) fun r s' hq=>?_)
 obtain ⟨rfl,h2,h3,h4⟩:=hq
 exact ⟨.inl ⟨.bool true,.bool true,[],rfl,fun _=>rfl,.bool true,post_true l _,fun _=>⟨List.Pairwise.nil,fun _ hm=>(nomatch hm)⟩⟩,h2,h3,h4⟩
section
variable {prog:Program} {w:World} {A:Around} {E:Value→Shared→Prop} {s:Shared} {K:Frag}
end
end Att
namespace L2
open PySem PySem.Spec PyProof.Rows
theorem vals_ints:∀{vs:List Value} {ns:List Int},IntsAre vs ns→Vals (ns.map V.int) vs
 | _,_,.nil=>.nil
 | _,_,.cons n t h=>.cons ⟨t,rfl⟩ (vals_ints h)
end L2
/- THE LAST THEOREM (shape; LID,My.* are yours):
   My.Adr: a structure of the addresses that your layer names (classes,functions); My.Txt K t: a structure (Prop) of the equations over K;
   My.txt_mk:{K} {implicit addresses ..} (e1:nsIn K mainGlobals "law" = some (some (.ref f))) (e2:K.lookup f=some ⟨oc,od,.func (fnOf "law" "law" params body scope dV kV doc pm an cdv ct),sl⟩) (e3:codeIn K cdv "law" = true) ..:∃t,My.Txt K t
set_option maxRecDepth 100000 in
set_option maxHeartbeats 0 in
theorem PySem.Challenge.cw_LID_holds : PySem.Challenge.rw_LID.Holds := by
 w_on; o_law; k_head; (case hw=>w_witness2)
 k_fill
 refine L2.walk_of (l:=PySem.Challenge.rw_LID) (n:=63) (k:=40) (x:="script") (CX:=fun w=>..) (sp:=fun _=>My.sp_law) rfl (by decide) rfl ⟨rfl,by decide,by decide⟩ (fun w h Y=>PySem.W.kIn_of Y) ?F ?S ?C
 case F=>
  intro w mg fa h KX G hmg
  have T:∃t,My.Txt (L2.KOf KX) t:=by
   dsimp only [L2.KOf]                          -- K must stand as «<heap const> w.params» for k_is
   refine' My.txt_mk ?e1 ?e2 ?e3 ..
   (case e1=>PySem.W.k_is)                    -- in the order: a name -> its address -> its object -> its parts
   (case e2=>PySem.W.k_is)
   ..
  obtain ⟨t,T⟩:=T
  have e0:=hmg.symm.trans (PySem.W.mg_of KX G T.law)
  cases e0                                       -- fa is the law's own address
  exact ⟨_,fun s u=>.of_eq rfl,fun base kb nb=>My.law_fn T kb nb⟩     -- if «.of_eq rfl» comes too early: refine' ⟨_,?b,fun base kb nb=>My.law_fn T kb nb⟩; exact fun s u=>.of_eq rfl
 case S=>exact fun w H a ns hl hO hS=>..
 case C=>exact ..
(the tactic k_is has no namespace: write k_is) -/
namespace L2
open PySem PySem.Spec PyProof.Rows
def defArgs (s:Stmt):Arguments:=match s with
 | .FunctionDef _ a _ _ _ _ _ _ _ _=>a
 | _=>{posonlyargs:=[],args:=[],vararg:=none,kwonlyargs:=[],kw_defaults:=[],kwarg:=none,defaults:=[]}
def defBody (s:Stmt):List Stmt:=match s with
 | .FunctionDef _ _ b _ _ _ _ _ _ _=>b
 | _=>[]
def defScope (s:Stmt):Scope:=match s with
 | .FunctionDef _ _ _ _ _ _ sc _ _ _=>sc
 | _=>{kind:=.function,names:=[],isGenerator:=false,isCoroutine:=false}
abbrev E0:XK:=fun _ _ _=>False
section
variable {P:Program} {w:World} {K:PySem.W.Frag} {mg:Str→Option Value} {base:Heap}
end
section
variable {X:Cx}
theorem pv (i:Nat) {x:Str} {pos:Pos} (hN:X.N[i]? = some x:=by rfl) (hv:Vis X.env.scope x:=by first | exact Or.inl rfl | exact Or.inr (Or.inl rfl) | exact Or.inr (Or.inr rfl)) (hd:(x == ("__debug__" : Str))=false:=by decide)
  (hcd:(x == ("__classdict__" : Str))=false:=by decide):PE X (.Name x pos) (tVar i):=pe_var hN hv hd hcd
end
theorem iteF {A B:Prop} (h:B):if false=true then A else B:=by
 rw [if_neg Bool.false_ne_true]
 exact h
theorem iteT {A B:Prop} (h:A):if true=true then A else B:=by
 rw [if_pos rfl]
 exact h
theorem ite2 {c A B:Prop} [Decidable c] (h1:c→A) (h2:¬c→B):if c then A else B:=by
 by_cases h:c
 ·rw [if_pos h]
  exact h1 h
 ·rw [if_neg h]
  exact h2 h
def Same (H H':Hp):Prop:=∀b o,H b=some o→H' b=some o
theorem Same.refl (H:Hp):Same H H:=fun _ _ h=>h
theorem Same.trans {H H1 H2:Hp} (a:Same H H1) (b:Same H1 H2):Same H H2:=fun c o h=>b c o (a c o h)
theorem Inv.turned2 {X:Cx} {pins:List (Addr × Obj)} {σ:St} {H:Hp} {s:Shared} {h':Heap} {t':Nat} {e it:Addr} (I:Inv X pins σ H s)
  (k:∀b o,b≠e→b≠it→s.heap.get? b=some o→h'.get? b=some o) (fe:FpOk X pins H e) (fi:FpOk X pins H it):Inv X pins σ H {s with heap:=h',toks:=t'}:=by
 have nit:∀b u,H b=some u→b≠e∧b≠it:=fun b u q=>⟨(fun z=>by rw [z,fe.1] at q; cases q),(fun z=>by rw [z,fi.1] at q; cases q)⟩
 have out:∀b,b∉[e,it]→b≠e∧b≠it:=fun b hb=>⟨fun z=>hb (by simp [z]),fun z=>hb (by simp [z])⟩
 refine I.step (g':=s.gens) (d':=s.drawn) (ch:=[e,it]) (fun b hb=>?_) (fun b o _ _ hc q _=>k b o (out b hc).1 (out b hc).2 q) (fun b o _ _ hc q _=>⟨o.slots,k b o (out b hc).1 (out b hc).2 q⟩) (fun _ _ _ _ n=>n)
  (fun b o hc q=>⟨o,k b o (out b hc).1 (out b hc).2 q⟩) (fun _ _ q=>q) (fun _ _ _ q=>q) (fun b ps q=>⟨#[],by rw [q]; simp⟩) (fun m hm=>?_) (fun b u q=>?_) I.bare
 ·rcases List.mem_cons.mp hb with z | hb
  ·rw [z]; exact ⟨fe.2.2.2.1,fe.2.1,fe.2.2.2.2.1,fe.2.2.2.2.2⟩
  ·have z:b=it:=by simpa using hb
   rw [z]; exact ⟨fi.2.2.2.1,fi.2.1,fi.2.2.2.2.1,fi.2.2.2.2.2⟩
 ·obtain ⟨o,es,ep,ho,r⟩:=hm
  exact ⟨o,es,ep,k _ o (Ne.symm fe.2.1) (Ne.symm fi.2.1) ho,r⟩
 ·refine (I.hok b u q).stay (fun c v hc r=>?_) (fun _ r=>r) fun _ _ r=>r
  rcases hc with z | z
  ·rw [z] at r ⊢; exact k b v (nit b u q).1 (nit b u q).2 r
  ·exact k c v (nit c _ z).1 (nit c _ z).2 r
def Ite (K:PySem.W.Frag) (a:Addr):It:=
  ⟨fun i H=>∃xs x,SqL K H a xs∧xs[i]? = some x,fun i H x H'=>∃t y,H t=none∧x = .ref t∧(∀xs,SqL K H a xs→xs[i]? = some y)∧H'=upd H t (.tup [.int i,y]),
   fun i H=>∃xs,SqL K H a xs∧xs.length≤i⟩
theorem turn_enum {P:Program} {w:World} {K:PySem.W.Frag} {es:List Expr} {k:Nat} {pos:Pos} (a e it:Addr) (hne:e≠it) :
  Turn P w K (.Tuple es k pos) (Ite K a) [e,it] e (fun i h=>(∃old,IsEnum h e it i old)∧h.IsListIter it a i) where
 mem:=by simp
 obj:=fun i h st b hb=>by
  obtain ⟨⟨old,he⟩,o,e1,c,d⟩:=st
  rcases List.mem_cons.mp hb with z | hb
  ·rw [z]; exact ⟨_,he,fun v z=>by have z':Data.fields _=Data.cell v:=z; cases z'⟩
  ·have z:b=it:=by simpa using hb
   rw [z]; exact ⟨o,e1,fun v z=>by rw [d] at z; cases z⟩
 keep:=fun i h h' st kk=>by
  obtain ⟨⟨old,he⟩,st⟩:=st
  exact ⟨⟨old,kk e (by simp) _ he⟩,st.at fun o q=>kk it (by simp) o q⟩
 item:=by
  intro X hP hw hK hc i pins s σ H E I hf st hg
  subst hP hw hK
  obtain ⟨xs,x,hq,hx⟩:=hg
  obtain ⟨its,rv,p,hz⟩:=I.list hq
  obtain ⟨u,hu,ru⟩:=rv.get hx
  have fe:=hf e (by simp)
  have fi:=hf it (by simp)
  obtain ⟨⟨old,he⟩,hit⟩:=st
  refine wpAny_pyNext_enum_item he hit p.isList (x:=u) (by simpa using hu) hne fun h1 eo it1 tp sz kk=>?_
  refine ⟨_,rfl,wpAny_letOwnedTupleGo_enum (s:={s with heap:=h1,toks:=s.toks + 1}) eo fun h2 e2 sb2=>?_⟩
  have hfr:=I.hok.fresh (Nat.le_refl s.heap.objs.size)
  have I1:Inv X pins σ (upd H s.heap.objs.size (.tup [.int i,x])) {s with heap:=s.heap.push {cls:=.type "tuple",data:=.seq #[.int i s.toks,u]},toks:=s.toks}:=
   I.laid (o:=.tup [.int i,x]) (fun b o q=>Heap.get?_push_of_some _ q) (Nat.le_refl _) ⟨by show 2≤sizeLine; decide,[.int i s.toks,u],.cons ⟨_,rfl⟩ (.cons ru .nil),IsTup.new _ _⟩
  have lt1:e < s.heap.objs.size:=Heap.lt_size he
  have lt2:it < s.heap.objs.size:=by obtain ⟨o,q,_⟩:=id hit; exact Heap.lt_size q
  have up:∀{b:Addr},FpOk X pins H b→b < s.heap.objs.size→FpOk X pins (upd H s.heap.objs.size (.tup [.int i,x])) b:=fun f l=>⟨by rw [upd_ne (Nat.ne_of_lt l)]; exact f.1,f.2⟩
  have I2:=I1.turned2 (h':=h2) (t':=s.toks + 1) (fun b o n1 n2 q=>?_) (up fe lt1) (up fi lt2)
  ·refine ⟨.ref s.heap.objs.size,_,I2,rfl,⟨_,x,hfr,rfl,fun ys hy=>by rw [I.list_inj hy hq]; exact hx,rfl⟩,⟨⟨u,?_⟩,it1.extBut sb2.extBut (Ne.symm hne)⟩,fun b hb=>?_⟩
   ·have e3:((i + 1:Nat):Int)=(i:Int) + 1:=by push_cast; rfl
    rw [e3]; exact e2
   ·rcases List.mem_cons.mp hb with z | hb
    ·rw [z]; exact (up fe lt1).1
    ·have z:b=it:=by simpa using hb
     rw [z]; exact (up fi lt2).1
  ·have q1:(s.heap.push {cls:=.type "tuple",data:=.seq #[.int i s.toks,u]}).get? b=some o:=q
   refine sb2.extBut b o n1 ?_
   by_cases hb:b=s.heap.objs.size
   ·subst hb
    rw [Heap.get?_push_size _ rfl] at q1
    cases q1
    exact tp
   ·refine kk b o n1 n2 ?_
    rw [← q1]
    exact (Heap.get?_push_ne s.heap b _ hb).symm
 done:=by
  intro X hP hw hK hc i pins s σ H E I hf st hg
  subst hP hw hK
  obtain ⟨xs,hq,hx⟩:=hg
  obtain ⟨its,rv,p,hz⟩:=I.list hq
  obtain ⟨⟨old,he⟩,hit⟩:=st
  obtain ⟨f0,f1,f2,f3,f4,f5⟩:=hf it (by simp)
  have hl:=rv.length
  exact wpAny_pyNext_enum_end (I.ok.hd hc) he hit p.isList (by simp; omega) fun h' eb=>⟨rfl,I.turned (t':=s.toks) (fun b o hb q=>eb b o hb q) f0 f1 f3 f4 f5⟩
 self:=fun _ _ _ _ _ st h=>by
  obtain ⟨⟨old,he⟩,_⟩:=st
  exact wpAny_pyIter_enum he h
section
variable {X:Cx} {es:List Expr} {tk:Nat} {tpos:Pos}
def iEnum (K:PySem.W.Frag) (ta:TA):TI:=fun σ H R=>ta σ H fun vs H1=>∃a,vs=[.ref a]∧(∃xs,SqL K H1 a xs)∧R (Ite K a) H1
theorem pi_enum {l:Expr} {ta:TA} {p pos:Pos} (hg:Gl X "enumerate") (hm:X.mg "enumerate" = none) (ha:PA X [l] ta) (hs:starEach [l] X.env=[(false,eval l X.env)]:=by rfl) :
  PI X (.Tuple es tk tpos) (.Call (.Name "enumerate" p) [l] [] pos) (iEnum X.K ta):=by
 intro pins s σ H R I h
 refine Call_ (ld_blt I hg hm PyProof.Rows.boot_enumerate (PyProof.Rows.callWith_type1 (thn (ha pos pins s σ H _ I h) fun us s1 ⟨vs,H1,I1,r1,q1⟩=>?_) hs rfl))
 obtain ⟨a,e,⟨xs,hq⟩,q⟩:=q1
 subst e
 cases r1 with
 | cons r rr=>
  cases rr
  cases r
  obtain ⟨its,rv,pl,hz⟩:=I1.list hq
  refine call_enumerate_list pl.isList fun h' he hit hsz kk=>wpAny_pyIter_enum he ?_
  refine ⟨_,[s1.heap.objs.size + 1,s1.heap.objs.size],_,_,H1,rfl,I1.kept (t':=s1.toks) kk,turn_enum a _ _ (Nat.succ_ne_self _),⟨⟨_,he⟩,hit⟩,fun b hb=>?_,q⟩
  rcases List.mem_cons.mp hb with z | hb
  ·rw [z]; exact I1.fpOk (Nat.le_succ _) (I1.hok.fresh (Nat.le_succ _))
  ·have z:b=s1.heap.objs.size:=by simpa using hb
   rw [z]; exact I1.fpOk (Nat.le_refl _) (I1.hok.fresh (Nat.le_refl _))
end
theorem for_enum {K:PySem.W.Frag} {a:Addr} {xs:List V} {g:TG} {tb:TS} {D:Ends} {σ:St} {H:Hp} (Pv:Nat→St→Hp→Prop) (h0:Pv 0 σ H) (hl:∀i σ H,i≤xs.length→Pv i σ H→SqL K H a xs)
  (hs:∀i x t σ H,xs[i]? = some x→Pv i σ H→H t=none→g (.ref t) σ (upd H t (.tup [.int i,x])) fun σ2 H2=>tb {D with nx:=Pv (i + 1),ct:=Pv (i + 1),bk:=D.nx} σ2 H2) (hd:∀σ H,Pv xs.length σ H→D.nx σ H) :
  ∃W:Nat→Nat→St→Hp→Prop,(∃m,W 0 m σ H)∧∀i m σ H,W i m σ H→
   ((Ite K a).stop i H∧D.nx σ H)∨((Ite K a).go i H∧∃N:St→Hp→Prop,(∀σ' H',N σ' H'→∃m',m' < m∧W (i + 1) m' σ' H')∧∀x H',(Ite K a).yld i H x H'→g x σ H' fun σ2 H2=>tb {D with nx:=N,ct:=N,bk:=D.nx} σ2 H2):=by
 refine ⟨fun i m σ H=>m=xs.length - i∧i≤xs.length∧Pv i σ H,⟨xs.length,by simp,Nat.zero_le _,h0⟩,?_⟩
 rintro i m σ H ⟨rfl,hi,p⟩
 have q:=hl i σ H hi p
 by_cases hlt:i < xs.length
 ·refine .inr ⟨⟨xs,xs[i],q,by simp [hlt]⟩,Pv (i + 1),fun σ' H' p'=>⟨xs.length - (i + 1),by omega,rfl,hlt,p'⟩,fun x H' y=>?_⟩
  obtain ⟨t,y,n,e1,e2,e3⟩:=y
  subst e1 e3
  exact hs i y t σ _ (e2 xs q) p n
 ·have e:i=xs.length:=by omega
  subst e
  exact .inl ⟨⟨xs,q,Nat.le_refl _⟩,hd σ H p⟩
def big:Nat:=2 ^ 4000
theorem big_log {n:Nat} (h:n < big):n.log2 < 4000:=by
 by_cases h0:n=0
 ·rw [h0]; decide +kernel
 ·exact (Nat.log2_lt h0).mpr h
section
variable {X:Cx}
theorem op_fdivB:OpR X (binaryOp .FloorDiv) (rI (fun _ j=>j≠0∧j.natAbs < big) fun i j=>.int (i.fdiv j)):=opI fun _ _ _ _ _ _ _ hc q=>floordiv_int hc.1 q (.inl (PyProof.noPylong_of_log2 (Nat.lt_trans (big_log hc.2) (by decide))))
theorem op_fdivP:OpR X (binaryOp .FloorDiv) (rI (fun _ j=>0 < j∧j.natAbs < big) fun i j=>.int (i / j)):=opI fun i j _ _ _ _ _ hc q=>by
 have h1:(0:Int) < j:=hc.1
 exact floordiv_int (by omega) (by rw [Int.fdiv_eq_ediv_of_nonneg i (by omega)]; exact q) (.inl (PyProof.noPylong_of_log2 (Nat.lt_trans (big_log hc.2) (by decide))))
end
def TbOk (h:Heap) (e:Addr) (vs:Array Value):Prop:=
 vs[1]? = some .none∨∃T oT ts,vs[1]? = some (.ref T)∧T≠e∧h.get? T=some oT∧oT.data = .fields ts∧ts[3]? = some .none
structure Noted (fs:List Addr) (e L:Addr) (oe:Obj) (vs:Array Value) (h h':Heap) (T:Addr) (fl:Value):Prop where
 new:h.get? T=none
 ne:T≠e
 exc:h'.get? e=some (oe.mapFields (·.setIfInBounds 1 (.ref T)))
 tb:∃oT ts,h'.get? T=some oT∧oT.data = .fields ts∧ts[3]? = some fl
 keep:∀b o,b∉fs→b≠e→vs[1]?≠some (.ref b)→h.get? b=some o→h'.get? b=some o
 slot:∀b o,b∈fs→h.get? b=some o→∃sl,h'.get? b=some {o with slots:=sl}
section
variable {M:Model} {A:Around} {E:Value→Shared→Prop} {s:Shared} {env:Env} {outer:List Env} {base:Heap} {L e:Addr} {oe:Obj} {vs:Array Value} {Q:Unit→Shared→Prop}
theorem entry_ok {head:Value} {had:Bool} (hfr:A.frames=some (env :: outer)) (hl:s.heap.FunFrames base (env :: outer)) (hf:env.frame=some L)
  (he:s.heap.get? e=some oe) (hd:oe.data = .fields vs) (hz:1 < vs.size)
  (h:∀h' T,s.heap.get? T=none→T≠e→h'.get? e=some (oe.mapFields (·.setIfInBounds 1 (.ref T)))→(∃oT ts,h'.get? T=some oT∧oT.data = .fields ts∧ts[3]? = some (rawInt L))→
   (∀b o,b∉frs (env :: outer)→b≠e→s.heap.get? b=some o→h'.get? b=some o)→(∀b o,b∈frs (env :: outer)→s.heap.get? b=some o→∃sl,h'.get? b=some {o with slots:=sl})→
   Q () {s with heap:=h'}) :
  wpAny M A (do let f ← frameOf env; let p ← entryPlaceOf L had; let n ← EntryCells.newEntry head f .none (rawInt L) .none p; setField (.ref e) 1 n) Q E s:=by
 have enf:e∉frs (env :: outer):=fun z=>by
  obtain ⟨_,o,ho,hn⟩:=hl.mem z
  rw [he] at ho; cases ho
  exact hn vs hd
 refine wpAny_bind (wpAny_frameOf_fun hfr hl hf fun g1 so=>?_)
 refine wpAny_bind (wpAny_entryPlaceOf fun pl hp=>?_)
 unfold EntryCells.newEntry newFields
 refine wpAny_bind (wpAny_newObj_type ?_ (hp.sizeOk5 _ _ _ _ _))
 have e1:g1.get? e=some oe:=(so.2.1 e enf).trans he
 generalize htb:({cls:=.type "traceback",dict:=none,data:=.fields ([head,.ref L,.none,rawInt L,.none] ++ (if pl.isEmpty then List.replicate 6 Value.none else pl)).toArray}:Obj)=tb
 have dtb:∃ts,tb.data = .fields ts∧ts[3]? = some (rawInt L):=by
  subst htb
  exact ⟨_,rfl,by simp⟩
 have ftb:tb.isFreed=false:=by subst htb; rfl
 have e2:(g1.push tb).get? e=some oe:=Heap.get?_push_of_some _ e1
 have tne:g1.objs.size≠e:=Nat.ne_of_gt (Heap.lt_size e1)
 refine wpAny_setField e2 hd hz ?_
 have d3:=Obj.data_mapFields hd (·.setIfInBounds 1 (Value.ref g1.objs.size))
 have keep:∀b o,b≠e→g1.get? b=some o→((g1.push tb).update e (Obj.mapFields (·.setIfInBounds 1 (Value.ref g1.objs.size)))).get? b=some o:=fun b o hb q=>by
  rw [Heap.get?_update_other _ _ (Ne.symm hb)]
  exact Heap.get?_push_of_some _ q
 refine h _ g1.objs.size (Heap.get?_none_of_le (Nat.le_of_eq so.1.symm)) tne (Heap.get?_update_self _ e2 (Obj.isFreed_of_fields d3)) ?_ (fun b o n1 n2 q=>keep b o n2 ((so.2.1 b n1).trans q)) (fun b o n1 q=>?_)
 ·obtain ⟨ts,q1,q2⟩:=dtb
  refine ⟨tb,ts,?_,q1,q2⟩
  rw [Heap.get?_update_other _ _ (Ne.symm tne)]
  exact Heap.get?_push_size g1 ftb
 ·obtain ⟨sl,q1⟩:=so.2.2 b o q
  exact ⟨sl,keep b _ (fun z=>enf (z ▸ n1)) q1⟩
theorem note_ok (hfr:A.frames=some (env :: outer)) (hl:s.heap.FunFrames base (env :: outer)) (hf:env.frame=some L)
  (he:s.heap.get? e=some oe) (hd:oe.data = .fields vs) (hv:TbOk s.heap e vs) (h:∀h' T,Noted (frs (env :: outer)) e L oe vs s.heap h' T (rawInt L)→Q () {s with heap:=h'}) :
  wpAny M A (noteFrame (.ref e) env) Q E s:=by
 unfold noteFrame
 simp only [hf]
 rcases hv with h1 | ⟨T,oT,ts,h1,ne,hT,dT,h3⟩
 ·refine wpAny_bind (wpAny_field he hd h1 ?_)
  rw [if_neg (by decide)]
  exact entry_ok hfr hl hf he hd (Array.getElem?_eq_some_iff.mp h1).1 fun h' T a b c d k sl=>h h' T ⟨a,b,c,d,fun b o n1 n2 _ q=>k b o n1 n2 q,sl⟩
 ·refine wpAny_bind (wpAny_field he hd h1 ?_)
  rw [if_pos (show (Value.ref T != Value.none)=true from by simp)]
  refine wpAny_bind (wpAny_field hT dT h3 ?_)
  rw [if_neg (show ¬((Value.none == rawInt L)=true) from by simp [rawInt])]
  refine wpAny_bind (wpAny_setField hT dT (Array.getElem?_eq_some_iff.mp h3).1 ?_)
  have oth:∀b,b≠T→(s.heap.update T (Obj.mapFields (·.setIfInBounds 3 Value.none))).get? b=s.heap.get? b:=fun b hb=>Heap.get?_update_other _ _ (Ne.symm hb)
  have nf:∀b o,s.heap.get? b=some o→(∀vs,o.data≠.fields vs)→b≠T:=fun b o q hn z=>by
   rw [z,hT] at q; cases q
   exact hn ts dT
  have hl2:=hl.of_keeps (h':=s.heap.update T (Obj.mapFields (·.setIfInBounds 3 Value.none))) fun b o q hn=>⟨o,(oth b (nf b o q hn)).trans q,rfl⟩
  refine entry_ok (s:={s with heap:=s.heap.update T (Obj.mapFields (·.setIfInBounds 3 Value.none))}) hfr hl2 hf ((oth e (Ne.symm ne)).trans he) hd (Array.getElem?_eq_some_iff.mp h1).1 fun h' T' a b c d k sl=>?_
  have nT:T'≠T:=fun z=>by
   have a':(s.heap.update T (Obj.mapFields (·.setIfInBounds 3 Value.none))).get? T'=none:=a
   rw [z,Heap.get?_update_self _ hT (Obj.isFreed_of_fields (Obj.data_mapFields dT _))] at a'
   cases a'
  refine h h' T' ⟨(oth T' nT).symm.trans a,b,c,d,fun b o n1 n2 n3 q=>k b o n1 n2 ((oth b fun z=>n3 (by rw [z]; exact h1)).trans q),fun b o n1 q=>?_⟩
  refine sl b o n1 ((oth b fun z=>?_).trans q)
  obtain ⟨_,o',ho,hn⟩:=hl.mem n1
  exact nf b o' ho hn z
theorem land_ok {fs:List Addr} {h0:Heap} {T:Addr} {fl:Value} (N:Noted fs e L oe vs h0 s.heap T fl) (hd:oe.data = .fields vs) (hz:1 < vs.size) (hT:T∉fs)
  (h:∀h',Noted fs e L oe vs h0 h' T .none→Q () {s with heap:=h'}):wpAny M A (setFlight (.ref e) none) Q E s:=by
 obtain ⟨oT,ts,q1,q2,q3⟩:=N.tb
 have h3:3 < ts.size:=(Array.getElem?_eq_some_iff.mp q3).1
 refine wpAny_setFlight_none N.exc (Obj.data_mapFields hd _) (by simp [hz]) q1 q2 h3 (h _ ?_)
 have oth:∀b,b≠T→(s.heap.update T (Obj.mapFields (·.setIfInBounds 3 Value.none))).get? b=s.heap.get? b:=fun b hb=>Heap.get?_update_other _ _ (Ne.symm hb)
 have old:∀b o,h0.get? b=some o→b≠T:=fun b o q z=>by rw [z,N.new] at q; cases q
 refine ⟨N.new,N.ne,(oth e (Ne.symm N.ne)).trans N.exc,⟨_,_,Heap.get?_update_self _ q1 (Obj.isFreed_of_fields (Obj.data_mapFields q2 _)),Obj.data_mapFields q2 _,by simp [h3]⟩,
  fun b o n1 n2 n3 q=>(oth b (old b o q)).trans (N.keep b o n1 n2 n3 q),fun b o n1 q=>?_⟩
 obtain ⟨sl,q4⟩:=N.slot b o n1 q
 exact ⟨sl,(oth b (old b o q)).trans q4⟩
theorem leave_ok (hfr:A.frames=some (env :: outer)) (hl:s.heap.FunFrames base (env :: outer)) (hf:env.frame=some L)
  (he:s.heap.get? e=some oe) (hd:oe.data = .fields vs) (hv:TbOk s.heap e vs) (h:∀h' T,Noted (frs (env :: outer)) e L oe vs s.heap h' T .none→Q () {s with heap:=h'}) :
  wpAny M A (leaving env (.ref e)) Q E s:=by
 unfold leaving
 have hz:1 < vs.size:=by
  rcases hv with h1 | ⟨T,oT,ts,h1,_⟩
  ·exact (Array.getElem?_eq_some_iff.mp h1).1
  ·exact (Array.getElem?_eq_some_iff.mp h1).1
 refine wpAny_bind (note_ok hfr hl hf he hd hv fun h1 T N=>?_)
 refine land_ok (s:={s with heap:=h1}) N hd hz (fun z=>?_) fun h' N'=>h h' T N'
 obtain ⟨_,o,ho,_⟩:=hl.mem z
 rw [N.new] at ho; cases ho
end
theorem ObjOk.there {P:Program} {w:World} {H:Hp} {h:Heap} {a:Addr} {o:HO} (x:ObjOk P w H h a o):∃ob,h.get? a=some ob:=by
 cases o with
 | lst xs=>obtain ⟨_,_,_,_,e⟩:=x; exact ⟨_,e⟩
 | tup xs=>obtain ⟨_,_,_,o,e,_⟩:=x; exact ⟨_,e⟩
 | dK kvs=>obtain ⟨_,_,_,_,o,_,_,e,_⟩:=x; exact ⟨_,e⟩
 | dT kvs=>obtain ⟨_,_,_,_,o,_,_,e,_⟩:=x; exact ⟨_,e⟩
 | set S n=>obtain ⟨o,_,_,_,e,_⟩:=x; exact ⟨_,e⟩
 | ins C dx fs=>obtain ⟨_,_,_,e,_⟩:=x; exact ⟨_,e⟩
 | own y=>exact x
 | xd fs=>obtain ⟨_,⟨_,_,_,e,_⟩,_⟩:=x; exact ⟨_,e⟩
 | rng lo hi=>obtain ⟨_,_,_,e⟩:=x; exact ⟨_,e⟩
 | frz ob u=>obtain ⟨e,_⟩:=x; exact ⟨_,e⟩
 | tbl ps=>exact ⟨_,(show h.get? a=some _ from x)⟩
 | met f y=>exact ⟨_,(show h.get? a=some _ from x)⟩
 | ext φ=>obtain ⟨_,e,_⟩:=x; exact e
theorem HOk.none_of {P:Program} {w:World} {H:Hp} {h:Heap} {a:Addr} (x:HOk P w H h) (e:h.get? a=none):H a=none:=by
 cases q:H a with
 | none=>rfl
 | some o=>
  obtain ⟨ob,z⟩:=(x a o q).there
  rw [e] at z; cases z
theorem HOk.keepT {P:Program} {w:World} {H:Hp} {h h':Heap} (x:HOk P w H h) (k:∀b o u,H b=some u→h.get? b=some o→h'.get? b=some o):HOk P w H h':=fun a o e=>
 (x a o e).stay (fun b u hb q=>by
  rcases hb with z | z
  ·rw [z] at q ⊢; exact k a u o e q
  ·exact k b u _ z q) (fun _ q=>q) fun _ _ q=>q
theorem Un.post {fs:List Addr} {H H':Hp} {h h1 h2:Heap} (u:Un fs [] H H' h h1) (k:∀b o p,h.get? b=some p→b∉fs→H' b=none→h1.get? b=some o→h2.get? b=some o)
  (sl:∀b o,b∈fs→h1.get? b=some o→∃sl,h2.get? b=some {o with slots:=sl}) (th:∀b o p,h.get? b=some p→h1.get? b=some o→∃o',h2.get? b=some o'):Un fs [] H H' h h2 where
 keep:=fun b o q n hb hx=>k b o o q hb (u.free b o q n hx) (u.keep b o q n hb hx)
 slot:=fun b o q n hb hx=>by
  obtain ⟨s1,e1⟩:=u.slot b o q n hb hx
  obtain ⟨s2,e2⟩:=sl b _ hb e1
  exact ⟨s2,e2⟩
 free:=u.free
 there:=fun b o q hx=>by
  obtain ⟨o1,e1⟩:=u.there b o q hx
  exact th b o1 o q e1
 tups:=u.tups
 frzs:=u.frzs
 tbls:=u.tbls
theorem Un.less {fs fs':List Addr} {H H':Hp} {h h1:Heap} (u:Un fs' [] H H' h h1) (hs:∀b∈fs,b∈fs') (hn:∀b∈fs',b∉fs→h.get? b=none):Un fs [] H H' h h1 where
 keep:=fun b o q n hb hx=>u.keep b o q n (fun z=>by rw [hn b z hb] at q; cases q) hx
 slot:=fun b o q n hb hx=>u.slot b o q n (hs b hb) hx
 free:=u.free
 there:=u.there
 tups:=u.tups
 frzs:=u.frzs
 tbls:=u.tbls
def dxOf (h:Heap) (e:Addr):Option Addr:=(h.get? e).bind fun o=>o.dict
theorem dxOf_of {h:Heap} {e:Addr} {o:Obj} (q:h.get? e=some o):dxOf h e=o.dict:=by unfold dxOf; rw [q]; rfl
structure Thrown (h0 h:Heap) (e C T:Addr):Prop where
 n0:h0.get? e=none
 t0:h0.get? T=none
 ne:T≠e
 ob:∃oe vs,h.get? e=some oe∧oe.cls = .ref C∧oe.data = .fields vs∧vs[1]? = some (.ref T)
 tb:∃oT ts,h.get? T=some oT∧oT.data = .fields ts∧ts[3]? = some .none
def CXE (P:Program) (w:World):CXT:=fun outer H s E ev s'=>∃e C T H',ev = .ref e∧s'.os=s.os∧AllBare s'.gens∧Un (frs outer) [] H H' s.heap s'.heap∧HOk P w H' s'.heap∧H' e=none∧H' T=none∧
 Thrown s.heap s'.heap e C T∧E (.ref C) (dxOf s'.heap e) H'
theorem passE0 {X:Cx} {P:Program} {w:World}:Passes (CXE P w) X E0:=fun _ _ _ _ _ _ _ h=>by
 obtain ⟨_,_,_,_,_,_,_,_,_,_,_,_,z⟩:=h
 exact z.elim
theorem mapF_cls (o:Obj) (f:Array Value→Array Value):(o.mapFields f).dict=o.dict:=by
 obtain ⟨c,d,dt,sl⟩:=o
 cases dt <;> rfl
section
variable {P:Program} {w:World} {K:PySem.W.Frag} {mg:Str→Option Value} {base:Heap} {N:List Str} {qual:Str} {scope:Scope} {f:Addr} {cd:Value} {A:Around} {outer:List Env} {s:Shared} {H:Hp} {E:XK}
theorem frame_own {X:Cx} {pins:List (Addr × Obj)} {σ:St} {H1:Hp} {s1:Shared} (I:Inv X pins σ H1 s1) (he:X.ex=[]) {H2:Hp} {h2:Heap} (u:Un (frs X.stack) [] H1 H2 s1.heap h2):Un X.fs [] X.H₀ H2 X.s₀.heap h2:=by
 have b0:=I.base
 rw [he] at b0
 have sub:∀b∈X.fs,b∈frs X.stack:=fun b hb=>by
  rcases I.ok.stk with e | ⟨e,hf⟩
  ·rw [e]; exact hb
  ·rw [e]; unfold frs; rw [List.filterMap_cons,hf]; exact List.mem_cons_of_mem _ hb
 refine Un.less ((b0.mono sub fun b z=>z).trans u) sub fun b z nb=>?_
 rcases List.mem_cons.mp (I.stkSub b z) with e | z2
 ·rw [e]; exact Heap.get?_none_of_le I.ok.above
 ·exact absurd z2 nb
theorem throw_out {pins:List (Addr × Obj)} {σ:St} {H1 H2:Hp} {s1 s2:Shared} {e C:Addr} {oe:Obj} {vs:Array Value} (I:Inv (cxOf (CXE P w) P w K mg base N qual scope f cd A outer s H E) pins σ H1 s1)
  (os:s2.os=s1.os) (bare:AllBare s2.gens) (un:Un (frs (cxOf (CXE P w) P w K mg base N qual scope f cd A outer s H E).stack) [] H1 H2 s1.heap s2.heap) (hok:HOk P w H2 s2.heap) (he:H2 e=none) (n0:s1.heap.get? e=none)
  (q1:s2.heap.get? e=some oe) (q2:oe.cls = .ref C) (q4:oe.data = .fields vs) (q5:vs[1]? = some .none) (hE:E (.ref C) oe.dict H2):(cxOf (CXE P w) P w K mg base N qual scope f cd A outer s H E).xe (.ref e) s2:=by
 have I2:=I.call' os un hok bare (fun _ z=>nomatch z)
 refine leave_ok I2.ok.frames I2.stack rfl q1 q4 (.inl q5) fun h' T Nt=>?_
 have ne1:∀b o,s1.heap.get? b=some o→b≠e:=fun b o q z=>by rw [z,n0] at q; cases q
 have ne2:∀b:Addr,vs[1]?≠some (.ref b):=fun b z=>by rw [q5] at z; cases z
 have u:Un (frs (cxOf (CXE P w) P w K mg base N qual scope f cd A outer s H E).stack) [] H1 H2 s1.heap h':=
  un.post (fun b o p q n _ r=>Nt.keep b o n (ne1 b p q) (ne2 b) r) (fun b o n r=>Nt.slot b o n r) (fun b o p q r=>by
   by_cases hb:b∈frs (cxOf (CXE P w) P w K mg base N qual scope f cd A outer s H E).stack
   ·obtain ⟨sl,z⟩:=Nt.slot b o hb r
    exact ⟨_,z⟩
   ·exact ⟨o,Nt.keep b o hb (ne1 b p q) (ne2 b) r⟩)
 have hok2:HOk P w H2 h':=HOk.keepT hok fun b o u q r=>Nt.keep b o (fun z=>by rw [I2.stkFree b z] at q; cases q) (fun z=>by rw [z,he] at q; cases q) (ne2 b) r
 have base0:∀{b:Addr},s1.heap.get? b=none→s.heap.get? b=none:=fun {b} q=>by
  cases z:s.heap.get? b with
  | none=>rfl
  | some o=>
   obtain ⟨o',r⟩:=I.base.there b o z (by intro y; exact absurd (show b∈([]:List Addr) from y) (by simp))
   rw [q] at r; cases r
 have t1:s1.heap.get? T=none:=by
  cases z:s1.heap.get? T with
  | none=>rfl
  | some o=>
   obtain ⟨o',r⟩:=un.there T o z (by simp)
   rw [Nt.new] at r; cases r
 refine ⟨e,C,T,H2,rfl,I2.os,bare,frame_own I rfl u,hok2,he,hok.none_of Nt.new,⟨base0 n0,base0 t1,Nt.ne,⟨_,_,Nt.exc,(Obj.cls_mapFields _ _).trans q2,Obj.data_mapFields q4 _,?_⟩,Nt.tb⟩,?_⟩
 ·have z:=(Array.getElem?_eq_some_iff.mp q5).1
  simp [z]
 ·rw [dxOf_of Nt.exc,mapF_cls]
  exact hE
theorem throw_fn {pins:List (Addr × Obj)} {σ:St} {H1:Hp} {s1:Shared} {h1:Heap} {e C:Addr} {args:List Value} (I:Inv (cxOf (CXE P w) P w K mg base N qual scope f cd A outer s H E) pins σ H1 s1)
  (hx:Heap.MadeExcOf s1.heap h1 e (.ref C) args) (hE:E (.ref C) none H1):(cxOf (CXE P w) P w K mg base N qual scope f cd A outer s H E).xe (.ref e) {s1 with heap:=h1}:=by
 obtain ⟨t,e1,_⟩:=hx.there
 have I1:=I.kept (h':=h1) (t':=s1.toks) hx.keeps
 exact throw_out (s2:={s1 with heap:=h1}) I rfl I.bare (Un.kept (h:=s1.heap) (h':=h1) hx.keeps) I1.hok (I.hok.none_of hx.new) hx.new e1 rfl rfl rfl hE
theorem passes_fn {E':XK} (hE:∀c d H,E' c d H→E c d H):Passes (CXE P w) (cxOf (CXE P w) P w K mg base N qual scope f cd A outer s H E) E':=by
 intro pins σ H1 s1 ev s2 I h
 obtain ⟨e,C,T,H2,rfl,os,bare,un,hok,he,hT,⟨n0,t0,ne,⟨oe,vs,q1,q2,q4,q5⟩,⟨oT,ts,r1,r2,r3⟩⟩,hw⟩:=h
 have I2:=I.call' os un hok bare (fun _ z=>nomatch z)
 refine leave_ok I2.ok.frames I2.stack rfl q1 q4 (.inr ⟨T,oT,ts,q5,ne,r1,r2,r3⟩) fun h' T' Nt=>?_
 have ne1:∀b o,s1.heap.get? b=some o→b≠e:=fun b o q z=>by rw [z,n0] at q; cases q
 have ne2:∀b o,s1.heap.get? b=some o→vs[1]?≠some (.ref b):=fun b o q z=>by rw [q5] at z; cases z; rw [t0] at q; cases q
 have u:Un (frs (cxOf (CXE P w) P w K mg base N qual scope f cd A outer s H E).stack) [] H1 H2 s1.heap h':=
  un.post (fun b o p q n _ r=>Nt.keep b o n (ne1 b p q) (ne2 b p q) r) (fun b o n r=>Nt.slot b o n r) (fun b o p q r=>by
   by_cases hb:b∈frs (cxOf (CXE P w) P w K mg base N qual scope f cd A outer s H E).stack
   ·obtain ⟨sl,z⟩:=Nt.slot b o hb r
    exact ⟨_,z⟩
   ·exact ⟨o,Nt.keep b o hb (ne1 b p q) (ne2 b p q) r⟩)
 have hok2:HOk P w H2 h':=HOk.keepT hok fun b o u q r=>Nt.keep b o (fun z=>by rw [I2.stkFree b z] at q; cases q) (fun z=>by rw [z,he] at q; cases q) (fun z=>by rw [q5] at z; cases z; rw [hT] at q; cases q) r
 have base0:∀{b:Addr},s1.heap.get? b=none→s.heap.get? b=none:=fun {b} q=>by
  cases z:s.heap.get? b with
  | none=>rfl
  | some o=>
   obtain ⟨o',r⟩:=I.base.there b o z (by intro y; exact absurd (show b∈([]:List Addr) from y) (by simp))
   rw [q] at r; cases r
 have t1:s1.heap.get? T'=none:=by
  cases z:s1.heap.get? T' with
  | none=>rfl
  | some o=>
   obtain ⟨o',r⟩:=un.there T' o z (by simp)
   rw [Nt.new] at r; cases r
 refine ⟨e,C,T',H2,rfl,I2.os,bare,frame_own I rfl u,hok2,he,hok.none_of Nt.new,⟨base0 n0,base0 t1,Nt.ne,⟨_,_,Nt.exc,(Obj.cls_mapFields _ _).trans q2,Obj.data_mapFields q4 _,?_⟩,Nt.tb⟩,?_⟩
 ·have z:=(Array.getElem?_eq_some_iff.mp q5).1
  simp [z]
 ·rw [dxOf_of Nt.exc,mapF_cls]
  rw [dxOf_of q1] at hw
  exact hE _ _ _ hw
end
abbrev bmV:List Value:=[.type "ValueError",.type "Exception",.type "BaseException",.type "object"]
abbrev ExcK (K:PySem.W.Frag) (C:Addr):Prop:=PySem.W.excIn K C bmV "ValueError.__new__" = true
theorem exc_obj {K:PySem.W.Frag} {h:Heap} {C:Addr} (X:K.In h) (q:ExcK K C):∃bm N nm qn bs hd sn sub ab col dd k0 k1 k2 k3 k5 mN,
  h.get? C=some (excClassObj nm qn C N bs bm hd sn sub ab col dd k0 k1 k2 k3 k5 "ValueError.__new__")∧h.Ns N mN∧mN "__init__" = none∧OwnTail h bmV bm:=by
 have q:PySem.W.excIn K C bmV "ValueError.__new__" = true:=q
 unfold PySem.W.excIn at q
 split at q
 ·rename_i dd cd sl lk
  split at q
  ·rename_i C1 bm a0 a1 a2 a3 n a5 em es
   simp only [Bool.and_eq_true,beq_iff_eq,Bool.not_eq_true'] at q
   obtain ⟨⟨⟨⟨⟨c1,c2⟩,c3⟩,c4⟩,c5⟩,c6⟩:=q
   subst c1 c2
   have ob:=X _ _ lk
   obtain ⟨l⟩:=sl
   obtain ⟨nm,bs,mro,ns,qn,hd,sn,sub,ab,col,del⟩:=cd
   simp only at em es c3 c5 c6
   subst em es c3
   exact ⟨bm,ns,nm,qn,bs,hd,sn,sub,ab,col,dd,a0,a1,a2,a3,a5,_,ob,.of_isNs (PySem.W.isNs_of_in X c5),PySem.W.nsMap_none_of_in X c5 c6,PySem.W.tail_of_in X c4⟩
  ·cases q
 ·cases q
def tRaise (C:Addr) (E:XK) (t:TA):TS:=fun _ σ H=>t σ H fun vs H1=>vs.length≤sizeLine∧E (.ref C) none H1
theorem ps_raise {X:Cx} {x:Str} {C:Addr} {e0:Expr} {es:List Expr} {t:TA} {E:XK} {np cpos pos:Pos}
  (hth:∀(pins:List (Addr × Obj)) (σ:St) (H:Hp) (s:Shared) (h1:Heap) (e:Addr) (args:List Value),Inv X pins σ H s→Heap.MadeExcOf s.heap h1 e (.ref C) args→E (.ref C) none H→X.xe (.ref e) {s with heap:=h1})
  (hc:X.calm=true) (hg:Gl X x) (hm:X.mg x=some (.ref C)) (q:ExcK X.K C) (ha:PA X (e0 :: es) t) (hd:(x == ("__debug__" : Str))=false:=by decide)
  (he:starEach (e0 :: es) X.env=(false,eval e0 X.env) :: starEach es X.env:=by rfl) (hp:(backTo cpos (starEach es X.env)).any (·.1)=false:=by rfl) :
  PS X (.Raise (some (.Call (.Name x np) (e0 :: es) [] cpos)) none pos) (tRaise C E t):=by
 intro pins s σ H D I h
 obtain ⟨bm,N,nm,qn,bs,hdt,sn,sub,ab,col,dd,k0,k1,k2,k3,k5,mN,hC,hN,hni,T⟩:=exc_obj I.mod.kin q
 refine wpAny_Raise_call_subT (C:=C) (nm:=nm) (q:=qn) (N:=N) (bs:=bs) (bm:=bm) (hdct:=hdt) (sn:=sn) (sub:=sub) (ab:=ab) (col:=col) (dd:=dd) (k0:=k0) (k1:=k1) (k2:=k2) (k3:=k3) (k5:=k5)
  PySem.F.excBase_ValueError (mN:=mN) (T.hasType PySem.F.excBase_ValueError.hasBase) (I.ok.hd hc) (by rw [he]; show (false || (backTo cpos (starEach es X.env)).any (·.1))=false; rw [hp]; rfl) hni (ld_glob I hg hm ⟨rfl,?_⟩ hd)
 have hb:=ha cpos pins s σ H _ I h
 rw [he] at hb ⊢
 exact Calls.evalArgs_plain (thn hb fun us s1 ⟨vs,H1,I1,r1,z1,z2⟩=>⟨rfl,(by show us.length≤sizeLine; rw [← r1.length]; exact z1),I1.bk _ _ hC,hN.keeps I1.bk,T.keeps I1.bk,fun h' e hx=>hth pins σ H1 s1 h' e us I1 hx z2⟩)
section
variable {P:Program} {w:World} {K:PySem.W.Frag} {mg:Str→Option Value} {base:Heap}
end
def CXX (X:Cx) (pins:List (Addr × Obj)) (σ:St) (E:XK) (ev:Value) (s':Shared):Prop:=∃H s,Inv X pins σ H s∧CXE X.prog X.w X.stack H s E ev s'
abbrev TEX:=St→Hp→VK→XK→Prop
def PEX (X:Cx) (e:Expr) (t:TEX):Prop:=
 ∀(pins:List (Addr × Obj)) (s:Shared) (σ:St) (H:Hp) (Q:VK) (E:XK),Inv X pins σ H s→t σ H Q E→wpAny (model X.prog X.w) X.A (eval e X.env) (EP X pins σ Q) (CXX X pins σ E) s
abbrev TSX:=Ends→XK→St→Hp→Prop
def PSX (X:Cx) (st:List Stmt) (t:TSX):Prop:=
 ∀(pins:List (Addr × Obj)) (s:Shared) (σ:St) (H:Hp) (D:Ends) (E:XK),Inv X pins σ H s→t D E σ H→wpAny (model X.prog X.w) X.A (execs st X.env) (SP X pins D) (CXX X pins σ E) s
section
variable {X:Cx} {k:Nat} {f:Addr} {fd:FuncData} {ps:List Str} {sp:Sp} {dvs:List V} {ds:List Value} {x:Str} {p pos:Pos} {e:Expr} {es:List Expr} {t:TA}
def tCallX (sp:Sp) (dvs:List V) (t:TA):TEX:=fun σ H Q E=>t σ H fun vs H1=>sp (vs ++ dvs) H1 Q E
theorem pex_call (F:FnOk X.prog X.w X.K X.mg X.base (CXE X.prog X.w) k f fd ps sp) (hr:Room k X.A) (hg:Gl X x) (hm:X.mg x=some (.ref f)) (hk:PySem.W.keepIn X.K (.ref f)=true) (hb:Binds X.K fd ps ds) (hd:Vals dvs ds)
  (ha:PA X.nox (e :: es) t) (hdb:(x == ("__debug__" : Str))=false:=by decide) (he:starEach (e :: es) X.env=(false,eval e X.env) :: starEach es X.env:=by rfl) (hpl:(backTo pos (starEach es X.env)).any (·.1)=false:=by rfl) :
  PEX X (.Call (.Name x p) (e :: es) [] pos) (tCallX sp dvs t):=by
 intro pins s σ H Q E I h
 refine wpAny_Call_Name_kw (ld_glob I hg hm ?_ hdb)
 refine PySem.W.callWith_K (h₀:=X.base) I.ok.mod.kin hk (wpAny_mono (ha pos pins s σ H _ (I.wish _) h) (fun us s1 ⟨vs,H1,I1,r,q⟩=>⟨I1.unwish.kIn,?_⟩) fun _ _ z=>False.elim z) he hpl
 have I1':=I1.unwish
 have r2:Vals (vs ++ dvs) (us ++ ds):=r.append hd
 have hl:(us ++ ds).length=ps.length:=by rw [← r2.length]; exact F.len _ _ _ _ q
 refine wpAny_call (codeAny_mono (F.run X.A X.stack s1 H1 ⟨us,[]⟩ (us ++ ds) (vs ++ dvs) Q E hr I1'.env0 (hb s1 us I1'.kIn hl) r2 q) fun r s' hq=>?_)
 cases r with
 | error ev=>exact ⟨H1,s1,I1',hq⟩
 | ok fl=>
  cases fl with
  | ret u=>exact I1'.after hq
  | next=>exact False.elim hq
  | brk=>exact False.elim hq
  | cont=>exact False.elim hq
theorem psx_expr {te:TEX} (he:PEX X e te) (hs:swapsWith e none pos.line X.env=pure false:=by rfl):PSX X [.Expr e pos] (fun D E σ H=>te σ H (fun _ H1=>D.nx σ H1) E):=by
 intro pins s σ H D E I h
 exact wpAny_execs_cons (wpAny_Expr_any (wpAny_mono (he pins s σ H _ E I h) (fun u s1 ⟨v,H1,I1,r1,q1⟩=>wpAny_execs_nil ⟨σ,H1,I1,q1⟩) fun _ _ z=>z) I.quiet hs)
end
def excAtD (C e:Addr) (d:Option Addr) (h:Heap):Prop:=∃o,h.get? e=some o∧o.cls = .ref C∧o.dict=d∧PySem.W.notCls o=true
abbrev excAt (C e:Addr) (h:Heap):Prop:=excAtD C e none h
def ExcD (C e:Addr) (d:Option Addr):HO:=.ext (excAtD C e d)
abbrev ExcO (C e:Addr):HO:=ExcD C e none
theorem excO_ok {P:Program} {w:World} {H:Hp} {h:Heap} {C e:Addr} {d:Option Addr} (x:excAtD C e d h):ObjOk P w H h e (ExcD C e d):=by
 obtain ⟨o,q⟩:=id x
 exact ⟨x,⟨o,q.1⟩,fun h1 h2 ⟨o,a,b⟩ k=>⟨o,k o a,b⟩⟩
theorem caught_inv {X:Cx} {pins:List (Addr × Obj)} {σ:St} {H H':Hp} {s s':Shared} {e C T L T':Addr} {oe:Obj} {vs:Array Value} {h3:Heap} {d:Option Addr} (I:Inv X pins σ H s) (os:s'.os=s.os) (bare:AllBare s'.gens)
    (un:Un (frs X.stack) [] H H' s.heap s'.heap) (hok:HOk X.prog X.w H' s'.heap) (he:H' e=none) (hT:H' T=none) (n0:s.heap.get? e=none) (t0:s.heap.get? T=none) (q5:vs[1]? = some (.ref T))
    (c1:oe.cls = .ref C) (c2:oe.dict=d) (c3:oe.data = .fields vs) (Nt:Noted (frs X.stack) e L oe vs s'.heap h3 T' .none):Inv X pins σ (upd H' e (ExcD C e d)) {s' with heap:=h3}:=by
  have I2:=I.call' os un hok bare (fun _ z=>nomatch z)
  have ne1:∀b o,s.heap.get? b=some o→b≠e:=fun b o q z=>by rw [z,n0] at q; cases q
  have ne2:∀b o,s.heap.get? b=some o→vs[1]?≠some (.ref b):=fun b o q z=>by rw [q5] at z; cases z; rw [t0] at q; cases q
  have u:Un (frs X.stack) [] H H' s.heap h3:=
    un.post (fun b o p q n _ r=>Nt.keep b o n (ne1 b p q) (ne2 b p q) r) (fun b o n r=>Nt.slot b o n r) (fun b o p q r=>by
      by_cases hb:b∈frs X.stack
      · obtain ⟨sl,z⟩:=Nt.slot b o hb r
        exact ⟨_,z⟩
      · exact ⟨o,Nt.keep b o hb (ne1 b p q) (ne2 b p q) r⟩)
  have hok2:HOk X.prog X.w H' h3:=HOk.keepT hok fun b o u q r=>Nt.keep b o (fun z=>by rw [I2.stkFree b z] at q; cases q) (fun z=>by rw [z,he] at q; cases q) (fun z=>by rw [q5] at z; cases z; rw [hT] at q; cases q) r
  have ne3:∀b u,H' b=some u→b≠e:=fun b u q z=>by rw [z,he] at q; cases q
  have u2:Un (frs X.stack) [] H (upd H' e (ExcD C e d)) s.heap h3:=
    ⟨u.keep,u.slot,fun b o q n hx=>by rw [upd_ne (ne1 b o q)]; exact u.free b o q n hx,u.there,fun b xs q=>by rw [upd_ne (ne3 b _ (u.tups b xs q))]; exact u.tups b xs q,
     fun b o xs q=>by rw [upd_ne (ne3 b _ (u.frzs b o xs q))]; exact u.frzs b o xs q,fun b p q=>by
      obtain ⟨m,z⟩:=u.tbls b p q
      exact ⟨m,by rw [upd_ne (ne3 b _ z)]; exact z⟩⟩
  have ex:excAtD C e d h3:=⟨_,Nt.exc,(Obj.cls_mapFields _ _).trans c1,(mapF_cls _ _).trans c2,by
    unfold PySem.W.notCls
    rw [Obj.data_mapFields c3]⟩
  have hok3:HOk X.prog X.w (upd H' e (ExcD C e d)) h3:=fun b o q=>by
    by_cases hb:b=e
    · subst hb
      rw [upd_same] at q; cases q
      exact excO_ok ex
    · rw [upd_ne hb] at q
      exact (hok2 b o q).stay (fun _ _ _ r=>r) (fun c r=>by rw [upd_ne (ne3 c _ r)]; exact r) fun c xs r=>by rw [upd_ne (ne3 c _ r)]; exact r
  exact I.call' (s':={s' with heap:=h3}) os u2 hok3 bare (fun _ z=>nomatch z)
structure CatchK (K:PySem.W.Frag) (D:Addr):Prop where
 tup:PySem.W.instIn K (.ref D) (.type "tuple")=some false
 cls:(PySem.W.clsIn K D).isSome=true
 exc:PySem.W.mroIn K D (.type "BaseException")=some true
theorem looks_isType {K:PySem.W.Frag} {M:Model} {h:Heap} {D:Addr} (X:K.In h) (c:(PySem.W.clsIn K D).isSome=true):PySem.W.Looks M h (isType (.ref D)) true:=by
 unfold PySem.W.clsIn at c
 split at c
 ·rename_i a b cd sl lk
  intro A Q E s k q
  unfold isType loadHead
  exact wpAny_bind (wpAny_loadPart (k _ _ (X _ _ lk)) (wpAny_pure q))
 ·cases c
theorem matches_ok {K:PySem.W.Frag} {M:Model} {A:Around} {E:Value→Shared→Prop} {s:Shared} {e C D:Addr} {o:Obj} {Q:Bool→Shared→Prop} (X:K.In s.heap) (c:CatchK K D) (sub:PySem.W.mroIn K C (.ref D)=some true)
  (he:s.heap.get? e=some o) (hc:o.cls = .ref C) (h:Q true s):wpAny M A (excMatches (.ref e) (.ref D)) Q E s:=by
 have l1:=PySem.W.looks_instIn (M:=M) X c.tup
 have l2:=looks_isType (M:=M) X c.cls
 have l3:=PySem.W.looks_mroIn (M:=M) X c.exc
 have l4:=PySem.W.looks_mroIn (M:=M) X sub
 obtain ⟨hh,g,d,t,os⟩:=s
 unfold excMatches
 refine wpAny_bind (l1.at ?_)
 simp only [Bool.false_eq_true,if_false,pure_bind,List.forIn_cons,List.forIn_nil]
 refine wpAny_bind (wpAny_bind (wpAny_bind ?_))
 unfold isExcClass
 refine wpAny_bind (l2.at ?_)
 rw [if_pos rfl]
 refine l3.at ?_
 simp only [Bool.not_true,Bool.false_eq_true,if_false]
 refine wpAny_pure (wpAny_pure ?_)
 refine wpAny_bind (wpAny_typeOf_ref he ?_)
 rw [hc]
 refine wpAny_bind (wpAny_bind (wpAny_bind (l4.at ?_)))
 rw [if_pos rfl]
 exact wpAny_pure (wpAny_pure (wpAny_pure h))
theorem Inv.relocal {X:Cx} {pins:List (Addr × Obj)} {σ σ':St} {H:Hp} {s:Shared} {h':Heap} {m':Str→Option Value} {tk:Nat} (I:Inv X pins σ H s) (hs:Heap.SameBut X.env.locals s.heap h') (hn:h'.Ns X.env.locals m')
  (hl:∀(i:Nat) (x:Str) (v:V),X.N[i]? = some x→σ'[i]? = some (some v)→Vis X.env.scope x→∃u,RelV v u∧Look X.env h' m' x u) (len:σ'.length=σ.length):Inv X pins σ' H {s with heap:=h',toks:=tk}:=by
 have neL:∀b o,X.s₀.heap.get? b=some o→b≠X.env.locals:=fun b o e=>Nat.ne_of_lt (Nat.lt_of_lt_of_le (Heap.lt_size e) I.ok.above)
 refine ⟨I.ok,I.os,I.bare,⟨fun b o e n hb hx=>(hs.2 b (neL b o e)).trans (I.base.keep b o e n hb hx),fun b o e n hb hx=>?_,I.base.free,fun b o e hx=>?_,I.base.tups,I.base.frzs,I.base.tbls⟩,⟨m',hn,hl⟩,fun y c e=>?_,I.free,I.freeC,fun p hp=>?_,?_,len.trans I.len⟩
 ·obtain ⟨sl,z⟩:=I.base.slot b o e n hb hx
  exact ⟨sl,(hs.2 b (neL b o e)).trans z⟩
 ·obtain ⟨o',z⟩:=I.base.there b o e hx
  exact ⟨o',(hs.2 b (neL b o e)).trans z⟩
 ·obtain ⟨w',z⟩:=I.cell y c e
  exact ⟨w',z.sameBut hs (I.cne y c e)⟩
 ·obtain ⟨a,b,c,d,f⟩:=I.pin p hp
  exact ⟨(hs.2 p.1 c).trans a,b,c,d,f⟩
 ·exact HOk.keepT I.hok fun b o u q r=>(hs.2 b fun z=>by rw [z,I.free] at q; cases q).trans r
theorem goes_ok {X:Cx} {M:Model} {A:Around} {E:Value→Shared→Prop} {pins:List (Addr × Obj)} {σ:St} {H:Hp} {s:Shared} {j:Nat} {n:Str} {pos:Pos} {Q:Unit→Shared→Prop} (I:Inv X pins σ H s) (hN:X.N.Nodup) (hj:X.N[j]? = some n)
  (hx:X.env.scope.names.lookup n=some .local) (h:∀s',Inv X pins (σ.set j none) H s'→Q () s'):wpAny M A (do bindName X.env n .none; unbindBehindTheSuite X.env n pos) Q E s:=by
 obtain ⟨m,hn,hl⟩:=I.loc
 refine wpAny_nameGoes_keeps hx hn (by rw [I.ok.kind]; rfl) fun h' v hn' hs=>h _ (I.relocal hs hn' (fun i x w e1 e2 e3=>?_) (by simp))
 have hij:i≠j:=fun z=>by
  subst z
  rw [List.getElem?_set] at e2
  simp at e2
 rw [List.getElem?_set_ne (Ne.symm hij)] at e2
 obtain ⟨u,r,q⟩:=hl i x w e1 e2 e3
 refine ⟨u,r,?_⟩
 rcases q with ⟨k,e⟩ | ⟨k,c,e,z⟩
 ·refine .inl ⟨k,?_⟩
  have:x≠n:=fun e=>hij (nodup_ix hN e1 (e ▸ hj))
  simp [this,e]
 ·exact .inr ⟨k,c,e,z.sameBut hs (I.cne x c e)⟩
abbrev Cx.held (X:Cx) (e:Addr):Cx:={X with A:=X.A.mark (some (.ref e)),calm:=false,xe:=fun _ _=>False}
theorem Inv.held {X:Cx} {pins:List (Addr × Obj)} {σ:St} {H:Hp} {s:Shared} (I:Inv X pins σ H s) (e:Addr):Inv (X.held e) pins σ H s:=
 ⟨⟨I.ok.mod,I.ok.kind,I.ok.glob,I.ok.blt,I.ok.above,I.ok.inj,I.ok.has,I.ok.cab,(fun z=>nomatch z),I.ok.frames,I.ok.stk,I.ok.exf,I.ok.bs,I.ok.bsz,I.ok.noex,I.ok.exfs,I.ok.funs,I.ok.frf⟩,I.os,I.bare,I.base,I.loc,I.cell,I.free,I.freeC,I.pin,I.hok,I.len⟩
theorem Inv.unheld {X:Cx} {pins:List (Addr × Obj)} {σ:St} {H:Hp} {s:Shared} {e:Addr} (ok:X.Ok) (I:Inv (X.held e) pins σ H s):Inv X pins σ H s:=⟨ok,I.os,I.bare,I.base,I.loc,I.cell,I.free,I.freeC,I.pin,I.hok,I.len⟩
def Ends.drop (D:Ends) (j:Nat):Ends:={nx:=fun σ H=>D.nx (σ.set j none) H,rt:=D.rt,bk:=fun σ H=>D.bk (σ.set j none) H,ct:=fun σ H=>D.ct (σ.set j none) H}
def tTryAs (K:PySem.W.Frag) (D:Addr) (j:Nat) (tb:TSX) (th:TS):TS:=fun En σ H=>tb En (fun c d H1=>∃C,c = .ref C∧PySem.W.mroIn K C (.ref D)=some true∧∀e,H1 e=none→th (En.drop j) (σ.set j (some (.ref e))) (upd H1 e (ExcD C e d))) σ H
theorem ps_try_as {X:Cx} {body:List Stmt} {tb:TSX} {th:TS} {d n:Str} {D:Addr} {j:Nat} {b0:Stmt} {suite:List Stmt} {pd hpos pos:Pos} (hb:PSX X body tb) (hN:X.N.Nodup) (hj:X.N[j]? = some n) (hx:X.env.scope.names.lookup n=some .local)
  (hst:X.stack=X.env :: X.outer) (hL:X.env.frame=some X.env.locals) (hg:Gl X d) (hm:X.mg d=some (.ref D)) (c:CatchK X.K D) (hs:∀e,PSs (X.held e) (b0 :: suite) th) (hd:(d == ("__debug__" : Str))=false:=by decide) :
  PS X (.Try body [.ExceptHandler (some (.Name d pd)) (some n) (b0 :: suite) hpos] [] [] pos) (tTryAs X.K D j tb th):=by
 intro pins s σ H En I h
 refine wpAny_Try_except (wpAny_mono (hb pins s σ H _ _ I h) (fun f s1 q=>?_) fun ev s1 q=>?_)
 ·cases f with
  | next=>exact wpAny_execs_nil q
  | brk=>exact q
  | cont=>exact q
  | ret v=>exact q
 ·obtain ⟨H0,s0,I0,e,C,T,H1,rfl,os,bare,un,hok,he,hT,⟨n0,t0,ne,⟨oe,vs,q1,q2,q4,q5⟩,⟨oT,ts,r1,r2,r3⟩⟩,C',hC',sub,hw⟩:=q
  cases hC'
  have q3:oe.dict=dxOf s1.heap e:=(dxOf_of q1).symm
  have I1:=I0.call' os un hok bare (fun _ z=>nomatch z)
  have hz:1 < vs.size:=(Array.getElem?_eq_some_iff.mp q5).1
  have fr:X.A.frames=some (X.env :: X.outer):=by rw [← hst]; exact I.ok.frames
  have st1:s1.heap.FunFrames X.base (X.env :: X.outer):=by rw [← hst]; exact I1.stack
  refine note_ok fr st1 hL q1 q4 (.inr ⟨T,oT,ts,q5,ne,r1,r2,r3⟩) fun h1 T' N1=>?_
  have tf:T'∉frs (X.env :: X.outer):=fun z=>by
   obtain ⟨_,o,ho,_⟩:=st1.mem z
   rw [N1.new] at ho; cases ho
  refine land_ok (s:={s1 with heap:=h1}) N1 q4 hz tf fun h2 N2=>?_
  have N2':Noted (frs X.stack) e X.env.locals oe vs s1.heap h2 T' .none:=by rw [hst]; exact N2
  have I2:=caught_inv I0 os bare un hok he hT n0 t0 q5 q2 q3 q4 N2'
  refine wpAny_handleBy_cons (codeAny_handlers_test (ld_glob (I2.held e) hg hm ?_ hd)) (by intro z; cases z)
  refine matches_ok I2.kIn c sub N2.exc ((Obj.cls_mapFields _ _).trans q2) ?_
  show codeAny _ _ _ _ _
  refine codeAny_handlers_suite_as ?_
  refine land_ok (s:={s1 with heap:=h2}) N2 q4 hz tf fun h3 N3=>?_
  have N3':Noted (frs X.stack) e X.env.locals oe vs s1.heap h3 T' .none:=by rw [hst]; exact N3
  have I3:=caught_inv I0 os bare un hok he hT n0 t0 q5 q2 q3 q4 N3'
  refine store_ok I3 hN hj (.inl hx) (v:=.ref e) rfl (fun s4 I4=>?_) (.inr hx)
  refine wpAny_mono (hs e pins s4 _ _ _ (I4.held e) (hw e he)) (fun f s5 q=>?_) fun _ _ z=>False.elim z
  show wpAny _ _ _ _ _ _
  cases f with
  | next=>
   obtain ⟨σ5,H5,I5,q⟩:=q
   exact goes_ok (I5.unheld I.ok) hN hj hx fun s6 I6=>⟨_,_,I6,q⟩
  | brk=>
   obtain ⟨σ5,H5,I5,q⟩:=q
   exact goes_ok (I5.unheld I.ok) hN hj hx fun s6 I6=>⟨_,_,I6,q⟩
  | cont=>
   obtain ⟨σ5,H5,I5,q⟩:=q
   exact goes_ok (I5.unheld I.ok) hN hj hx fun s6 I6=>⟨_,_,I6,q⟩
  | ret u=>
   obtain ⟨v5,σ5,H5,I5,r5,q⟩:=q
   exact goes_ok (I5.unheld I.ok) hN hj hx fun s6 I6=>⟨_,_,_,I6,r5,q⟩
structure ClsX (K:PySem.W.Frag) (C:Addr):Prop where
 ga:PySem.W.findIn K (.ref C) "__getattribute__" = some (some (.builtin "BaseException.__getattribute__"))
 no:PySem.W.findIn K (.ref C) "__getattr__" = some none
 hd:PySem.W.hasDictIn K C=true
 ha:PySem.W.findIn K (.ref C) "__class__" = some (some (.builtin "object.__class__"))
 hn:PySem.W.specialIn K (.builtin "object.__class__") "__get__" = some (some (.builtin "getset_descriptor.__get__"))
 ht:PySem.W.takesIn K (.builtin "object.__class__")=some true
 hm:PySem.W.mroIn K C (.type "object")=some true
 hb:PySem.W.mroIn K C (.type "BaseException")=some true
section
variable {prog:Program} {w:World} {A:Around} {E:Value→Shared→Prop} {K:PySem.W.Frag} {C e:Addr} {ox:Obj} {od:Option Obj}
theorem ga_class {s:Shared} {tk:Tok} {Q:Fin→Shared→Prop} (c:ClsX K C) (X:K.In s.heap) (I:PySem.W.InstAt s.heap e ox C od) (h:Q (.done (.ret (.ref C))) s) :
  wpAny (model prog w) A (Builtin.«object.__getattribute__» ⟨[.ref e,.str "__class__" tk],[]⟩) Q E s:=by
 have hf:PySem.W.findObj K C od "__class__" = some (.bind (.builtin "getset_descriptor.__get__") (.builtin "object.__class__")):=by
  obtain ⟨cd,q,_⟩:=PySem.W.any_some c.hd
  unfold PySem.W.findObj
  rw [q,Option.bind_some,c.ha,Option.bind_some]
  simp [c.hn,c.ht]
 obtain ⟨hh,gg,d,t,os⟩:=s
 have L0:=I.type (M:=model prog w)
 have L1:=PySem.W.looks_find (M:=model prog w) X I hf
 unfold Builtin.«object.__getattribute__»
 repeat (first | with_reducible refine L0.at ?_ | with_reducible refine L1.at ?_ | wp_step)
 exact PySem.W.class_get (ox:=ox) (od:=od) X I c.hm (wpAny_pure h)
theorem ga_check {M:Model} {s:Shared} {nameV:Value} {Q:Unit→Shared→Prop} (c:ClsX K C) (X:K.In s.heap) (I:PySem.W.InstAt s.heap e ox C od) (h:Q () s) :
  wpAny M A (checkBuiltinCall "BaseException.__getattribute__" ⟨[.ref e,nameV],[]⟩) Q E s:=by
 have hk:builtinKind "BaseException.__getattribute__" = some .slot:=by decide +kernel
 have hs:splitId "BaseException.__getattribute__" = some ("BaseException","__getattribute__"):=by decide +kernel
 have ha:=F.args_bexc_ga (.ref e) nameV
 have LI:PySem.W.Looks M s.heap (isInstance (.ref e) (.type "BaseException")) true:=(I.type (M:=M)).andThen (PySem.W.looks_mroIn X c.hb)
 obtain ⟨hh,gg,d,t,os⟩:=s
 simp only [checkBuiltinCall,hk,hs]
 refine wpAny_bind (LI.at ?_)
 repeat (first | assumption | wp_step)
theorem exc_class {s:Shared} {Q:Option Value→Shared→Prop} (c:ClsX K C) (X:K.In s.heap) (I:PySem.W.InstAt s.heap e ox C od) (h:Q (some (.ref C)) {s with toks:=s.toks + 1}) :
  wpAny (model prog w) A (getAttr? (.ref e) "__class__") Q E s:=by
 obtain ⟨hh,gg,d,t,os⟩:=s
 have L0:=I.type (M:=model prog w)
 have L1:=PySem.W.looks_findIn (M:=model prog w) X c.ga
 have L2:=PySem.W.looks_findIn (M:=model prog w) X c.no
 have f3:=PySem.F.attr_ValueError.ga.bind (.ref e)
 unfold getAttr? getAttrBy? getAttrBy
 refine wpAny_bind (wpAny_mkText (wpAny_bind (wpAny_attempt (wpAny_holding (wpAny_bind (L0.at (wpAny_bind (L1.at ?_))))))))
 have e1:(onTheHeap (Value.ref C) && Value.builtin "BaseException.__getattribute__" == Value.builtin "object.__getattribute__")=false:=by rw [show (Value.builtin "BaseException.__getattribute__" == Value.builtin "object.__getattribute__")=false from by decide +kernel,Bool.and_false]
 dsimp only
 rw [e1]
 simp only [Bool.false_eq_true,if_false]
 unfold getAttrByItsOwn hookBefore
 repeat (first | with_reducible refine L2.at ?_ | assumption | wp_step)
 refine codeAny_call_builtin PySem.F.attr_ValueError.ga.plain F.entry_bexc_ga (ga_check c X I (ga_class c X I ?_))
 show wpAny (model prog w) A (handedOut (.ref C)) _ _ _
 exact PySem.W.handed_on rfl (wpAny_pure h)
end
theorem kitx_exc {K:PySem.W.Frag} {C e:Addr} (c:ClsX K C):PySem.W.KitX K (.ref e) (.ref C) (excAt C e) where
 ty:=fun M h _ ⟨o,h1,h2,_⟩=>h2 ▸ (PySem.W.Looks.ld h1).andThen .now
 it:=fun M h X _=>by
  obtain ⟨cd,q,_⟩:=PySem.W.any_some c.hd
  exact looks_isType X (by rw [q]; rfl)
 ne:=fun h tp dd its n sl X htp=>by
  obtain ⟨cd,q,_⟩:=PySem.W.any_some c.hd
  refine Bool.eq_false_iff.mpr fun z=>?_
  have e:C=tp:=Value.ref.inj (beq_iff_eq.mp z)
  subst e
  unfold PySem.W.clsIn at q
  split at q
  ·rename_i lk
   have z:=(X _ _ lk).symm.trans htp
   cases z
  ·cases q
 ca:=fun {prog w A E Q s} X ⟨o,h1,h2,h3,h4⟩ k=>by
  have I:PySem.W.InstAt s.heap e o C none:=⟨h1,h2,h4,by rw [h3]; exact trivial⟩
  exact exc_class c X I k
theorem kitx_excD {K:PySem.W.Frag} {C e d:Addr} (c:ClsX K C):PySem.W.KitX K (.ref e) (.ref C) (fun h=>excAtD C e (some d) h∧∃od,h.get? d=some od) where
 ty:=fun M h _ ⟨⟨o,h1,h2,_⟩,_⟩=>h2 ▸ (PySem.W.Looks.ld h1).andThen .now
 it:=fun M h X _=>by
  obtain ⟨cd,q,_⟩:=PySem.W.any_some c.hd
  exact looks_isType X (by rw [q]; rfl)
 ne:=fun h tp dd its n sl X htp=>(kitx_exc (e:=e) c).ne h tp dd its n sl X htp
 ca:=fun {prog w A E Q s} X ⟨⟨o,h1,h2,h3,h4⟩,od,hod⟩ k=>by
  have I:PySem.W.InstAt s.heap e o C (some od):=⟨h1,h2,h4,by rw [h3]; exact hod⟩
  exact exc_class c X I k
inductive TyX (K:PySem.W.Frag) (H:Hp):V→Value→Prop where
 | of {x:V} {t:Value} (h:TyOf K H x t):TyX K H x t
 | exc {C e:Addr} (h:H e=some (ExcO C e)) (c:ClsX K C):TyX K H (.ref e) (.ref C)
 | excD {C e d:Addr} {fs:List (Str × V)} (h:H e=some (ExcD C e (some d))) (hd:H d=some (.xd fs)) (c:ClsX K C):TyX K H (.ref e) (.ref C)
def clsV:V→Option Value
 | .ty n=>some (.type n)
 | .ref a=>some (.ref a)
 | _=>none
theorem clsV_rel {c:V} {u cv:Value} (h:clsV c=some cv) (r:RelV c u):u=cv:=by
 cases c with
 | ty n=>cases h; exact r
 | ref a=>cases h; exact r
 | _=>cases h
theorem clsV_all:∀{xs:List V} {us cs:List Value},Vals xs us→xs.map clsV=cs.map some→us=cs
 | _,_,[],.nil,_=>rfl
 | _,_,_ :: _,.nil,h=>by simp at h
 | _,_,[],.cons _ _,h=>by simp at h
 | _,_,c :: cs,.cons r t,h=>by
  simp only [List.map_cons,List.cons.injEq] at h
  rw [clsV_rel h.1 r,clsV_all t h.2]
section
variable {X:Cx}
def rIsi (K:PySem.W.Frag):List V→Hp→VK→Prop:=fun vs H Q=>∃x c t b,vs=[x,c]∧TyX K H x t∧((∃cv,clsV c=some cv∧PySem.W.kitOne K t cv=some b)∨∃p xs cs,c = .ref p∧SqT K H p xs∧xs.map clsV=cs.map some∧PySem.W.kitAny K t cs=some b)∧Q (.bl b) H
theorem kitx_of {pins:List (Addr × Obj)} {σ:St} {H:Hp} {s:Shared} {x:V} {t u:Value} (I:Inv X pins σ H s) (rx:RelV x u) (ty:TyX X.K H x t):∃HH,PySem.W.KitX X.K u t HH∧HH s.heap∧u≠.builtin "__main__.__loader__#opaque":=by
 cases ty with
 | exc h c=>
  cases (show u=_ from rx)
  obtain ⟨p,_⟩:=I.hok _ _ h
  exact ⟨_,kitx_exc c,p,fun z=>nomatch z⟩
 | excD h hd c=>
  cases (show u=_ from rx)
  obtain ⟨p,_⟩:=I.hok _ _ h
  obtain ⟨_,⟨od,_,_,q,_⟩,_⟩:=I.hok _ _ hd
  exact ⟨_,kitx_excD c,⟨p,od,q⟩,fun z=>nomatch z⟩
 | of ty=>
  cases ty with
  | non=>cases (show u=Value.none from rx); exact ⟨_,PySem.W.kitx_none,trivial,fun z=>nomatch z⟩
  | bl y=>cases (show u=Value.bool y from rx); exact ⟨_,PySem.W.kitx_bool,trivial,fun z=>nomatch z⟩
  | int i=>obtain ⟨t,q⟩:=(show ∃t,u=Value.int i t from rx); cases q; exact ⟨_,PySem.W.kitx_int,trivial,fun z=>nomatch z⟩
  | str y=>obtain ⟨t,q⟩:=(show ∃t,u=Value.str y t from rx); cases q; exact ⟨_,PySem.W.kitx_str,trivial,fun z=>nomatch z⟩
  | flt y=>obtain ⟨t,q⟩:=(show ∃t,u=Value.float y t from rx); cases q; exact ⟨_,PySem.W.kitx_float,trivial,fun z=>nomatch z⟩
  | @lst a xs ea=>
   cases (show u=Value.ref a from rx)
   obtain ⟨_,_,n,_,h1⟩:=(show ObjOk X.prog X.w H s.heap a (.lst xs) from I.hok a _ ea)
   exact ⟨_,PySem.W.kitx_list,⟨_,h1,rfl⟩,fun z=>nomatch z⟩
  | @frz a ob xs ea=>
   cases (show u=Value.ref a from rx)
   obtain ⟨_,_,_,n,_,h1⟩:=(show ObjOk X.prog X.w H s.heap a (.frz ob (.lst xs)) from I.hok a _ ea)
   exact ⟨_,PySem.W.kitx_list,⟨_,h1,rfl⟩,fun z=>nomatch z⟩
  | @tup a xs ea=>
   cases (show u=Value.ref a from rx)
   obtain ⟨_,_,_,p⟩:=(show ObjOk X.prog X.w H s.heap a (.tup xs) from I.hok a _ ea)
   obtain ⟨o,h1,h2,_⟩:=p
   exact ⟨_,PySem.W.kitx_tuple,⟨o,h1,h2⟩,fun z=>nomatch z⟩
  | @dK a kvs ea=>
   cases (show u=Value.ref a from rx)
   obtain ⟨_,_,vs,_,p⟩:=(show ObjOk X.prog X.w H s.heap a (.dK kvs) from I.hok a _ ea)
   obtain ⟨o,es,ep,h1,h2,_⟩:=p
   exact ⟨_,PySem.W.kitx_dict,⟨o,h1,h2.1⟩,fun z=>nomatch z⟩
  | @dT a kvs ea=>
   cases (show u=Value.ref a from rx)
   obtain ⟨_,_,xs,_,o,es,ep,h1,h2,_⟩:=(show ObjOk X.prog X.w H s.heap a (.dT kvs) from I.hok a _ ea)
   exact ⟨_,PySem.W.kitx_dict,⟨o,h1,h2.1⟩,fun z=>nomatch z⟩
  | @ins a C dx fs ea cl ha hn htk hm=>
   cases (show u=Value.ref a from rx)
   obtain ⟨mA,O,_⟩:=ins_get I.hok ea
   obtain ⟨od,J,_⟩:=O.look
   exact ⟨_,PySem.W.kitx_own (cl.get _) cl.hd ha hn htk hm,J,fun z=>nomatch z⟩
theorem call_isi:CallR X (.builtin "isinstance") (rIsi X.K):=by
 intro pins s σ H xs us Q I r h
 obtain ⟨x,c,t,b,rfl,ty,hc,q⟩:=h
 obtain ⟨u,v,rfl,rx,rc⟩:=vals2 r
 obtain ⟨HH,Z,p,hx⟩:=kitx_of I rx ty
 rcases hc with ⟨cv,e1,e2⟩ | ⟨a,xs,cs,rfl,hs,e1,e2⟩
 ·rw [clsV_rel e1 rc]
  exact PySem.W.kia_one Z I.kIn p e2 hx fun tk=>⟨.bl b,H,I.tok tk,rfl,q⟩
 ·cases (show v=Value.ref a from rc)
  obtain ⟨its,rv,⟨o,h1,h2,n,h3⟩,_⟩:=I.tuple hs
  have e3:=clsV_all rv e1
  subst e3
  obtain ⟨oc,od,oda,osl⟩:=o
  simp only at h2 h3
  subst h2 h3
  exact PySem.W.kia_tup Z I.kIn p h1 e2 hx fun tk=>⟨.bl b,H,I.tok tk,rfl,q⟩
theorem boot_isi:bootBuiltins "isinstance" = some (.builtin "isinstance"):=by decide +kernel
end
theorem Inv.above {X:Cx} {pins:List (Addr × Obj)} {σ:St} {H:Hp} {s:Shared} (I:Inv X pins σ H s):sysModules < s.heap.objs.size:=by
 have h:mainGlobals < s.heap.objs.size:=(I.mod.glob.keeps I.bk).lt
 exact Nat.lt_trans (by decide) h
def tDict0:TE:=fun _ H Q=>∀p,H p=none→Q (.ref p) (upd H p (.dK []))
theorem pe_dict0 {X:Cx} {pos:Pos}:PE X (.Dict [] [] pos) tDict0:=fun pins s σ H Q I h=>by
 have new:ObjOk X.prog X.w (upd H s.heap.objs.size (.dK [])) (s.heap.push {cls:=.type "dict",data:=.dict #[]}) s.heap.objs.size (.dK []):=
  ⟨Nat.zero_le _,beq_eq_false_iff_ne.mpr (Ne.symm (Nat.ne_of_lt I.above)),[],.nil,Heap.DictOf.new s.heap⟩
 exact wpAny_Dict_empty ⟨.ref s.heap.objs.size,_,I.laid (a:=s.heap.objs.size) (o:=.dK []) (t':=s.toks) (fun _ _ q=>Heap.get?_push_of_some _ q) (Nat.le_refl _) new,rfl,h _ (I.hok.fresh (Nat.le_refl _))⟩
section
variable {X:Cx}
end
def clOf (env:Env):List (Str × NameKind)→List (Str × Addr)→List (Str × Addr)
 | [],cs=>cs
 | (n,k) :: r,cs=>clOf env r (if (k == .free)=true then (n,(env.cells.lookup n).getD 0) :: cs else cs)
theorem clOf_run {env:Env}:∀{names:List (Str × NameKind)} {cs:List (Str × Addr)},(∀y∈names,y.2 = .free→(env.cells.lookup y.1).isSome=true)→
  (forIn names cs fun (x:Str × NameKind) (r:List (Str × Addr))=>if (x.2 == .free)=true then (do let c ← cellOf env x.1; pure (ForInStep.yield ((x.1,c) :: r))) else pure (ForInStep.yield r):Sem (List (Str × Addr)))=pure (clOf env names cs)
 | [],cs,_=>rfl
 | (n,k) :: r,cs,h=>by
  have ih:=fun cs'=>clOf_run (env:=env) (names:=r) (cs:=cs') fun y hy=>h y (List.mem_cons_of_mem _ hy)
  rw [List.forIn_cons]
  by_cases hk:(k == NameKind.free)=true
  ·have hs:=h (n,k) List.mem_cons_self (by simpa using hk)
   obtain ⟨c,hc⟩:=Option.isSome_iff_exists.mp hs
   have e:cellOf env n=pure c:=by unfold cellOf; rw [show env.cells.lookup n=some c from hc]
   simp only [hk,if_true,e,clOf]
   rw [show env.cells.lookup n=some c from hc]
   exact ih _
  ·simp only [hk,clOf]
   exact ih _
theorem closure_eq {scope:Scope} {env:Env} (h:∀y∈scope.names,y.2 = .free→(env.cells.lookup y.1).isSome=true):closureFor scope env=pure (clOf env scope.names []):=by
 have e:=clOf_run (env:=env) (cs:=[]) h
 unfold closureFor
 simp only [e]
 rfl
theorem clOf_sub {env:Env} {x:Str} {c:Addr}:∀{names:List (Str × NameKind)} {cs:List (Str × Addr)},(clOf env names cs).lookup x=some c→cs.lookup x=some c∨((x,NameKind.free)∈names∧(env.cells.lookup x).getD 0=c)
 | [],cs,h=>.inl h
 | (n,k) :: r,cs,h=>by
  unfold clOf at h
  rcases clOf_sub (names:=r) h with z | ⟨z1,z2⟩
  ·by_cases hk:(k == NameKind.free)=true
   ·rw [if_pos hk] at z
    rw [List.lookup_cons] at z
    cases hx:x == n with
    | true=>
     rw [hx] at z
     have e:x=n:=by simpa using hx
     subst e
     have ek:k = .free:=by simpa using hk
     subst ek
     exact .inr ⟨List.mem_cons_self,Option.some.inj z⟩
    | false=>rw [hx] at z; exact .inl z
   ·rw [if_neg hk] at z
    exact .inl z
  ·exact .inr ⟨List.mem_cons_of_mem _ z1,z2⟩
theorem clOf_keep {env:Env} {x:Str}:∀{names:List (Str × NameKind)} {cs:List (Str × Addr)},cs.lookup x=some ((env.cells.lookup x).getD 0)→(clOf env names cs).lookup x=some ((env.cells.lookup x).getD 0)
 | [],cs,h=>h
 | (n,k) :: r,cs,h=>by
  unfold clOf
  refine clOf_keep (names:=r) ?_
  by_cases hk:(k == NameKind.free)=true
  ·rw [if_pos hk,List.lookup_cons]
   cases hx:x == n with
   | true=>
    have e:x=n:=by simpa using hx
    subst e
    rfl
   | false=>exact h
  ·rw [if_neg hk]; exact h
theorem clOf_has {env:Env} {x:Str}:∀{names:List (Str × NameKind)} {cs:List (Str × Addr)},(x,NameKind.free)∈names→(clOf env names cs).lookup x=some ((env.cells.lookup x).getD 0)
 | [],cs,h=>nomatch h
 | (n,k) :: r,cs,h=>by
  unfold clOf
  rcases List.mem_cons.mp h with z | z
  ·cases z
   refine clOf_keep (names:=r) ?_
   rw [if_pos (by rfl),List.lookup_cons]
   simp
  ·exact clOf_has (names:=r) z
theorem mem_of_look {x:Str} {k:NameKind}:∀{names:List (Str × NameKind)},names.lookup x=some k→(x,k)∈names
 | [],h=>nomatch h
 | (n,k') :: r,h=>by
  rw [List.lookup_cons] at h
  cases hx:x == n with
  | true=>
   rw [hx] at h
   have e:x=n:=by simpa using hx
   subst e
   cases h
   exact List.mem_cons_self
  | false=>rw [hx] at h; exact List.mem_cons_of_mem _ (mem_of_look h)
theorem relabel_look {env:Env} {x:Str} {k':NameKind}:∀{names:List (Str × NameKind)},
  (names.map fun (n,k)=>if (k == NameKind.free && env.scope.kind == .function && env.kindOf n == some .cell) then (n,NameKind.cell) else (n,k)).lookup x=some k'→∃k,names.lookup x=some k∧(k'=k∨(k = .free∧k' = .cell))
 | [],h=>nomatch h
 | (n,k) :: r,h=>by
  rw [List.map_cons] at h
  by_cases hc:(k == NameKind.free && env.scope.kind == .function && env.kindOf n == some .cell)=true
  ·simp only [hc,if_true] at h
   rw [List.lookup_cons] at h ⊢
   cases hx:x == n with
   | true=>
    rw [hx] at h
    cases h
    have ek:k = .free:=by
     rw [Bool.and_eq_true,Bool.and_eq_true] at hc
     simpa using hc.1.1
    exact ⟨k,rfl,.inr ⟨ek,rfl⟩⟩
   | false=>rw [hx] at h; exact relabel_look h
  ·simp only [hc,Bool.false_eq_true,if_false] at h
   rw [List.lookup_cons] at h ⊢
   cases hx:x == n with
   | true=>rw [hx] at h; exact ⟨k',h,.inl rfl⟩
   | false=>rw [hx] at h; exact relabel_look h
theorem relabel_free {env:Env} {x:Str}:∀{names:List (Str × NameKind)},names.lookup x=some .free→
  (names.map fun (n,k)=>if (k == NameKind.free && env.scope.kind == .function && env.kindOf n == some .cell) then (n,NameKind.cell) else (n,k)).lookup x=some .cell∨
  (names.map fun (n,k)=>if (k == NameKind.free && env.scope.kind == .function && env.kindOf n == some .cell) then (n,NameKind.cell) else (n,k)).lookup x=some .free
 | [],h=>nomatch h
 | (n,k) :: r,h=>by
  rw [List.map_cons]
  rw [List.lookup_cons] at h
  by_cases hc:(k == NameKind.free && env.scope.kind == .function && env.kindOf n == some .cell)=true
  ·simp only [hc,if_true,List.lookup_cons]
   cases hx:x == n with
   | true=>exact .inl rfl
   | false=>rw [hx] at h; exact relabel_free h
  ·simp only [hc,Bool.false_eq_true,if_false,List.lookup_cons]
   cases hx:x == n with
   | true=>rw [hx] at h; cases h; exact .inr rfl
   | false=>rw [hx] at h; exact relabel_free h
def blk (X:Cx) (scope:Scope) (N:List Str) (s:Shared) (H:Hp) (fp:List Addr):Cx:=
 {X with N:=N,s₀:=s,H₀:=H,env:=compEnvC scope (clOf X.env scope.names []) s.heap.objs.size X.env,outer:=X.stack,stack:=X.stack,ex:=fp,fn:=fun _=>false,pn:=[],xe:=fun _ _=>False}
structure BlkOk (esc scope:Scope) (N:List Str) (fi:List Nat):Prop where
 kind:scope.kind = .function
 nocell:∀y∈scope.names,y.2≠.cell
 loc:∀y∈scope.names,y.2 = .local→scope.names.lookup y.1=some .local
 free:∀y∈scope.names,y.2 = .free→esc.names.lookup y.1=some .cell∨esc.names.lookup y.1=some .free
 ix:∀i∈fi,scope.names.lookup (N.getD i "")=some .free
def nB (N os:List Str) (fi:List Nat):List Str:=os ++ fi.map fun i=>N.getD i ""
def sB (σ:St) (os:List Str) (fi:List Nat):St:=os.map (fun _=>none) ++ fi.map fun i=>(σ[i]?).join
section
variable {X:Cx} {pins:List (Addr × Obj)} {σ:St} {H:Hp} {s:Shared} {scope esc:Scope} {os:List Str} {fi:List Nat} {fp:List Addr}
theorem blk_cells (B:BlkOk esc scope X.N fi) (he:X.env.scope=esc) (I:Inv X pins σ H s):∀y∈scope.names,y.2 = .free→(X.env.cells.lookup y.1).isSome=true:=fun y hy hf=>by
 have k:=B.free y hy hf
 rw [← he] at k
 obtain ⟨c,e⟩:=I.ok.has y.1 k
 rw [e]; rfl
theorem blk_cl (B:BlkOk esc scope X.N fi) (he:X.env.scope=esc) (I:Inv X pins σ H s) {x:Str} {c:Addr} (h:(clOf X.env scope.names []).lookup x=some c):X.env.cells.lookup x=some c:=by
 rcases clOf_sub h with z | ⟨z1,z2⟩
 ·cases z
 ·obtain ⟨d,e⟩:=Option.isSome_iff_exists.mp (blk_cells B he I _ z1 rfl)
  rw [show X.env.cells.lookup x=some d from e] at z2 ⊢
  rw [← z2]; rfl
theorem blk_ok (B:BlkOk esc scope X.N fi) (he:X.env.scope=esc) (I:Inv X pins σ H s) (hf:∀b∈fp,FpOk X pins H b) (ho:∀b∈fp,∃o,s.heap.get? b=some o):(blk X scope (nB X.N os fi) s H fp).Ok where
 mod:=I.ok.mod
 kind:=B.kind
 glob:=I.ok.glob
 blt:=I.ok.blt
 above:=Nat.le_refl _
 inj:=fun x y c h1 h2=>I.ok.inj x y c (blk_cl B he I h1) (blk_cl B he I h2)
 has:=fun x h=>by
  have q:∃k,scope.names.lookup x=some k∧(k = .cell∨k = .free):=by
   rcases h with h | h
   ·obtain ⟨k,e,z | ⟨z,_⟩⟩:=relabel_look h
    ·exact ⟨k,e,.inl z.symm⟩
    ·exact ⟨k,e,.inr z⟩
   ·obtain ⟨k,e,z | ⟨_,z⟩⟩:=relabel_look h
    ·exact ⟨k,e,.inr z.symm⟩
    ·cases z
  obtain ⟨k,e,z | z⟩:=q
  ·subst z; exact absurd rfl (B.nocell _ (mem_of_look e))
  ·subst z; exact ⟨_,clOf_has (mem_of_look e)⟩
 cab:=fun x c h _=>nomatch h
 hd:=I.ok.hd
 frames:=I.ok.frames
 stk:=.inl rfl
 exf:=fun b hb=>by
  obtain ⟨o,e⟩:=ho b hb
  exact ⟨Nat.ne_of_lt (Heap.lt_size e),fun x c h=>(hf b hb).2.2.2.2.1 x c (blk_cl B he I h)⟩
 bs:=I.bs
 bsz:=Nat.le_trans I.ok.bsz I.sz
 noex:=fun b o e hb=>by
  rcases (hf b hb).2.2.2.1 with z | z
  ·exact I.ok.noex b o e z
  ·exact absurd (Nat.lt_of_lt_of_le (Heap.lt_size e) (Nat.le_trans I.ok.bsz z)) (Nat.lt_irrefl _)
 exfs:=fun b hb z=>by
  rcases List.mem_cons.mp (I.stkSub b z) with e | e
  ·exact (hf b hb).2.1 e
  ·exact (hf b hb).2.2.1 e
 funs:=I.stack
 frf:=I.stkFree
theorem blk_inv {h1:Heap} {t1:Nat} {m1:Str→Option Value} (B:BlkOk esc scope X.N fi) (he:X.env.scope=esc) (I:Inv X pins σ H s) (hf:∀b∈fp,FpOk X pins H b) (ho:∀b∈fp,∃o,s.heap.get? b=some o)
  (k:∀b o,s.heap.get? b=some o→h1.get? b=some o) (hn:h1.Ns s.heap.objs.size m1):Inv (blk X scope (nB X.N os fi) s H fp) [] (sB σ os fi) H {s with heap:=h1,toks:=t1} where
 ok:=blk_ok B he I hf ho
 os:=rfl
 bare:=I.bare
 base:=Un.kept k
 loc:=by
  refine ⟨m1,hn,fun j x v e1 e2 e3=>?_⟩
  have hj:os.length≤j:=by
   by_cases hj:j < os.length
   ·have z:(sB σ os fi)[j]? = some (some v):=e2
    unfold sB at z
    rw [List.getElem?_append_left (by simpa using hj),List.getElem?_map] at z
    cases q:os[j]? with
    | none=>rw [q] at z; cases z
    | some _=>rw [q] at z; cases z
   ·omega
  have z1:(nB X.N os fi)[j]? = some x:=e1
  have z2:(sB σ os fi)[j]? = some (some v):=e2
  unfold nB at z1
  unfold sB at z2
  rw [List.getElem?_append_right hj,List.getElem?_map] at z1
  rw [List.getElem?_append_right (by simpa using hj),List.length_map,List.getElem?_map] at z2
  cases q:fi[j - os.length]? with
  | none=>rw [q] at z1; cases z1
  | some i=>
   rw [q] at z1 z2
   have w1:X.N.getD i "" = x:=Option.some.inj z1
   have w2:(σ[i]?).join=some v:=Option.some.inj z2
   have w3:σ[i]? = some (some v):=by
    cases p:σ[i]? with
    | none=>rw [p] at w2; cases w2
    | some y=>rw [p] at w2; exact congrArg some w2
   have lx:scope.names.lookup x=some .free:=by rw [← w1]; exact B.ix i (List.mem_of_getElem? q)
   have li:i < X.N.length:=by rw [← I.len]; exact (List.getElem?_eq_some_iff.mp w3).1
   have w4:X.N[i]? = some x:=by
    rw [List.getD_eq_getElem?_getD,List.getElem?_eq_getElem li] at w1
    rw [List.getElem?_eq_getElem li]
    exact congrArg some w1
   have kx:=B.free _ (mem_of_look lx) rfl
   rw [← he] at kx
   obtain ⟨m,hm,hl⟩:=I.loc
   obtain ⟨u,r,l⟩:=hl i x v w4 w3 (by rcases kx with kx | kx; exact .inr (.inl kx); exact .inr (.inr kx))
   refine ⟨u,r,.inr ⟨relabel_free lx,?_⟩⟩
   rcases l with ⟨a,_⟩ | ⟨_,c,e,ic⟩
   ·rcases kx with kx | kx <;> rw [show X.env.kindOf x=X.env.scope.names.lookup x from rfl,kx] at a <;> cases a
   ·refine ⟨c,?_,?_⟩
    ·have:=clOf_has (env:=X.env) (cs:=[]) (mem_of_look lx)
     rw [e] at this
     exact this
    ·obtain ⟨o,ho,hd⟩:=ic
     exact ⟨o,k _ o ho,hd⟩
 cell:=fun x c h=>by
  obtain ⟨v,o,ho,hd⟩:=I.cell x c (blk_cl B he I h)
  exact ⟨v,o,k _ o ho,hd⟩
 free:=I.hok.fresh (Nat.le_refl _)
 freeC:=fun x c h=>I.freeC x c (blk_cl B he I h)
 pin:=fun p hp=>nomatch hp
 hok:=I.hok.kept k
 len:=by
  show (sB σ os fi).length=(nB X.N os fi).length
  unfold sB nB
  simp
theorem blk_out {N:List Str} {s':Shared} {H':Hp} {σ':St} {pins':List (Addr × Obj)} {h':Heap} (I:Inv X pins σ H s) (hf:∀b∈fp,FpOk X pins H b) (I':Inv (blk X scope N s H fp) pins' σ' H' s') (sb:Heap.SameBut s.heap.objs.size s'.heap h') :
  Inv X pins σ H' {s' with heap:=h'}:=by
 have ne:∀b o,s.heap.get? b=some o→b≠s.heap.objs.size:=fun b o e=>Nat.ne_of_lt (Heap.lt_size e)
 have un:Un (frs X.stack) fp H H' s.heap h':=by
  have u:Un (frs X.stack) fp H H' s.heap s'.heap:=I'.base
  exact ⟨fun b o e n hb hx=>(sb.2 b (ne b o e)).trans (u.keep b o e n hb hx),fun b o e n hb hx=>by
    obtain ⟨sl,q⟩:=u.slot b o e n hb hx
    exact ⟨sl,(sb.2 b (ne b o e)).trans q⟩,u.free,fun b o e hx=>by
    obtain ⟨o',q⟩:=u.there b o e hx
    exact ⟨o',(sb.2 b (ne b o e)).trans q⟩,u.tups,u.frzs,u.tbls⟩
 have hok:HOk X.prog X.w H' h':=fun b ob e=>by
  have fr:H' s.heap.objs.size=none:=I'.free
  refine (I'.hok b ob e).stay (fun c w' hc q=>(sb.2 c ?_).trans q) (fun _ q=>q) fun _ _ q=>q
  rintro rfl
  rcases hc with rfl | hc
  ·rw [fr] at e; cases e
  ·rw [fr] at hc; cases hc
 obtain ⟨hh,g,d,t,os'⟩:=s'
 obtain rfl:os'=s.os:=I'.os
 have J:=I.call (h':=h') (g':=g) (d':=d) (t':=t) (ch:=fp) un hok I'.bare fun b hb=>⟨(hf b hb).2.2.2.1,(hf b hb).2.1,(hf b hb).2.2.2.2.1,(hf b hb).2.2.2.2.2⟩
 exact J
end
abbrev F0:Value→Shared→Prop:=fun _ _=>False
theorem of_F0 {α:Type} {M:Model} {A:Around} {t:Sem α} {Q Q':α→Shared→Prop} {E:Value→Shared→Prop} {s:Shared} (h:wpAny M A t Q F0 s) (hQ:∀a s,Q a s→Q' a s):wpAny M A t Q' E s:=wpAny_mono h hQ fun _ _ z=>z.elim
def PTs (X:Cx) (ifs:List Expr) (t:TT):Prop:=
 ∀(pins:List (Addr × Obj)) (s:Shared) (σ:St) (H:Hp) (Q:Bool→Hp→Prop),Inv X pins σ H s→t σ H Q→
  wpAny (model X.prog X.w) X.A (forIn ifs true fun e b=>if b=true then (do let y ← isTrue e X.env (eval e X.env); pure (ForInStep.yield y)) else pure (ForInStep.yield b)) (TP X pins σ Q) X.xe s
theorem pts_nil {X:Cx}:PTs X [] (fun _ H Q=>Q true H):=fun _ _ _ H _ I h=>wpAny_pure ⟨H,I,h⟩
theorem pts_one {X:Cx} {e:Expr} {t:TT} (h:PT X e t):PTs X [e] t:=by
 intro pins s σ H Q I q
 rw [List.forIn_cons]
 simp only [if_true]
 exact wpAny_bind (wpAny_bind (thn (h pins s σ H Q I q) fun y s1 z=>wpAny_pure (wpAny_pure z)))
section
variable {X:Cx} {tg iter elt:Expr} {ifs:List Expr} {scope esc:Scope} {pos:Pos} {N os:List Str} {fi:List Nat} {wi:TI} {g:TG} {tt:TT} {te:TE}
end
theorem runs_gens {M:Model} {G:PySem.Ctx} {p:Pos} {t:Sem Fin} {fs:List Frame} {a b:Shared} {e:End} (h:Runs M G p t fs a e b):a.gens.size≤b.gens.size:=by
 induction h <;> (try simp only [Shared.setGen,Array.size_setIfInBounds,Array.size_push] at *) <;> omega
theorem wakes_gens {M:Model} {G:PySem.Ctx} {p:Pos} {g:Nat} {r:Resume} {a b:Shared} {x:GenResult} (h:Wakes M G p g r a x b):a.gens.size≤b.gens.size:=by
 have sz:∀(s:Shared) (y:GenState),(s.setGen g y).gens.size=s.gens.size:=fun s y=>by simp [Shared.setGen]
 unfold Wakes at h
 split at h
 ·exact h.elim
 ·split at h
  ·obtain ⟨e,c,q,_,_,rfl⟩:=h
   have:=runs_gens q
   rw [sz] at this ⊢
   exact this
  ·rw [h.2]; first | exact Nat.le_refl _ | (rw [sz]; exact Nat.le_refl _)
  ·rw [h.2]; first | exact Nat.le_refl _ | (rw [sz]; exact Nat.le_refl _)
 ·obtain ⟨e,c,q,_,_,rfl⟩:=h
  have:=runs_gens q
  rw [sz] at this ⊢
  exact this
 ·rw [h.2]; first | exact Nat.le_refl _ | (rw [sz]; exact Nat.le_refl _)
 ·rw [h.2]; first | exact Nat.le_refl _ | (rw [sz]; exact Nat.le_refl _)
theorem wp_gens {α:Type} (M:Model) (G:PySem.Ctx) (k:Nat) (t:Sem α):∀(Q:α→Pos→Shared→Prop) (E:Value→Pos→Shared→Prop) (p:Pos) (a:Shared),k≤a.gens.size→Sem.wp M G t Q E p a→
  Sem.wp M G t (fun x p' b=>k≤b.gens.size∧Q x p' b) (fun e p' b=>k≤b.gens.size∧E e p' b) p a:=by
 induction t with
 | pure _=>intro Q E p a l h; exact ⟨l,h⟩
 | raise _=>intro Q E p a l h; exact ⟨l,h⟩
 | unsupported _=>intro Q E p a _ h; exact h
 | finish _=>intro Q E p a _ h; exact h
 | rule _ _ ih=>intro Q E p a l h; exact ih () Q E p a l h
 | «at» p' _ ih=>intro Q E p a l h; exact ih () Q E p' a l h
 | load _ _ _ ih=>intro Q E p a l h; obtain ⟨o,z,h⟩:=h; exact ⟨o,z,ih o Q E p a l h⟩
 | update _ _ _ _ ih=>intro Q E p a l h; exact ⟨h.1,ih () Q E p _ l h.2⟩
 | loadIfAlive _ _ ih=>intro Q E p a l h; exact ih _ Q E p a l h
 | point _ _ ih=>intro Q E p a l h; exact ih () Q E p a l h
 | register _ _=>intro Q E p a _ h; exact h
 | alloc _ _ ih=>intro Q E p a l h; exact ih _ Q E p _ l h
 | fresh _ ih=>intro Q E p a l h; exact ih _ Q E p _ l h
 | ask _ ih=>intro Q E p a l h; exact ih _ Q E p a l h
 | choose _ _ _ ih=>intro Q E p a l h; exact ⟨h.1,ih _ Q E p _ l h.2⟩
 | os _ _ _ ih=>intro Q E p a l h; exact ih _ Q E p _ l h
 | call _ _ _ _ _ ih=>intro Q E p a l h; obtain ⟨r,b,z,h⟩:=h; exact ⟨r,b,z,ih r Q E p b (Nat.le_trans l (runs_gens z)) h⟩
 | handled _ _ ih=>intro Q E p a l h; exact ih _ Q E p a l h
 | genState _ _ ih=>intro Q E p a l h; obtain ⟨x,z,h⟩:=h; exact ⟨x,z,ih _ Q E p a l h⟩
 | newGen _ _ ih=>intro Q E p a l h; exact ih _ Q E p _ (by simp only [Array.size_push]; omega) h
 | resume _ _ _ _ ih=>intro Q E p a l h; obtain ⟨r,b,z,h⟩:=h; exact ⟨r,b,z,ih r Q E p b (Nat.le_trans l (wakes_gens z)) h⟩
 | yield _ _ _ _=>intro Q E p a _ h; exact h
 | stack _ ih=>intro Q E p a l h; exact ih _ Q E p a l h
 | fork _ _=>intro Q E p a _ h; exact h
 | thread _ ih=>intro Q E p a l h; exact ih _ Q E p a l h
 | await _ _ _ _ _=>intro Q E p a _ h; exact h
theorem any_gens {α:Type} {M:Model} {A:Around} {t:Sem α} {Q:α→Shared→Prop} {E:Value→Shared→Prop} {a:Shared} {k:Nat} (l:k≤a.gens.size) (h:wpAny M A t Q E a) :
  wpAny M A t (fun x b=>k≤b.gens.size∧Q x b) (fun e b=>k≤b.gens.size∧E e b) a:=fun G p hG=>wp_gens M G k t _ _ p a l (h G p hG)
def gA (A:Around) (e:Env):Around:=⟨A.handled,A.depth + 1,A.frames.map (e :: ·),A.guards,A.units + 3⟩
abbrev gE (X:Cx) (scope:Scope) (code:Value) (s:Shared):Env:=genEnv scope (clOf X.env scope.names []) s.heap.objs.size code builtinsNs X.env
def gblk (X:Cx) (scope:Scope) (N:List Str) (code:Value) (s:Shared) (H:Hp) (fp:List Addr):Cx:=
 {X with A:=gA X.A.in1.in1 (gE X scope code s),N:=N,s₀:=s,H₀:=H,env:=gE X scope code s,outer:=X.stack,stack:=gE X scope code s :: X.stack,ex:=fp,fn:=fun _=>false,pn:=[],xe:=fun _ _=>False}
section
variable {X:Cx} {pins:List (Addr × Obj)} {σ:St} {H:Hp} {s:Shared} {scope esc:Scope} {os:List Str} {fi:List Nat} {fp:List Addr} {code:Value}
theorem gblk_ok (B:BlkOk esc scope X.N fi) (he:X.env.scope=esc) (I:Inv X pins σ H s) (hf:∀b∈fp,FpOk X pins H b) (ho:∀b∈fp,∃o,s.heap.get? b=some o):(gblk X scope (nB X.N os fi) code s H fp).Ok where
 mod:=I.ok.mod
 kind:=B.kind
 glob:=I.ok.glob
 blt:=rfl
 above:=Nat.le_refl _
 inj:=fun x y c h1 h2=>I.ok.inj x y c (blk_cl B he I h1) (blk_cl B he I h2)
 has:=fun x h=>by
  rcases h with h | h
  ·exact absurd rfl (B.nocell _ (mem_of_look h))
  ·exact ⟨_,clOf_has (mem_of_look h)⟩
 cab:=fun x c h _=>nomatch h
 hd:=I.ok.hd
 frames:=by
  show (X.A.in1.in1.frames).map (gE X scope code s :: ·)=_
  rw [show X.A.in1.in1.frames=X.A.frames from rfl,I.ok.frames]
  rfl
 stk:=.inr ⟨rfl,rfl⟩
 exf:=fun b hb=>by
  obtain ⟨o,e⟩:=ho b hb
  exact ⟨Nat.ne_of_lt (Heap.lt_size e),fun x c h=>(hf b hb).2.2.2.2.1 x c (blk_cl B he I h)⟩
 bs:=I.bs
 bsz:=Nat.le_trans I.ok.bsz I.sz
 noex:=(blk_ok (os:=os) B he I hf ho).noex
 exfs:=(blk_ok (os:=os) B he I hf ho).exfs
 funs:=I.stack
 frf:=I.stkFree
theorem gblk_inv {h1:Heap} {t1:Nat} {g1:Array GenState} {m1:Str→Option Value} (B:BlkOk esc scope X.N fi) (he:X.env.scope=esc) (I:Inv X pins σ H s) (hf:∀b∈fp,FpOk X pins H b) (ho:∀b∈fp,∃o,s.heap.get? b=some o)
  (k:∀b o,s.heap.get? b=some o→h1.get? b=some o) (hn:h1.Ns s.heap.objs.size m1) (hb:AllBare g1):Inv (gblk X scope (nB X.N os fi) code s H fp) [] (sB σ os fi) H {s with heap:=h1,toks:=t1,gens:=g1} where
 ok:=gblk_ok B he I hf ho
 os:=rfl
 bare:=hb
 base:=Un.kept k
 loc:=by
  obtain ⟨m,hm,hl⟩:=(blk_inv (os:=os) (t1:=t1) B he I hf ho k hn).loc
  refine ⟨m1,hn,fun j x v e1 e2 e3=>?_⟩
  have e3':Vis (relabel scope X.env) x:=by
   rcases e3 with e3 | e3 | e3
   ·exact .inl (lookup_relabel_local e3)
   ·exact absurd rfl (B.nocell _ (mem_of_look e3))
   ·rcases relabel_free (env:=X.env) e3 with z | z
    ·exact .inr (.inl z)
    ·exact .inr (.inr z)
  obtain ⟨u,r,l⟩:=hl j x v e1 e2 e3'
  refine ⟨u,r,?_⟩
  have kx:scope.names.lookup x=some .free:=by
   rcases e3 with e3 | e3 | e3
   ·have hj:os.length≤j:=by
     by_cases hj:j < os.length
     ·have z:(sB σ os fi)[j]? = some (some v):=e2
      unfold sB at z
      rw [List.getElem?_append_left (by simpa using hj),List.getElem?_map] at z
      cases q:os[j]? with
      | none=>rw [q] at z; cases z
      | some _=>rw [q] at z; cases z
     ·omega
    have z1:(nB X.N os fi)[j]? = some x:=e1
    unfold nB at z1
    rw [List.getElem?_append_right hj,List.getElem?_map] at z1
    cases q:fi[j - os.length]? with
    | none=>rw [q] at z1; cases z1
    | some i=>
     rw [q] at z1
     have w1:X.N.getD i "" = x:=Option.some.inj z1
     rw [← w1]
     exact B.ix i (List.mem_of_getElem? q)
   ·exact absurd rfl (B.nocell _ (mem_of_look e3))
   ·exact e3
  rcases l with ⟨a,_⟩ | ⟨_,c,e,ic⟩
  ·have a':(relabel scope X.env).names.lookup x=some .local:=a
   rcases relabel_free (env:=X.env) kx with z | z
   ·have z':(relabel scope X.env).names.lookup x=some .cell:=z
    rw [z'] at a'; cases a'
   ·have z':(relabel scope X.env).names.lookup x=some .free:=z
    rw [z'] at a'; cases a'
  ·exact .inr ⟨.inr kx,c,e,ic⟩
 cell:=(blk_inv (os:=os) (t1:=t1) B he I hf ho k hn).cell
 free:=I.hok.fresh (Nat.le_refl _)
 freeC:=fun x c h=>I.freeC x c (blk_cl B he I h)
 pin:=fun p hp=>nomatch hp
 hok:=I.hok.kept k
 len:=by
  show (sB σ os fi).length=(nB X.N os fi).length
  unfold sB nB
  simp
theorem gblk_out {N:List Str} {s':Shared} {H':Hp} {σ':St} {pins':List (Addr × Obj)} {h':Heap} {g':Array GenState} (I:Inv X pins σ H s) (hf:∀b∈fp,FpOk X pins H b) (I':Inv (gblk X scope N code s H fp) pins' σ' H' s')
  (k:∀b o,s'.heap.get? b=some o→h'.get? b=some o) (hb:AllBare g'):Inv X pins σ H' {s' with heap:=h',gens:=g'}:=by
 have un:Un (frs X.stack) fp H H' s.heap h':=by
  have u:Un (frs X.stack) fp H H' s.heap s'.heap:=I'.base
  exact ⟨fun b o e n hb hx=>k b o (u.keep b o e n hb hx),fun b o e n hb hx=>by
    obtain ⟨sl,q⟩:=u.slot b o e n hb hx
    exact ⟨sl,k b _ q⟩,u.free,fun b o e hx=>by
    obtain ⟨o',q⟩:=u.there b o e hx
    exact ⟨o',k b o' q⟩,u.tups,u.frzs,u.tbls⟩
 have hok:HOk X.prog X.w H' h':=I'.hok.kept k
 obtain ⟨hh,g,d,t,os'⟩:=s'
 obtain rfl:os'=s.os:=I'.os
 have J:=I.call (h':=h') (g':=g') (d':=d) (t':=t) (ch:=fp) un hok hb fun b hb=>⟨(hf b hb).2.2.2.1,(hf b hb).2.1,(hf b hb).2.2.2.2.1,(hf b hb).2.2.2.2.2⟩
 exact J
end
theorem bare_set {a:Array GenState} {g:Nat} {y:GenState} (h:AllBare a) (hy:y.bare=true):AllBare (a.setIfInBounds g y):=fun z hz=>by
 obtain ⟨i,hi,rfl⟩:=Array.mem_iff_getElem.mp hz
 have hi':i < a.size:=by simpa using hi
 rw [Array.getElem_setIfInBounds hi']
 split
 ·exact hy
 ·exact h _ (Array.getElem_mem _)
theorem setGen_size {s:Shared} {g:Nat} {y:GenState}:(s.setGen g y).gens.size=s.gens.size:=by simp [Shared.setGen]
theorem setGen_get {s:Shared} {g:Nat} {y:GenState} (h:g < s.gens.size):(s.setGen g y).gens[g]? = some y:=by simp [Shared.setGen,h]
theorem setGen_two {s:Shared} {g:Nat} {x y:GenState}:(s.setGen g x).setGen g y=s.setGen g y:=by
 simp [Shared.setGen]
theorem Inv.gens {X:Cx} {pins:List (Addr × Obj)} {σ:St} {H:Hp} {s:Shared} {g:Array GenState} (I:Inv X pins σ H s) (h:AllBare g):Inv X pins σ H {s with gens:=g}:=
 ⟨I.ok,I.os,h,I.base,I.loc,I.cell,I.free,I.freeC,I.pin,I.hok,I.len⟩
theorem Inv.setGen {X:Cx} {pins:List (Addr × Obj)} {σ:St} {H:Hp} {s:Shared} {g:Nat} {y:GenState} (I:Inv X pins σ H s) (h:y.bare=true):Inv X pins σ H (s.setGen g y):=I.gens (bare_set I.bare h)
def GLr (J:It) (g:TG) (te:TE) (σb:St) (H:Hp) (Q:VK):Prop:=∃W:Nat→Nat→St→Hp→Prop,(∃m,W 0 m σb H)∧∀i m σ2 H2,W i m σ2 H2→
 (J.stop i H2∧Q (.bl true) H2)∨(J.go i H2∧∀x H3,J.yld i H2 x H3→g x σ2 H3 fun σ4 H4=>te σ4 H4 fun v H5=>∃b,v = .bl b∧if b=true then ∃m',m' < m∧W (i + 1) m' σ4 H5 else Q (.bl false) H5)
def gR (Y:Cx) (ps:List (Addr × Obj)) (Q:VK):Nat→Shared→Shared→Prop:=fun _ _ s=>∃σ H,Inv Y ps σ H s∧Q (.bl true) H
def gY (Y:Cx) (ps:List (Addr × Obj)) (g:Nat) (Q:VK):Protocol:=fun _ _ v s kap=>∃b,v = .bool b∧g < s.gens.size∧∃σ H,Inv Y ps σ H s∧if b=true then kap (.send .none) (s.setGen g .running) else Q (.bl false) H
section
variable {X Y:Cx} {tg iter elt:Expr} {scope:Scope} {pos:Pos} {g:TG} {te:TE} {it:Addr} {fp:List Addr} {tn:Nat→Heap→Prop} {J:It} {Q:VK} {gn:Nat} {ps:List (Addr × Obj)} {W:Nat→Nat→St→Hp→Prop}
theorem seg_gen (hY:Y.A=gA X.A.in1.in1 Y.env) (hx:Y.xe=F0) (hc:Y.calm=true) (hco:Y.env.scope.isCoroutine=false) (hg:PG Y tg g) (hel:PE Y elt te) (T:Turn Y.prog Y.w Y.K tg J fp it tn)
  (stat:∀{H:Hp},(∀b∈fp,H b=none)→∀b∈fp,FpOk Y ps H b)
  (turn:∀i m σ2 H2,W i m σ2 H2→(J.stop i H2∧Q (.bl true) H2)∨(J.go i H2∧∀x H3,J.yld i H2 x H3→g x σ2 H3 fun σ4 H4=>te σ4 H4 fun v H5=>∃b,v = .bl b∧if b=true then ∃m',m' < m∧W (i + 1) m' σ4 H5 else Q (.bl false) H5)) :
  ∀(n m i:Nat) (σ:St) (H:Hp) (s₀ s:Shared),m < n→gn < s.gens.size→Inv Y ps σ H s→tn i s.heap→(∀b∈fp,H b=none)→W i m σ H→
   Seg (model Y.prog Y.w) X.A.in1.in1 (fun n s₀ r s₁=>r = .ok .next∧gR Y ps Q n s₀ s₁) (gY Y ps gn Q) n s₀ (.compLoop (.GeneratorExp elt [⟨tg,iter,[],0⟩] scope pos) 0 (.ref it) .none Y.env)
    ((model Y.prog Y.w).den (.compLoop (.GeneratorExp elt [⟨tg,iter,[],0⟩] scope pos) 0 (.ref it) .none Y.env)) [] s:=by
 have up:∀{α:Type} {t:Sem α} {P P':α→Shared→Prop} {E:Value→Shared→Prop} {s:Shared} {k:Nat},k < s.gens.size→wpAny (model Y.prog Y.w) Y.A t P Y.xe s→(∀a s',k < s'.gens.size→P a s'→P' a s')→
   wpAny (model Y.prog Y.w) (X.A.in1.in1.over (.compLoop (.GeneratorExp elt [⟨tg,iter,[],0⟩] scope pos) 0 (.ref it) .none Y.env) []) t P' E s:=fun {α t P P' E s k} l h f=>by
  rw [hY,hx] at h
  exact wpAny_mono (any_gens (k:=k + 1) l h) (fun a s' z=>f a s' z.1 z.2) fun _ _ z=>z.2.elim
 intro n
 induction n with
 | zero=>intro m i σ H s₀ s lt; omega
 | succ n ih=>
  intro m i σ H s₀ s lt lg I t0 fr w
  show Seg _ _ _ _ _ s₀ _ ((compTurn (.GeneratorExp elt [⟨tg,iter,[],0⟩] scope pos) 0 (.ref it) .none Y.env).onRaise (leaving Y.env)) [] s
  rw [compTurn_gen,Sem.onRaise_eq_wrap]
  refine seg_bind_wrap (wpAny_standAt ?_)
  rcases turn i m σ H w with ⟨stop,q⟩ | ⟨go,step⟩
  ·refine seg_bind_wrap (up lg (T.done Y rfl rfl rfl hc i ps s σ H Y.xe I (stat fr) t0 stop) fun r s1 _ ⟨hr,I1⟩=>?_)
   subst hr
   exact seg_end (.ok .next) ⟨rfl,σ,H,I1,q⟩
  ·refine seg_bind_wrap (up lg (T.item Y rfl rfl rfl hc i ps s σ H Y.xe I (stat fr) t0 go) fun r s1 l1 ⟨u,hr,h1⟩=>?_)
   subst hr
   refine seg_bind_wrap (up l1 h1 fun _ s2 l2 ⟨x,H2,I2,r2,y2,t2,fr2⟩=>?_)
   have I2':=I2.pinned (stat fr2) (T.obj _ _ t2)
   refine seg_bind_wrap (up l2 (hg _ s2 σ H2 x u _ I2' r2 (step x H2 y2)) fun _ s3 l3 ⟨σ3,H3,I3,q3⟩=>?_)
   refine seg_bind_wrap (wpAny_pure ?_)
   simp only [if_true]
   have hy:∀v,yieldOut Y.env v=yieldValue v:=fun v=>by simp only [yieldOut,hco,Bool.false_eq_true,if_false]
   simp only [hy]
   rw [Sem.bind_eq_wrap',Sem.bind_eq_wrap',Sem.wrap_wrap,Sem.wrap_wrap]
   refine seg_wrap (up l3 (hel _ s3 σ3 H3 _ I3 q3) fun y s4 l4 ⟨v,H4,I4,r4,b,hv,q4⟩=>?_)
   subst hv
   obtain rfl:y=Value.bool b:=r4
   refine seg_at (seg_yield rfl rfl rfl ⟨b,rfl,l4,σ3,H4,I4.unpinned,?_⟩)
   cases b with
   | false=>exact q4
   | true=>
    obtain ⟨m',lt',w'⟩:=(show ∃m',m' < m∧W (i + 1) m' σ3 H4 from q4)
    have t4:tn (i + 1) s4.heap:=T.keep _ _ _ t2 fun b hb o e=>(I4.pin (b,o) (List.mem_append_right _ (List.mem_append_right _ (mem_pinsAt hb e)))).1
    have fr4:∀b∈fp,H4 b=none:=fun b hb=>by
     obtain ⟨o,e,d⟩:=T.obj _ _ t2 b hb
     exact (I4.pin (b,o) (List.mem_append_right _ (List.mem_append_right _ (mem_pinsAt hb e)))).2.1
    exact seg_again rfl (ih m' (i + 1) σ3 H4 _ _ (by omega) (by rw [setGen_size]; exact l4) (I4.unpinned.setGen rfl) t4 fr4 w')
theorem seg_gen0 (hY:Y.A=gA X.A.in1.in1 Y.env) (hx:Y.xe=F0) (T:Turn Y.prog Y.w Y.K tg J fp it tn) {n:Nat} {s₀ s:Shared} {R:GenEnd} {P:Protocol} (t0:tn 0 s.heap)
  (h:Seg (model Y.prog Y.w) X.A.in1.in1 R P n s₀ (.compLoop (.GeneratorExp elt [⟨tg,iter,[],0⟩] scope pos) 0 (.ref it) .none Y.env)
    ((model Y.prog Y.w).den (.compLoop (.GeneratorExp elt [⟨tg,iter,[],0⟩] scope pos) 0 (.ref it) .none Y.env)) [] s) :
  Seg (model Y.prog Y.w) X.A.in1.in1 R P n s₀ (.compStart (.GeneratorExp elt [⟨tg,iter,[],0⟩] scope pos) 0 (.ref it) .none Y.env)
    ((model Y.prog Y.w).den (.compStart (.GeneratorExp elt [⟨tg,iter,[],0⟩] scope pos) 0 (.ref it) .none Y.env)) [] s:=by
 show Seg _ _ _ _ _ s₀ _ ((compStart (.GeneratorExp elt [⟨tg,iter,[],0⟩] scope pos) 0 (.ref it) .none Y.env).onRaise (leaving Y.env)) [] s
 unfold compStart
 rw [Sem.onRaise_eq_wrap]
 show Seg _ _ _ _ _ s₀ _ ((ask >>= _).wrap _ _ _ _) [] s
 refine seg_bind_wrap (wpAny_askSetting ?_)
 split
 ·exact seg_again rfl h
 ·refine seg_bind_wrap (wpAny_rule ?_)
  show Seg _ _ _ _ _ s₀ _ ((standAt iter.pos >>= _).wrap _ _ _ _) [] s
  exact seg_bind_wrap (wpAny_standAt (seg_bind_wrap (T.self _ 0 s _ _ t0 (seg_again rfl h))))
theorem all_gen {pins:List (Addr × Obj)} {σ:St} {a:Addr} {oa:Obj} {E:Value→Shared→Prop} {RR:Result→Shared→Prop} (hh:X.A.handled=none) (hroom:X.A.depth < recursionLimit) (hpa:(a,oa)∈ps) (hga:∀h:Heap,h.get? a=some oa→h.IsGen a gn)
  (ht:∀(s:Shared) (h':Heap) (y:GenState) (σ':St) (H':Hp),Inv Y ps σ' H' s→(∀b o,s.heap.get? b=some o→h'.get? b=some o)→y.bare=true→Q (.bl true) H'→RR (.ok (.ret (.bool true))) {s.setGen gn y with heap:=h'})
  (hf:∀(s:Shared) (y:GenState) (σ':St) (H':Hp),Inv Y ps σ' H' s→y.bare=true→Q (.bl false) H'→RR (.ok (.ret (.bool false))) (s.setGen gn y)) :
  ∀(n:Nat) (gs:GenState) (s:Shared),s.heap.IsGen a gn→s.heap.NoLimit→s.gens[gn]? = some gs→
   gs.Goes (model Y.prog Y.w) X.A.in1.in1 (fun n s₀ r s₁=>r = .ok .next∧gR Y ps Q n s₀ s₁) (gY Y ps gn Q) n (.send .none) (s.setGen gn .running)→
   codeAny (model Y.prog Y.w) X.A (.builtin "all.loop" ⟨[.ref a],[]⟩) RR s:=by
 intro n
 induction n with
 | zero=>
  intro gs s hg hl hgs go
  refine codeAny_builtin F.entry_all_loop ?_
  rw [Around.under_plainId F.plain_all_loop _]
  show wpAny _ X.A.in1 (pyNext (.ref a) >>= _) _ _ s
  refine wpAny_bind (wpAny_pyNext_genexpQ (P:=gR Y ps Q) hh hl hroom hg hgs go (fun v s1 gs' hb hv=>?_) (fun s1 hp h' hk=>?_))
  ·obtain ⟨b,rfl,lt,σ',H',I',q⟩:=hv
   refine wpAny_bind (wpAny_holding (wpAny_truthy_bool ?_))
   refine wpAny_bind (wpAny_letGo ?_)
   cases b with
   | true=>exact False.elim q
   | false=>
    simp only [Bool.false_eq_true,if_false]
    exact wpAny_bind (wpAny_rule (wpAny_pure (hf s1 gs' σ' H' I' hb q)))
  ·obtain ⟨σ',H',I',q⟩:=hp
   exact wpAny_bind (wpAny_rule (wpAny_pure (ht s1 h' .finished σ' H' I' hk rfl q)))
 | succ n ih=>
  intro gs s hg hl hgs go
  refine codeAny_builtin F.entry_all_loop ?_
  rw [Around.under_plainId F.plain_all_loop _]
  show wpAny _ X.A.in1 (pyNext (.ref a) >>= _) _ _ s
  refine wpAny_bind (wpAny_pyNext_genexpQ (P:=gR Y ps Q) hh hl hroom hg hgs go (fun v s1 gs' hb hv=>?_) (fun s1 hp h' hk=>?_))
  ·obtain ⟨b,rfl,lt,σ',H',I',q⟩:=hv
   refine wpAny_bind (wpAny_holding (wpAny_truthy_bool ?_))
   refine wpAny_bind (wpAny_letGo ?_)
   cases b with
   | true=>
    simp only [if_true]
    refine wpAny_pure ⟨plainId_quiet F.plain_all_loop _,ih gs' _ (hga _ (I'.pin _ (List.mem_append_right _ hpa)).1) I'.nolimit (setGen_get lt) ?_⟩
    rw [setGen_two]
    exact q
   | false=>
    simp only [Bool.false_eq_true,if_false]
    exact wpAny_bind (wpAny_rule (wpAny_pure (hf s1 gs' σ' H' I' hb q)))
  ·obtain ⟨σ',H',I',q⟩:=hp
   exact wpAny_bind (wpAny_rule (wpAny_pure (ht s1 h' .finished σ' H' I' hk rfl q)))
end
structure CodeK (K:PySem.W.Frag) (c P:Addr):Prop where
 ex:∃(o:Obj) (vs:Array Value) (file:Str) (tf:Tok) (flags:Int) (tk:Tok) (inF:Bool) (text:Int) (tt:Tok),K.lookup c=some o∧o.cls = .type "code"∧o.data = .fields vs∧vs[11]? = some (.ref P)∧vs.getD 18 .none = .str file tf∧
  vs.getD 7 .none = .int flags tk∧vs.getD 9 .none = .bool inF∧vs.getD 10 .none = .int text tt
 ne:c≠P
structure BmK (X:Cx):Prop where
 ex:∃(bm:Addr) (ob:Obj),X.mg "__builtins__" = some (.ref bm)∧bm≠builtinsNs∧X.base.get? bm=some ob∧ob.cls = .type "module"∧ob.dict=some builtinsNs∧ob.data = .plain
theorem upd_self {H:Hp} {p:Addr} {o:HO} (h:H p=some o):upd H p o=H:=by
 funext b
 by_cases e:b=p
 ·subst e; rw [upd_same,h]
 ·rw [upd_ne e]
section
variable {X:Cx} {pins:List (Addr × Obj)} {σ:St} {H:Hp} {s:Shared} {c P:Addr}
theorem tab_step {E:Value→Shared→Prop} {pos:Pos} {qn:Str} {scope:Scope} {ps:Array Value} (I:Inv X pins σ H s) (hc:X.env.code = .ref c) (C:CodeK X.K c P) (hP:H P=some (.tbl ps)) (tr:TriplesOk ps.toList) :
  wpAny (model X.prog X.w) X.A (genexprCode X.env pos qn scope) (fun code s'=>∃ps',TriplesOk ps'.toList∧Inv X pins σ (upd H P (.tbl ps')) s'∧(∀b o,b≠P→s.heap.get? b=some o→s'.heap.get? b=some o)) E s:=by
 obtain ⟨o,vs,file,tf,flags,tk,inF,text,tt,lk,cl,d,h11,h18,h7,h9,h10⟩:=C.ex
 have ho:=I.kIn c o lk
 have hp:s.heap.get? P=some {cls:=.none,data:=.fields ps}:=I.hok P _ hP
 have g11:vs.getD 11 .none = .ref P:=by
  rw [Array.getD_eq_getD_getElem?,h11]; rfl
 have hok:s.heap.IsCode c P ps:=⟨o,vs,file,tf,flags,tk,inF,text,tt,_,ho,d,g11,h18,h7,h9,h10,hp,rfl,tr,C.ne⟩
 have htab:s.heap.TableAt c P ps:=⟨⟨o,vs,ho,cl,d,h11⟩,hp⟩
 cases hnf:codeAmong pos ps.toList with
 | some c'=>exact wpAny_genexprCode_hit hc hok hnf ⟨ps,tr,by rw [upd_self hP]; exact I,fun b o _ e=>e⟩
 | none=>
  refine wpAny_genexprCodeX hc hok htab hnf fun c' h' tk ext _ _ _ _ tab _=>?_
  have tr':TriplesOk (ps ++ #[rawInt pos.line,rawInt pos.col,.ref c']).toList:=by
   rw [Array.toList_append]
   exact TriplesOk_snoc _ _ _ _ tr
  refine ⟨_,tr',?_,fun b o hb e=>ext b o hb e⟩
  have ne:∀b,H b=none→b≠P:=fun b n z=>by rw [z,hP] at n; cases n
  have neT:∀b u,H b=some u→(∀q,u≠.tbl q)→b≠P:=fun b u e n z=>by rw [z,hP] at e; cases e; exact n _ rfl
  refine I.un (t':=tk) ⟨fun b o e n _ _=>ext b o (ne b n) e,fun b o e n _ _=>⟨o.slots,ext b o (ne b n) e⟩,fun b o e n _=>by rw [upd_ne (ne b n)]; exact n,fun b o e _=>?_,fun b xs e=>by rw [upd_ne (neT b _ e fun _ z=>nomatch z)]; exact e,
   fun b o u e=>by rw [upd_ne (neT b _ e fun _ z=>nomatch z)]; exact e,fun b qs e=>?_⟩ fun b u e=>?_
  ·by_cases hb:b=P
   ·subst hb; exact ⟨_,tab.2⟩
   ·exact ⟨o,ext b o hb e⟩
  ·by_cases hb:b=P
   ·subst hb
    rw [hP] at e; cases e
    exact ⟨_,upd_same⟩
   ·exact ⟨#[],by rw [upd_ne hb,e]; simp⟩
  ·by_cases hb:b=P
   ·subst hb
    rw [upd_same] at e; cases e
    exact tab.2
   ·rw [upd_ne hb] at e
    refine (I.hok b u e).stay (fun d v hd q=>ext d v ?_ q) (fun d q=>by rw [upd_ne (neT d _ q fun _ z=>nomatch z)]; exact q) fun d xs q=>by rw [upd_ne (neT d _ q fun _ z=>nomatch z)]; exact q
    rcases hd with z | z
    ·rw [z]; exact hb
    ·exact neT d _ z fun _ y=>nomatch y
end
def tAll (P:Addr) (os:List Str) (fi:List Nat) (wi:TI) (g:TG) (te:TE):TE:=fun σ H Q=>wi σ H fun J H1=>∃ps,H1 P=some (.tbl ps)∧TriplesOk ps.toList∧∀ps',TriplesOk ps'.toList→GLr J g te (sB σ os fi) (upd H1 P (.tbl ps')) Q
theorem Room.gen {k:Nat} {A:Around} {e:Env} (r:Room (k + 1) A):Room k (gA A.in1.in1 e):=
 ⟨r.hd,by have:=r.dp; show A.depth + 1 + 3 * k + 5 < _; omega,by have:=r.un; show A.units + 1 + 1 + 3 + 16 * k + 200 < _; omega⟩
section
variable {X:Cx} {tg iter elt:Expr} {scope esc:Scope} {pos gpos p:Pos} {N os:List Str} {fi:List Nat} {wi:TI} {g:TG} {te:TE} {c P:Addr} {k:Nat}
theorem pe_all (hc:X.calm=true) (hr:Room k X.A) (hgl:Gl X "all") (hm:X.mg "all" = none) (hcd:X.env.code = .ref c) (CK:CodeK X.K c P) (BM:BmK X) (hN:X.N=N) (he:X.env.scope=esc) (B:BlkOk esc scope N fi) (hco:scope.isCoroutine=false) (h0:scope.names.lookup (".0" : Str)=some NameKind.local) (hi:PI X tg iter wi)
  (hg:∀code s H fp,PG (gblk X scope (nB N os fi) code s H fp) tg g) (hel:∀code s H fp,PE (gblk X scope (nB N os fi) code s H fp) elt te)
  (hs:∀x,genFold iter X.env x=pure x:=by intro _; rfl):PE X (.Call (.Name "all" p) [.GeneratorExp elt [⟨tg,iter,[],0⟩] scope gpos] [] pos) (tAll P os fi wi g te):=by
 intro pins s σ H Q I h
 subst hN
 have cells:=blk_cells B he I
 have hroom:X.A.depth < recursionLimit:=by have:=hr.dp; omega
 refine wpAny_Call_Name_kw (ld_blt I hgl hm boot_all ?_)
 refine PyProof.Rows.callWith_builtin1 ?_ rfl rfl
 show wpAny _ _ (spliced ((false,eval (.GeneratorExp elt [⟨tg,iter,[],0⟩] scope gpos) X.env) :: backTo pos (starEach [] X.env))) _ _ s
 refine Calls.spliced_cons (wpAny_GeneratorExp_make hco (closure_eq cells) B.nocell h0 B.kind hroom (thn (hi pins s σ H _ I h) fun v s1 h1=>thn h1 fun itv s2 h2=>?_) hs)
 obtain ⟨it,fp,tn,J,H2,rfl,I2,T,st2,f2,qs,hP,tr,q2⟩:=h2
 refine ⟨I2.nolimit,thn (tab_step I2 hcd CK hP tr) fun code s3 ⟨qs',tr',I3,k3⟩=>?_⟩
 obtain ⟨bm,ob,b1,b2,b3,b4,b5,b6⟩:=BM.ex
 refine wpAny_builtinsFor (by rw [I3.ok.glob]; exact I3.mod.glob.keeps I3.bk) b1 b2 (I3.bk _ _ b3) b4 b5 b6 ?_
 intro h4 hn4 sb4
 refine Calls.spliced_nil ?_
 have q3:=q2 qs' tr'
 have fpP:∀b∈fp,b≠P:=fun b hb z=>by
  have:=(f2 b hb).1
  rw [z,hP] at this; cases this
 have f3:∀b∈fp,FpOk X pins (upd H2 P (.tbl qs')) b:=fun b hb=>⟨by rw [upd_ne (fpP b hb)]; exact (f2 b hb).1,(f2 b hb).2⟩
 have st3:tn 0 s3.heap:=T.keep _ _ _ st2 fun b hb o e=>k3 b o (fpP b hb) e
 generalize upd H2 P (.tbl qs')=H3 at *
 have k4:∀b o,s3.heap.get? b=some o→h4.get? b=some o:=fun b o e=>(sb4.2 b (Nat.ne_of_lt (Heap.lt_size e))).trans (Heap.get?_push_of_some _ e)
 have ho3:∀b∈fp,∃o,s3.heap.get? b=some o:=fun b hb=>by
  obtain ⟨o,e,_⟩:=T.obj _ _ st3 b hb
  exact ⟨o,e⟩
 have sz4:s3.heap.objs.size < h4.objs.size:=hn4.lt
 obtain ⟨oa,hoa⟩:∃oa:Obj,oa = {cls:=.type "generator",data:=.fields #[.int s3.gens.size 0,.str "<genexpr>" (s3.toks + 1),.str (X.env.qual ++ "<genexpr>") (s3.toks + 1 + 1)]}:=⟨_,rfl⟩
 rw [← hoa]
 have ga:(h4.push oa).get? h4.objs.size=some oa:=Heap.get?_push_size _ (by rw [hoa]; rfl)
 have isg:∀h:Heap,h.get? h4.objs.size=some oa→h.IsGen h4.objs.size s3.gens.size:=fun h e=>⟨oa,_,_,e,by rw [hoa],by rw [hoa],by rw [hoa]⟩
 have hn5:(h4.push oa).Ns s3.heap.objs.size (fun y=>if y = ".0" then some (Value.ref it) else none):=hn4.keeps fun b o e=>Heap.get?_push_of_some _ e
 have k5:∀b o,s3.heap.get? b=some o→(h4.push oa).get? b=some o:=fun b o e=>Heap.get?_push_of_some _ (k4 b o e)
 have cde:∃gc:GenState,gc = .fresh (.compStart (.GeneratorExp elt [⟨tg,iter,[],0⟩] scope gpos) 0 (.ref it) .none (gE X scope code s3)):=⟨_,rfl⟩
 obtain ⟨gc,hgc⟩:=cde
 show wpAny _ _ (call (.builtin "all") [.ref h4.objs.size]) _ _ {s3 with gens:=s3.gens.push (.fresh (.compStart (.GeneratorExp elt [⟨tg,iter,[],0⟩] scope gpos) 0 (.ref it) .none (gE X scope code s3))),toks:=s3.toks + 1 + 1 + 1,heap:=h4.push oa}
 rw [← hgc]
 have bare5:AllBare (s3.gens.push gc):=I3.bare.push (by rw [hgc]; rfl)
 obtain ⟨W,⟨m0,w0⟩,turn⟩:=q3
 refine call_function_tree F.kind_all F.plain_all F.entry_all (F.args_all1 _) ?_
 unfold Builtin.«all»
 refine wpAny_bind (m:=oneArg "all" _) (wpAny_pure ?_)
 refine wpAny_bind (wpAny_pyIter_gen (isg _ ga) ?_)
 refine wpAny_pure ⟨plainId_quiet F.plain_all_loop _,?_⟩
 have IY:Inv (gblk X scope (nB X.N os fi) code s3 H3 fp) [(h4.objs.size,oa)] (sB σ os fi) H3 (({s3 with gens:=s3.gens.push gc,toks:=s3.toks + 1 + 1 + 1,heap:=h4.push oa}:Shared).setGen s3.gens.size .running):=by
  have J0:=gblk_inv (os:=os) (code:=code) (t1:=s3.toks + 1 + 1 + 1) B he I3 f3 ho3 k5 hn5 bare5
  refine (J0.pins_of fun p hp=>?_).setGen rfl
  obtain rfl:=List.mem_singleton.mp hp
  refine ⟨ga,I3.hok.fresh (Nat.le_of_lt sz4),Nat.ne_of_gt sz4,fun z=>?_,fun v=>by rw [hoa]; exact fun z=>nomatch z⟩
  have z':h4.objs.size∈frs X.stack:=z
  rcases List.mem_cons.mp (I3.stkSub _ z') with e | e
  ·exact absurd (Nat.lt_trans I3.lt sz4) (by rw [e]; exact Nat.lt_irrefl _)
  ·exact I3.nofs (Nat.le_of_lt sz4) e
 have stat:∀{H':Hp},(∀b∈fp,H' b=none)→∀b∈fp,FpOk (gblk X scope (nB X.N os fi) code s3 H3 fp) [(h4.objs.size,oa)] H' b:=fun hn b hb=>by
  refine ⟨hn b hb,(IY.ok.exf b hb).1,IY.ok.exfs b hb,.inl hb,(IY.ok.exf b hb).2,fun p hp=>?_⟩
  obtain rfl:=List.mem_singleton.mp hp
  obtain ⟨o,e⟩:=ho3 b hb
  exact Nat.ne_of_gt (Nat.lt_trans (Heap.lt_size e) sz4)
 have lg:s3.gens.size < (s3.gens.push gc).size:=by rw [Array.size_push]; omega
 refine all_gen (X:=X) (Y:=gblk X scope (nB X.N os fi) code s3 H3 fp) (Q:=Q) (ps:=[(h4.objs.size,oa)]) (pins:=pins) (σ:=σ) (E:=X.xe) hr.hd hroom (List.mem_singleton.mpr rfl) isg
  (fun s' h' y σ' H' I' kk hb q=>by
   have J:=gblk_out (h':=h') I3 f3 I' kk (bare_set (g:=s3.gens.size) I'.bare hb)
   exact ⟨.bl true,H',J,rfl,q⟩) (fun s' y σ' H' I' hb q=>by
   have J:=gblk_out (h':=s'.heap) I3 f3 I' (fun _ _ e=>e) (bare_set (g:=s3.gens.size) I'.bare hb)
   exact ⟨.bl false,H',J,rfl,q⟩)
  (m0 + 1) gc _ (isg _ ga) (I3.nolimit.keeps k5) (by simp) ?_
 subst hgc
 refine ⟨rfl,seg_gen0 (X:=X) (Y:=gblk X scope (nB X.N os fi) code s3 H3 fp) rfl rfl T (T.keep _ _ _ st3 fun b hb o e=>k5 b o e) ?_⟩
 exact seg_gen (X:=X) (Y:=gblk X scope (nB X.N os fi) code s3 H3 fp) rfl rfl hc hco (hg _ _ _ _) (hel _ _ _ _) T stat turn (m0 + 1) m0 0 _ H3 _ _ (Nat.lt_succ_self _) (by rw [setGen_size]; exact lg) IY (T.keep _ _ _ st3 fun b hb o e=>k5 b o e) (fun b hb=>(f3 b hb).1) w0
end
def BmOf (mg:Str→Option Value) (h:Heap):Prop:=∃(bm:Addr) (ob:Obj),mg "__builtins__" = some (.ref bm)∧bm≠builtinsNs∧h.get? bm=some ob∧ob.cls = .type "module"∧ob.dict=some builtinsNs∧ob.data = .plain
structure OnlyT (Ts:List (Addr × Addr)) (H:Hp):Prop where
 all:∀b,H b=none∨(∃o xs,H b=some (.frz o (.lst xs)))∨(H b=some (.tbl #[])∧∃t∈Ts,t.2=b)
 tab:∀t∈Ts,H t.2=some (.tbl #[])
theorem law_callT {P:Program} {w:World} {K:PySem.W.Frag} {mg mb:Str→Option Value} {CX:CXT} {k:Nat} {fa a:Addr} {fd:FuncData} {x:Str} {sp:Sp} {s:Shared} {vs:List Value} {ns:List Int} {Ts:List (Addr × Addr)}
  (KX:K.In s.heap) (hns:s.heap.Ns mainGlobals mg) (hb:s.heap.Ns builtinsNs mb) (hbb:∀x:Str,x≠"__name__"→mb x=bootBuiltins x) (hlim:s.heap.NoLimit) (hg:s.gens = #[]) (hT:∀t∈Ts,s.heap.TableAt t.1 t.2 #[]) (hKT:∀t∈Ts,K.lookup t.2=none) (hbm:BmOf mg s.heap)
  (ha:s.heap.get? a=some {cls:=.type "list",data:=.seq vs.toArray}) (hi:IntsAre vs ns) (hl:ns.length≤sizeLine) (hr:Room k callerA)
  (F:∀base:Heap,K.In base→base.Ns mainGlobals mg→BmOf mg base→FnOk P w K mg base CX k fa fd [x] sp) (hbind:∀(s:Shared) (u:Value),BindsTo s fd ⟨[u],[]⟩ [(x,u)])
  (hsp:∀H:Hp,OnlyT Ts H→SqL K H a (ns.map V.int)→sp [.ref a] H (fun v _=>v = .bl true) fun _ _ _=>False)
  (hCX:∀H e s',CX [] H s (fun _ _ _=>False) e s'→False) :
  codeAny (model P w) callerA (.call (.ref fa) ⟨[.ref a],[]⟩) (fun r s'=>r = .ok (.ret (.bool true))∧OldK s.heap s'.heap∧s'.os=s.os∧AllBare s'.gens) s:=by
 have rv:=vals_ints hi
 have lenV:=hi.length
 have aP:∀t∈Ts,t.2≠a:=fun t ht z=>by
  have e:=(hT t ht).2
  rw [z,ha] at e
  cases e
 have run:∀H:Hp,OnlyT Ts H→SqL K H a (ns.map V.int)→HOk P w H s.heap→(∀b,H b≠none→b=a∨∃t∈Ts,t.2=b)→(H a≠none→K.lookup a=none)→
   codeAny (model P w) callerA (.call (.ref fa) ⟨[.ref a],[]⟩) (fun r s'=>r = .ok (.ret (.bool true))∧OldK s.heap s'.heap∧s'.os=s.os∧AllBare s'.gens) s:=by
  intro H hO hS hok hA hK
  have lift:∀{b:Addr} {o:Obj},s.heap.get? b=some o→H b=none→(hidT s.heap H).get? b=some o:=fun e n=>hidT_get e n
  have un0:∀{b:Addr} {o:Obj},s.heap.get? b=some o→(∀its n,o.data≠.seq its n)→(∀fs,o.data≠.fields fs)→H b=none:=fun {b o} e d1 d2=>by
   cases q:H b with
   | none=>rfl
   | some u=>
    rcases hA b (by rw [q]; simp) with z | ⟨t,ht,z⟩
    ·subst z; rw [ha] at e; cases e; exact absurd rfl (d1 _ _)
    ·subst z; rw [(hT t ht).2] at e; cases e; exact absurd rfl (d2 _)
  have ns1:∀{b:Addr} {m:Str→Option Value},s.heap.Ns b m→(hidT s.heap H).Ns b m:=fun {b m} ⟨o,es,ep,e,d,r⟩=>⟨o,es,ep,lift e (un0 e (fun _ _ z=>by rw [d] at z; cases z) fun _ z=>by rw [d] at z; cases z),d,r⟩
  have kb:K.In (hidT s.heap H):=fun b o e=>lift (KX b o e) (by
   cases q:H b with
   | none=>rfl
   | some u=>
    rcases hA b (by rw [q]; simp) with z | ⟨t,ht,z⟩
    ·subst z; rw [hK (by rw [q]; simp)] at e; cases e
    ·subst z; rw [hKT t ht] at e; cases e)
  have bmb:BmOf mg (hidT s.heap H):=by
   obtain ⟨bm,ob,b1,b2,b3,b4,b5,b6⟩:=hbm
   exact ⟨bm,ob,b1,b2,lift b3 (un0 b3 (fun _ _ z=>by rw [b6] at z; cases z) fun _ z=>by rw [b6] at z; cases z),b4,b5,b6⟩
  have hM:Mod K mg (hidT s.heap H):=⟨kb,ns1 hns,⟨mb,ns1 hb,hbb⟩,let ⟨mc,h1,h2⟩:=hlim; ⟨mc,ns1 h1,h2⟩⟩
  have e0:Env0 P w K mg (hidT s.heap H) callerA [] s H:=⟨rfl,hM,fun b o e=>of_hidT e,Nat.le_of_eq (hidT_size _ _),trivial,fun b hb=>absurd (show b∈([]:List Addr) from hb) (by simp),hok,.of_eq hg⟩
  refine codeAny_mono ((F _ kb (ns1 hns) bmb).run callerA [] s H ⟨[.ref a],[]⟩ [.ref a] [.ref a] _ _ hr e0 (hbind s (.ref a)) (.cons rfl .nil) (hsp H hO hS)) fun r s' h=>?_
  cases r with
  | error e=>exact (hCX H e s' h).elim
  | ok fl=>
   cases fl with
   | next=>exact False.elim h
   | brk=>exact False.elim h
   | cont=>exact False.elim h
   | ret u=>
    obtain ⟨v,H',os,bare,un,hok',r',q⟩:=h
    have q':v = .bl true:=q
    subst q'
    obtain rfl:u=Value.bool true:=r'
    refine ⟨rfl,⟨fun b o e=>?_,fun b o e=>un.there b o e (by simp)⟩,os,bare⟩
    rcases hO.all b with z | ⟨ob,xs,z⟩ | ⟨z,t,ht,rfl⟩
    ·exact .inl (un.keep b o e z (by intro y; exact absurd (show b∈([]:List Addr) from y) (by simp)) (by simp))
    ·have z2:=un.frzs b ob _ z
     obtain ⟨e1,_⟩:=hok b _ z
     obtain ⟨e2,_⟩:=hok' b _ z2
     rw [e] at e1; cases e1
     exact .inl e2
    ·obtain ⟨more,z2⟩:=un.tbls _ _ z
     have e1:s.heap.get? t.2=some {cls:=.none,data:=.fields #[]}:=hok _ _ z
     have e2:s'.heap.get? t.2=some {cls:=.none,data:=.fields (#[] ++ more)}:=hok' _ _ z2
     rw [e] at e1; cases e1
     exact .inr (.inl ⟨(hT t ht).isCodeTable,rfl,#[],more,rfl,e2⟩)
 have mem:∀b,(∃t∈Ts,t.2=b)∨¬∃t∈Ts,t.2=b:=fun b=>Classical.em _
 have dc:∀b,Decidable (∃t∈Ts,t.2=b):=fun b=>Classical.propDecidable _
 cases hk:K.lookup a with
 | some o=>
  have e:=KX a o hk
  rw [ha] at e
  cases e
  refine run (fun b=>if (∃t∈Ts,t.2=b) then some (.tbl #[]) else none) ⟨fun b=>?_,fun t ht=>if_pos ⟨t,ht,rfl⟩⟩ (.inr ⟨_,vs.toArray,_,hk,rfl,rfl,rfl,by rw [List.size_toArray,lenV]; exact hl,by simpa using rv⟩) (fun b u z=>?_) (fun b z=>?_) fun z=>?_
  ·rcases mem b with y | y
   ·exact .inr (.inr ⟨if_pos y,y⟩)
   ·exact .inl (if_neg y)
  ·rcases mem b with y | y
   ·have z':=(if_pos y).symm.trans z
    cases z'
    obtain ⟨t,ht,rfl⟩:=y
    exact (hT t ht).2
   ·have z':=(if_neg y).symm.trans z
    cases z'
  ·rcases mem b with y | y
   ·exact .inr y
   ·exact absurd (if_neg y) z
  ·refine absurd (if_neg ?_) z
   rintro ⟨t,ht,e⟩
   exact aP t ht e
 | none=>
  refine run (fun b=>if b=a then some (.frz {cls:=.type "list",data:=.seq vs.toArray} (.lst (ns.map V.int))) else if (∃t∈Ts,t.2=b) then some (.tbl #[]) else none) ⟨fun b=>?_,fun t ht=>?_⟩ (.inl (.inr ⟨{cls:=.type "list",data:=.seq vs.toArray},if_pos rfl⟩)) (fun b u z=>?_) (fun b z=>?_) fun _=>hk
  ·by_cases hb:b=a
   ·exact .inr (.inl ⟨_,_,if_pos hb⟩)
   ·rcases mem b with y | y
    ·exact .inr (.inr ⟨(if_neg hb).trans (if_pos y),y⟩)
    ·exact .inl ((if_neg hb).trans (if_neg y))
  ·exact (if_neg (aP t ht)).trans (if_pos ⟨t,ht,rfl⟩)
  ·by_cases hb:b=a
   ·have z':=(if_pos hb).symm.trans z
    cases z'
    subst hb
    exact ⟨ha,by rw [List.length_map]; exact hl,vs,_,rv,ha⟩
   ·rcases mem b with y | y
    ·have z':=((if_neg hb).trans (if_pos y)).symm.trans z
     cases z'
     obtain ⟨t,ht,rfl⟩:=y
     exact (hT t ht).2
    ·have z':=((if_neg hb).trans (if_neg y)).symm.trans z
     cases z'
  ·by_cases hb:b=a
   ·exact .inl hb
   ·rcases mem b with y | y
    ·exact .inr y
    ·exact absurd ((if_neg hb).trans (if_neg y)) z
theorem walk_ofT {l:PySem.W.OpenLaw} {n k:Nat} {q:Program} {loose:List Str} {XP:(Str→Option Value)→Heap→Prop} {YP:World→Heap→Prop} {d:DefRec} {K:Params→PySem.W.Frag} {CX:World→CXT} {sp:World→Sp} {x:Str} {Ts:World→List (Addr × Addr)}
  (hn:l.most=some n) (hn2:n≤sizeLine) (hdf:d.params.defaults=[]) (hr:Room k callerA)
  (hY:∀(w:World) (h:Heap),YP w h→(K w.params).In h)
  (hT:∀(w:World) (h:Heap) (lo:List Str) (mean:ExcName→Option Value) (mg mb:Str→Option Value),(K w.params).In h→Top q lo mean mg mb h→∀t∈Ts w,h.TableAt t.1 t.2 #[]) (hKT:∀(w:World),∀t∈Ts w,(K w.params).lookup t.2=none)
  (F:∀(w:World) (mg:Str→Option Value) (fa:Addr) (h:Heap),(K w.params).In h→h.Ns mainGlobals mg→mg d.name=some (.ref fa)→
   ∃fd:FuncData,(∀(s:Shared) (u:Value),BindsTo s fd ⟨[u],[]⟩ [(x,u)])∧
    ∀base:Heap,(K w.params).In base→base.Ns mainGlobals mg→BmOf mg base→FnOk l.prog w (K w.params) mg base (CX w) k fa fd [x] (sp w))
  (hsp:∀(w:World) (H:Hp) (a:Addr) (ns:List Int),ns.length≤n→OnlyT (Ts w) H→SqL (K w.params) H a (ns.map V.int)→sp w [.ref a] H (fun v _=>v = .bl true) fun _ _ _=>False)
  (hCX:∀(w:World) (H:Hp) (s:Shared) (e:Value) (s':Shared),CX w [] H s (fun _ _ _=>False) e s'→False) :
  PySem.W.WalkO q loose XP YP l.row.toRowW d [] (fun f vs=>PySem.call f vs):=by
 refine Att.attach_call hn hdf fun w s₀ s₁ mg mb fa o pm cd doc a vs ns G Y ho hd hcd hmg hobj hints hlen hg=>?_
 have KX:=hY w _ Y
 obtain ⟨fd,hb,hF⟩:=F w mg fa _ KX G.T.g hmg
 exact law_callT KX G.T.g G.T.b G.T.builtins G.T.nolimit hg (hT w _ _ _ _ _ KX G.T) (hKT w) G.T.bmain hobj hints (Nat.le_trans hlen hn2) hr hF hb (fun H hO hS=>hsp w H a ns hlen hO hS) fun H e s'=>hCX w H s₁ e s'
def Its (x:Str):It:=⟨fun i _=>i < x.cps.size,fun i H v H'=>H'=H∧∃c,x.cps[i]? = some c∧v = .str ⟨#[c]⟩,fun i _=>i=x.cps.size⟩
theorem turn_str {P:Program} {w:World} {K:PySem.W.Frag} {tg:Expr} {it:Addr} {x:Str} {t:Tok} {ty:String} (hn:["enumerate","zip","dict_itemiterator","dict_reverseitemiterator","odict_iterator","itertools.zip_longest","itertools.pairwise"].contains ty=false)
  (W:∀A':Around,A'.handled=none→Walks P w A' it [it] [it] x.cps.size (SignAt x) (fun i h=>h.IsStrIter it ty x t i))
  (hself:∀(A:Around) (i:Nat) (s:Shared) (Q:Value→Shared→Prop) (E:Value→Shared→Prop),s.heap.IsStrIter it ty x t i→Q (.ref it) s→wpAny (model P w) A (pyIter (.ref it)) Q E s):Turn P w K tg (Its x) [it] it (fun i h=>h.IsStrIter it ty x t i) where
 mem:=by simp
 obj:=fun i h st b hb=>by
  have e:b=it:=by simpa using hb
  subst e
  obtain ⟨o,ho,_,d⟩:=st
  exact ⟨o,ho,fun v z=>by rw [d] at z; cases z⟩
 keep:=fun i h h' st k=>by
  obtain ⟨o,ho,r⟩:=st
  exact ⟨o,k it (by simp) o ho,r⟩
 item:=by
  intro X hP hw hK hc i pins s σ H E I hf st hg
  subst hP hw hK
  obtain ⟨f0,f1,f2,f3,f4,f5⟩:=hf it (by simp)
  refine (W X.A (I.ok.hd hc)).item i s _ _ hg st fun v h' tk hv st' kk=>?_
  obtain ⟨c,u,hcu,rfl⟩:=hv
  have I1:Inv X pins σ H {s with heap:=h',toks:=tk}:=I.turned (fun b o hb e=>kk b o (by simpa using hb) e) f0 f1 f3 f4 f5
  obtain ⟨o,ho,hcl,d⟩:=id st'
  exact ⟨_,rfl,go_of (s:={s with heap:=h',toks:=tk}) ho hcl d hn ⟨.str ⟨#[c]⟩,H,I1,⟨u,rfl⟩,⟨rfl,c,hcu,rfl⟩,st',fun b hb=>(hf b hb).1⟩⟩
 done:=by
  intro X hP hw hK hc i pins s σ H E I hf st hg
  subst hP hw hK
  obtain ⟨f0,f1,f2,f3,f4,f5⟩:=hf it (by simp)
  have hi:i=x.cps.size:=hg
  subst hi
  exact (W X.A (I.ok.hd hc)).done s _ _ st fun h' tk kk=>⟨rfl,I.turned (fun b o hb e=>kk b o (by simpa using hb) e) f0 f1 f3 f4 f5⟩
 self:=fun A i s Q E st h=>hself A i s Q E st h
def iStr (tl:TE):TI:=fun σ H R=>tl σ H fun v H1=>∃x,v = .str x∧R (Its x) H1
section
variable {X:Cx} {tg:Expr}
theorem pi_str {l:Expr} {tl:TE} (hl:PE X l tl):PI X tg l (iStr tl):=by
 intro pins s σ H R I h
 refine thn (hl pins s σ H _ I h) fun v s1 ⟨y,H1,I1,r1,x,e,q⟩=>?_
 subst e
 obtain ⟨t,rfl⟩:=r1
 have fin:∀b∈[s1.heap.objs.size],FpOk X pins H1 b:=fun b hb=>by
  have e:b=s1.heap.objs.size:=by simpa using hb
  subst e
  exact I1.fpOk (Nat.le_refl _) (I1.hok.fresh (Nat.le_refl _))
 cases ha:x.cps.all (· < 128)
 ·refine wpAny_pyIter_wide ha ?_
  exact ⟨s1.heap.objs.size,[s1.heap.objs.size],_,_,H1,rfl,I1.kept (t':=s1.toks) fun b o e=>Heap.get?_push_of_some _ e,turn_str (by decide) (fun A' hA=>Walks.strWide hA _ x t) (fun A i s Q E st h=>wpAny_pyIter_striter_wide st h),⟨_,Heap.get?_push_size _ rfl,rfl,rfl⟩,fin,q⟩
 ·refine wpAny_pyIter_ascii ha ?_
  exact ⟨s1.heap.objs.size,[s1.heap.objs.size],_,_,H1,rfl,I1.kept (t':=s1.toks) fun b o e=>Heap.get?_push_of_some _ e,turn_str (by decide) (fun A' hA=>Walks.strAscii hA _ x t) (fun A i s Q E st h=>wpAny_pyIter_striter_ascii st h),⟨_,Heap.get?_push_size _ rfl,rfl,rfl⟩,fin,q⟩
theorem strs_of:∀{ys:List Str} {us:List Value},Vals (ys.map V.str) us→StrsAre us ys
 | [],_,.nil=>.nil
 | y :: ys,_,.cons r t=>by
  obtain ⟨k,rfl⟩:=r
  exact .cons y k (strs_of t)
theorem mt_join:MtM X "str.join" (fun x vs H Q=>∃(sep:Str) (l:Addr) (ys:List Str),x = .str sep∧vs=[.ref l]∧SqL X.K H l (ys.map V.str)∧(ys.map (·.length)).sum + ys.length * sep.length≤16777216∧Q (.str (Txt.join sep ys)) H):=by
 intro pins s σ H x vs v us Q I rx rv h
 obtain ⟨sep,l,ys,rfl,rfl,hl,hz,q⟩:=h
 obtain ⟨t,rfl⟩:=rx
 obtain ⟨u,rfl,ru⟩:=rv.one
 cases (show u=Value.ref l from ru)
 obtain ⟨its,r,p,_⟩:=I.list hl
 exact PyProof.Rows.join_list p.isList (by simpa using strs_of r) hz fun t' k=>⟨.str _,H,I.tok k,⟨t',rfl⟩,q⟩
end
def cdOf (K:PySem.W.Frag) (n:Str):Addr:=match PySem.W.nsIn K mainGlobals n with
 | some (some (.ref f))=>(match K.lookup f with
  | some ⟨_,_,.func fd,_⟩=>(match fd.code with
   | .ref c=>c
   | _=>0)
  | _=>0)
 | _=>0
def tbOf (K:PySem.W.Frag) (n:Str):Addr:=match K.lookup (cdOf K n) with
 | some ⟨_,_,.fields vs,_⟩=>(match (vs[11]?:Option Value) with
  | some (.ref T)=>T
  | _=>0)
 | _=>0
structure CodeN (K:PySem.W.Frag) (n:Str) (f c T:Addr) (fd:FuncData):Prop where
 a:PySem.W.nsIn K mainGlobals n=some (some (.ref f))
 l:∃oc od sl,K.lookup f=some ⟨oc,od,.func fd,sl⟩
 hc:fd.code = .ref c
 lc:∃(od:Option Addr) (vs:Array Value) (sl:Array (Option Value)) (file:Str) (tf:Tok) (flags:Int) (tk:Tok) (inF:Bool) (text:Int) (tt:Tok),K.lookup c=some ⟨.type "code",od,.fields vs,sl⟩∧vs[11]? = some (.ref T)∧vs.getD 18 .none = .str file tf∧
  vs.getD 7 .none = .int flags tk∧vs.getD 9 .none = .bool inF∧vs.getD 10 .none = .int text tt
 ne:c≠T
section
variable {K:PySem.W.Frag} {n:Str} {f c T:Addr} {fd:FuncData}
theorem CodeN.cd (C:CodeN K n f c T fd):cdOf K n=c:=by
 obtain ⟨oc,od,sl,l⟩:=C.l
 unfold cdOf
 rw [C.a]
 simp only [l,C.hc]
theorem CodeN.tb (C:CodeN K n f c T fd):tbOf K n=T:=by
 obtain ⟨od,vs,sl,_,_,_,_,_,_,_,l,h11,_⟩:=C.lc
 unfold tbOf
 rw [C.cd]
 simp only [l,h11]
theorem CodeN.ck (C:CodeN K n f c T fd):CodeK K c T:=by
 obtain ⟨od,vs,sl,file,tf,flags,tk,inF,text,tt,l,h11,r⟩:=C.lc
 exact ⟨⟨_,vs,file,tf,flags,tk,inF,text,tt,l,rfl,rfl,h11,r⟩,C.ne⟩
theorem CodeN.tab {q:Program} {lo:List Str} {mean:ExcName→Option Value} {mg mb:Str→Option Value} {h:Heap} {d:DefRec} (C:CodeN K n f c T fd) (KX:K.In h) (Tp:Top q lo mean mg mb h) (hf:(recsOf q).find? (fun e=>e.name == n)=some d):h.TableAt (cdOf K n) (tbOf K n) #[]:=by
 rw [C.cd,C.tb]
 have hn:d.name=n:=beq_iff_eq.mp (List.find?_some (p:=fun e:DefRec=>e.name == n) hf)
 obtain ⟨a',o',fd',c',P',h1,h2,h3,h4,h5,h6⟩:=Tp.tab d (List.mem_of_find?_eq_some hf)
 have hm:=PySem.W.mg_of KX Tp.g C.a
 rw [hn,hm] at h1; cases h1
 obtain ⟨oc,od,sl,l⟩:=C.l
 rw [KX _ _ l] at h2; cases h2
 cases h3
 rw [C.hc] at h4; cases h4
 obtain ⟨od2,vs,sl2,_,_,_,_,_,_,_,l2,h11,_⟩:=C.lc
 obtain ⟨⟨o3,vs3,e1,_,e2,e3⟩,_⟩:=id h6
 rw [KX _ _ l2] at e1; cases e1
 cases e2
 rw [h11] at e3; cases e3
 exact h6
theorem codeN_mk {oc:Value} {od odc:Option Addr} {sl slc:Array (Option Value)} {vs:Array Value} {file:Str} {tf:Tok} {flags:Int} {tk:Tok} {inF:Bool} {text:Int} {tt:Tok} (a:PySem.W.nsIn K mainGlobals n=some (some (.ref f))) (l:K.lookup f=some ⟨oc,od,.func fd,sl⟩) (hc:fd.code = .ref c)
  (lc:K.lookup c=some ⟨.type "code",odc,.fields vs,slc⟩) (h11:vs[11]? = some (.ref T)) (h18:vs.getD 18 .none = .str file tf) (h7:vs.getD 7 .none = .int flags tk) (h9:vs.getD 9 .none = .bool inF) (h10:vs.getD 10 .none = .int text tt) (ne:c≠T):CodeN K n f c T fd:=
 ⟨a,⟨oc,od,sl,l⟩,hc,⟨odc,vs,slc,file,tf,flags,tk,inF,text,tt,lc,h11,h18,h7,h9,h10⟩,ne⟩
end
abbrev TB:=St→Hp→(St→Hp→Prop)→Prop
abbrev Fi:=PySem.Fin
def PB (Y:Cx) (body:Sem Fi→Sem Fi) (t:TB):Prop:=
 ∀(pins:List (Addr × Obj)) (s:Shared) (σ:St) (H:Hp) (N:St→Hp→Prop) (k:Sem Fi) (R:Fi→Shared→Prop),Inv Y pins σ H s→t σ H N→
  (∀σ' H' s',Inv Y pins σ' H' s'→N σ' H'→wpAny (model Y.prog Y.w) Y.A k R F0 s')→wpAny (model Y.prog Y.w) Y.A (body k) R F0 s
def turnOf (tg:Expr) (p:Pos) (ifs:List Expr) (it:Value) (env:Env) (body:Sem Fi→Sem Fi) (k:Sem Fi):Sem Fi:=do
 standAt p
 match ← pyNext it with
 | none=>pure (.done .next)
 | some v=>
  letOwnedTupleGo tg it v
  assign tg env v
  let mut ok:=true
  for c in ifs do
   if ok then ok ← isTrue c env (eval c env)
  if ok then body k else k
def LoopRule (P:Program) (w:World) (A:Around) (e:Expr) (d:Nat):Prop:=∀(it acc:Value) (env:Env) (R:Result→Shared→Prop) (I:Nat→Shared→Prop),
 (∀n s,I n s→wpAny (model P w) A (compTurn e d it acc env) (fun fin s'=>match fin with | .done f=>R (.ok f) s' | .again c'=>c' = .compLoop e d it acc env∧∃m,m < n∧I m s') F0 s)→
 ∀n s,I n s→codeAny (model P w) A (.compLoop e d it acc env) R s
def StartRule (P:Program) (w:World) (A:Around) (e:Expr) (d:Nat):Prop:=∀(it acc:Value) (env:Env) (R:Result→Shared→Prop) (s:Shared),
 codeAny (model P w) A (.compLoop e d it acc env) R s→wpAny (model P w) A (pyIter it) (fun it' s'=>codeAny (model P w) A (.compLoop e d it' acc env) R s') F0 s→codeAny (model P w) A (.compStart e d it acc env) R s
section
variable {P:Program} {w:World} {A:Around} {elt kx vx:Expr} {gens:List Comprehension} {scope:Scope} {pos:Pos} {d:Nat} {g:Comprehension}
theorem loop_list:LoopRule P w A (.ListComp elt gens scope pos) d:=by
 intro it acc env R I turn n s h
 refine codeAny_loop rfl I (fun n s hI=>?_) n h
 show wpAny _ A ((compTurn (.ListComp elt gens scope pos) d it acc env).onRaise (fun x=>do noteFrame x env; theTreesLotGoes x)) _ _ s
 exact wpAny_noted (of_F0 (turn n s hI) fun _ _ z=>z)
theorem loop_set:LoopRule P w A (.SetComp elt gens scope pos) d:=by
 intro it acc env R I turn n s h
 refine codeAny_loop rfl I (fun n s hI=>?_) n h
 show wpAny _ A ((compTurn (.SetComp elt gens scope pos) d it acc env).onRaise (fun x=>do noteFrame x env; theTreesLotGoes x)) _ _ s
 exact wpAny_noted (of_F0 (turn n s hI) fun _ _ z=>z)
theorem loop_dict:LoopRule P w A (.DictComp kx vx gens scope pos) d:=by
 intro it acc env R I turn n s h
 refine codeAny_loop rfl I (fun n s hI=>?_) n h
 show wpAny _ A ((compTurn (.DictComp kx vx gens scope pos) d it acc env).onRaise (fun x=>do noteFrame x env; theTreesLotGoes x)) _ _ s
 exact wpAny_noted (of_F0 (turn n s hI) fun _ _ z=>z)
theorem start_any {e:Expr} {it acc:Value} {env:Env} {R:Result→Shared→Prop} {s:Shared} {E:Value→Shared→Prop} (hg:(clausesOf e)[d]? = some g) (ha:g.is_async=0)
  (h0:codeAny (model P w) A (.compLoop e d it acc env) R s) (h:wpAny (model P w) A (pyIter it) (fun it' s'=>codeAny (model P w) A (.compLoop e d it' acc env) R s') F0 s) :
  wpAny (model P w) A (compStart e d it acc env) (fun fin s'=>match fin with | .done f=>R (.ok f) s' | .again c'=>c'.quiet=true∧codeAny (model P w) A c' R s') E s:=by
 unfold compStart
 rw [hg]
 simp only [Option.elim,ha]
 show wpAny _ _ (ask >>= _) _ _ s
 refine wpAny_bind (wpAny_askSetting (wpAny_ite ?_))
 split
 ·first
   | exact wpAny_bind (wpAny_pure (wpAny_pure (And.intro rfl h0)))
   | exact wpAny_pure (And.intro rfl h0)
 ·refine wpAny_bind (wpAny_rule ?_)
  exact wpAny_bind (wpAny_standAt (wpAny_bind (of_F0 h fun it' s' h'=>wpAny_pure (And.intro rfl h'))))
theorem start_list (hg:gens[d]? = some g) (ha:g.is_async=0):StartRule P w A (.ListComp elt gens scope pos) d:=by
 intro it acc env R s h0 h
 refine codeAny_of_tree ?_
 show wpAny _ _ ((compStart (.ListComp elt gens scope pos) d it acc env).onRaise (fun x=>do noteFrame x env; standAt theWindowsPlace)) _ _ s
 exact wpAny_notedAt (start_any (e:=.ListComp elt gens scope pos) hg ha h0 h)
theorem start_set (hg:gens[d]? = some g) (ha:g.is_async=0):StartRule P w A (.SetComp elt gens scope pos) d:=by
 intro it acc env R s h0 h
 refine codeAny_of_tree ?_
 show wpAny _ _ ((compStart (.SetComp elt gens scope pos) d it acc env).onRaise (fun x=>do noteFrame x env; standAt theWindowsPlace)) _ _ s
 exact wpAny_notedAt (start_any (e:=.SetComp elt gens scope pos) hg ha h0 h)
theorem start_dict (hg:gens[d]? = some g) (ha:g.is_async=0):StartRule P w A (.DictComp kx vx gens scope pos) d:=by
 intro it acc env R s h0 h
 refine codeAny_of_tree ?_
 show wpAny _ _ ((compStart (.DictComp kx vx gens scope pos) d it acc env).onRaise (fun x=>do noteFrame x env; standAt theWindowsPlace)) _ _ s
 exact wpAny_notedAt (start_any (e:=.DictComp kx vx gens scope pos) hg ha h0 h)
end
def LR (J:It) (g:TG) (tt:TT) (tb:TB) (σ:St) (H:Hp) (N:St→Hp→Prop):Prop:=∃W:Nat→Nat→St→Hp→Prop,(∃m,W 0 m σ H)∧∀i m σ2 H2,W i m σ2 H2→
 (J.stop i H2∧N σ2 H2)∨(J.go i H2∧∀x H3,J.yld i H2 x H3→g x σ2 H3 fun σ4 H4=>tt σ4 H4 fun ok H5=>
  if ok=true then tb σ4 H5 (fun σ6 H6=>∃m',m' < m∧W (i + 1) m' σ6 H6) else ∃m',m' < m∧W (i + 1) m' σ4 H5)
section
variable {Y:Cx} {e tg iter:Expr} {ifs:List Expr} {d:Nat} {p:Pos} {body:Sem Fi→Sem Fi} {it:Addr} {acc:Value} {J:It} {g:TG} {tt:TT} {tb:TB} {wi:TI} {fp:List Addr} {tn:Nat→Heap→Prop} {pins:List (Addr × Obj)} {R:Result→Shared→Prop} {N:St→Hp→Prop} {s:Shared} {σ:St} {H:Hp}
theorem loop_any (hL:LoopRule Y.prog Y.w Y.A e d) (hc:Y.calm=true) (hx:Y.xe=F0) (hT:compTurn e d (.ref it) acc Y.env=turnOf tg p ifs (.ref it) Y.env body (again (.compLoop e d (.ref it) acc Y.env)))
  (hg:PG Y tg g) (ht:PTs Y ifs tt) (hb:PB Y body tb) (T:Turn Y.prog Y.w Y.K tg J fp it tn) (stat:∀{H':Hp},(∀b∈fp,H' b=none)→∀b∈fp,FpOk Y pins H' b)
  (I:Inv Y pins σ H s) (st:tn 0 s.heap) (fr:∀b∈fp,H b=none) (q:LR J g tt tb σ H N) (hR:∀σ' H' s',Inv Y pins σ' H' s'→N σ' H'→R (.ok .next) s') :
  codeAny (model Y.prog Y.w) Y.A (.compLoop e d (.ref it) acc Y.env) R s:=by
 obtain ⟨W,⟨m0,w0⟩,turn⟩:=q
 refine hL _ _ _ _ (fun n s'=>∃i σ' H',Inv Y pins σ' H' s'∧tn i s'.heap∧(∀b∈fp,H' b=none)∧W i n σ' H') ?_ m0 s ⟨0,σ,H,I,st,fr,w0⟩
 rintro n s5 ⟨i,σ5,H5,I5,t5,fr5,w5⟩
 rw [hT]
 unfold turnOf
 refine wpAny_bind (wpAny_standAt (wpAny_bind ?_))
 rcases turn i n σ5 H5 w5 with ⟨stop,qn⟩ | ⟨go,step⟩
 ·refine of_F0 (T.done Y rfl rfl rfl hc i pins s5 σ5 H5 F0 I5 (stat fr5) t5 stop) fun r s6 ⟨hr,I6⟩=>?_
  subst hr
  exact wpAny_pure (hR _ _ _ I6 qn)
 ·refine of_F0 (T.item Y rfl rfl rfl hc i pins s5 σ5 H5 F0 I5 (stat fr5) t5 go) fun r s6 ⟨u,hr,h6⟩=>?_
  subst hr
  refine wpAny_bind (of_F0 h6 fun _ s7 ⟨x,H7,I7,r7,y7,t7,fr7⟩=>?_)
  have I7':=I7.pinned (stat fr7) (T.obj _ _ t7)
  have a1:=hg _ s7 σ5 H7 x u _ I7' r7 (step x H7 y7)
  rw [hx] at a1
  refine wpAny_bind (of_F0 a1 fun _ s8 ⟨σ8,H8,I8,q8⟩=>?_)
  have a2:=ht _ s8 σ8 H8 _ I8 q8
  rw [hx] at a2
  refine wpAny_bind (of_F0 a2 fun ok s9 ⟨H9,I9,q9⟩=>?_)
  have again:∀{s':Shared} {σ':St} {H':Hp} {m:Nat},Inv Y (pins ++ pinsAt fp s7.heap) σ' H' s'→W (i + 1) m σ' H'→
    ∃i σ' H',Inv Y pins σ' H' s'∧tn i s'.heap∧(∀b∈fp,H' b=none)∧W i m σ' H':=fun {s' σ' H' m} J w=>by
   refine ⟨i + 1,σ',H',J.unpinned,T.keep _ _ _ t7 fun b hb o e=>(J.pin (b,o) (List.mem_append_right _ (List.mem_append_right _ (mem_pinsAt hb e)))).1,fun b hb=>?_,w⟩
   obtain ⟨o,e,d⟩:=T.obj _ _ t7 b hb
   exact (J.pin (b,o) (List.mem_append_right _ (List.mem_append_right _ (mem_pinsAt hb e)))).2.1
  cases ok with
  | false=>
   obtain ⟨m',lt,w9⟩:=(show ∃m',m' < n∧W (i + 1) m' σ8 H9 from q9)
   exact wpAny_pure ⟨rfl,m',lt,again I9 w9⟩
  | true=>
   exact hb _ s9 σ8 H9 _ _ _ I9 q9 fun σA HA sA IA ⟨m',lt,wA⟩=>wpAny_pure ⟨rfl,m',lt,again IA wA⟩
def inBody (e:Expr) (d:Nat) (iter:Expr) (acc:Value) (env:Env) (k:Sem Fi):Sem Fi:=do
 let x ← eval iter env
 standAt iter.pos
 let x ← foldedSetIterable iter env x
 let _ ← runOwn (.compStart e d (← holding [x] (pyIter x)) acc env) env
 k
def tIn (wi:TI) (g:TG) (tt:TT) (tb:TB):TB:=fun σ H N=>wi σ H fun J H1=>LR J g tt tb σ H1 N
theorem pb_in (hL:LoopRule Y.prog Y.w Y.A e d) (hS:StartRule Y.prog Y.w Y.A e d) (hc:Y.calm=true) (hx:Y.xe=F0) (hT:∀it:Addr,compTurn e d (.ref it) acc Y.env=turnOf tg p ifs (.ref it) Y.env body (again (.compLoop e d (.ref it) acc Y.env)))
  (hi:PI Y tg iter wi) (hg:PG Y tg g) (ht:PTs Y ifs tt) (hb:PB Y body tb) (hs:∀x,foldedSetIterable iter Y.env x=pure x:=by intro _; rfl):PB Y (inBody e d iter acc Y.env) (tIn wi g tt tb):=by
 intro pins s σ H N k R I h hk
 unfold inBody
 have a1:=hi pins s σ H _ I h
 rw [hx] at a1
 refine wpAny_bind (of_F0 a1 fun v s1 h1=>wpAny_bind (wpAny_standAt (wpAny_bind (wpAny_of_eq (hs v) (wpAny_bind (wpAny_holding (of_F0 h1 fun itv s2 h2=>?_)))))))
 obtain ⟨it,fp,tn,J,H2,rfl,I2,T,st2,f2,q⟩:=h2
 refine wpAny_bind (wpAny_runOwn ?_)
 have lp:codeAny (model Y.prog Y.w) Y.A (.compLoop e d (.ref it) acc Y.env) (fun r s'=>match r with | .ok f=>wpAny (model Y.prog Y.w) Y.A k R F0 s' | .error e=>cameBackBy (model Y.prog Y.w) Y.A Y.env F0 e s') s2:=
  loop_any hL hc hx (hT it) hg ht hb T (fun hn b hb=>⟨hn b hb,(f2 b hb).2⟩) I2 st2 (fun b hb=>(f2 b hb).1) q fun σ' H' s' I' n'=>hk σ' H' s' I' n'
 exact hS _ _ _ _ _ lp (T.self _ 0 _ _ _ st2 lp)
def listBody (elt:Expr) (acc:Value) (env:Env) (k:Sem Fi):Sem Fi:=(do let _ ← call (.builtin "list.append") [acc,← eval elt env]) >>= fun _=>k
def tEmL (D:Addr) (te:TE):TB:=fun σ H N=>te σ H fun v H6=>∃xs,H6 D=some (.lst xs)∧xs.length < sizeLine∧N σ (upd H6 D (.lst (xs ++ [v])))
theorem pb_list {elt:Expr} {te:TE} {D:Addr} (hx:Y.xe=F0) (hel:PE Y elt te):PB Y (listBody elt (.ref D) Y.env) (tEmL D te):=by
 intro pins s σ H N k R I h hk
 have a1:=hel pins s σ H _ I h
 rw [hx] at a1
 refine wpAny_bind (wpAny_bind (of_F0 a1 fun y sA ⟨v,HA,IA,rA,xs,hxs,hz,wA⟩=>wpAny_bind ?_))
 have a2:=mt_append pins sA σ HA (.ref D) [v] (.ref D) [y] (fun _ H'=>N σ H') IA rfl (.cons rA .nil) ⟨D,xs,v,rfl,rfl,hxs,hz,wA⟩
 rw [hx] at a2
 exact of_F0 a2 fun _ sB' ⟨_,HB,IB,_,wB⟩=>wpAny_pure (hk σ HB sB' IB wB)
end
def NewRule (X:Cx) (mk:Sem Value) (o0:Addr→HO):Prop:=∀(pins:List (Addr × Obj)) (s:Shared) (σ:St) (H:Hp) (E:Value→Shared→Prop) (Q:Value→Shared→Prop),Inv X pins σ H s→
 (∀s3:Shared,(∀b o,s.heap.get? b=some o→s3.heap.get? b=some o)→Inv X pins σ (upd H s.heap.objs.size (o0 s.heap.objs.size)) s3→Q (.ref s.heap.objs.size) s3)→wpAny (model X.prog X.w) X.A mk Q E s
theorem new_list {X:Cx}:NewRule X (newList []) (fun _=>.lst []):=by
 intro pins s σ H E Q I h
 refine wpAny_newObj_type ?_
 exact h _ (fun b o e=>Heap.get?_push_of_some _ e) (I.laid (t':=s.toks) (fun b u e=>Heap.get?_push_of_some _ e) (Nat.le_refl _) ⟨Nat.zero_le _,[],0,.nil,Heap.get?_push_size _ rfl⟩)
section
variable {X:Cx} {e tg iter:Expr} {ifs:List Expr} {scope esc:Scope} {pos:Pos} {N os:List Str} {fi:List Nat} {wi:TI} {g:TG} {tt:TT} {tb:Addr→TB} {body:Addr→Env→Sem Fi→Sem Fi} {o0:Addr→HO} {mk:Sem Value} {p:Pos}
theorem comp_coreG {pins:List (Addr × Obj)} {σ:St} {H:Hp} {s:Shared} {E:Value→Shared→Prop} {it:Addr} {fp:List Addr} {tn:Nat→Heap→Prop} {J:It} {Q:VK} {RR:Value→Addr→Result→Shared→Prop} (hc:X.calm=true) (hN:X.N=N) (he:X.env.scope=esc) (B:BlkOk esc scope N fi)
  (hL:LoopRule X.prog X.w X.A e 0) (hS:StartRule X.prog X.w X.A e 0) (hT:∀(it D:Addr) (env:Env),compTurn e 0 (.ref it) (.ref D) env=turnOf tg p ifs (.ref it) env (body D env) (again (.compLoop e 0 (.ref it) (.ref D) env)))
  (hmk:NewRule X mk o0)
  (hg:∀s H fp,PG (blk X scope (nB N os fi) s H fp) tg g) (ht:∀s H fp,PTs (blk X scope (nB N os fi) s H fp) ifs tt) (hb:∀D s H fp,PB (blk X scope (nB N os fi) s H fp) (body D (blk X scope (nB N os fi) s H fp).env) (tb D))
  (I:Inv X pins σ H s) (T:Turn X.prog X.w X.K tg J fp it tn) (st:tn 0 s.heap) (hf:∀b∈fp,FpOk X pins H b) (q:∀l,H l=none→LR J g tt (tb l) (sB σ os fi) (upd H l (o0 l)) fun _ H'=>Q (.ref l) H')
  (hRR:∀D s3 H3 s' σ' H',Inv X pins σ H3 s3→(∀b∈fp,FpOk X pins H3 b)→Inv (blk X scope (nB N os fi) s3 H3 fp) [] σ' H' s'→Q (.ref D) H'→RR (.ref D) s3.heap.objs.size (.ok .next) s') :
  wpAny (model X.prog X.w) X.A mk (fun acc s3=>wpAny (model X.prog X.w) X.A (newFunctionEnv scope X.env.globals (clOf X.env scope.names []) [] X.env.qual none .none (some X.env)) (fun cenv s4=>
   codeAny (model X.prog X.w) X.A (.compStart e 0 (.ref it) acc {cenv with scope:=relabel scope X.env}) (RR acc cenv.locals) s4) E s3) E s:=by
 subst hN
 have fresh:H s.heap.objs.size=none:=I.hok.fresh (Nat.le_refl _)
 have old:∀b∈fp,∃o,s.heap.get? b=some o:=fun b hb=>by
  obtain ⟨o,e,_⟩:=T.obj _ _ st b hb
  exact ⟨o,e⟩
 refine hmk pins s σ H E _ I fun s3 k3 I3=>?_
 have hf3:∀b∈fp,FpOk X pins (upd H s.heap.objs.size (o0 s.heap.objs.size)) b:=fun b hb=>by
  obtain ⟨o,e⟩:=old b hb
  exact ⟨by rw [upd_ne (Nat.ne_of_lt (Heap.lt_size e))]; exact (hf b hb).1,(hf b hb).2⟩
 have st3:tn 0 s3.heap:=T.keep _ _ _ st fun b hb o e=>k3 b o e
 have q3:=q _ fresh
 have ho3:∀b∈fp,∃o,s3.heap.get? b=some o:=fun b hb=>by
  obtain ⟨o,e⟩:=old b hb
  exact ⟨o,k3 b o e⟩
 generalize s.heap.objs.size=D at *
 generalize upd H D (o0 D)=H3 at *
 refine wpAny_newFunctionEnv B.nocell (by intro y hy; simp at hy) (fun h4 hn4 sb4=>?_) B.kind
 have k4:∀b o,s3.heap.get? b=some o→h4.get? b=some o:=fun b o e=>(sb4.2 b (Nat.ne_of_lt (Heap.lt_size e))).trans (Heap.get?_push_of_some _ e)
 have I4:=blk_inv (os:=os) (t1:=s3.toks + ([]:List (Str × Value)).length) B he I3 hf3 ho3 k4 hn4
 have st4:tn 0 h4:=T.keep _ _ _ st3 fun b hb o e=>k4 b o e
 have fpB:∀{H':Hp},(∀b∈fp,H' b=none)→∀b∈fp,FpOk (blk X scope (nB X.N os fi) s3 H3 fp) [] H' b:=fun hn b hb=>by
  refine ⟨hn b hb,(I4.ok.exf b hb).1,I4.ok.exfs b hb,.inl hb,(I4.ok.exf b hb).2,fun p hp=>nomatch hp⟩
 have lp:=loop_any (Y:=blk X scope (nB X.N os fi) s3 H3 fp) (R:=RR (.ref D) s3.heap.objs.size) hL hc rfl (hT it D _) (hg s3 H3 fp) (ht s3 H3 fp) (hb D s3 H3 fp) T fpB I4 st4 (fun b hb=>(hf3 b hb).1) q3
  fun σ' H' s' I' n'=>hRR D s3 H3 s' σ' H' I3 hf3 I' n'
 exact hS _ _ _ _ _ lp (T.self _ 0 _ _ _ st4 lp)
def tCG (o0:Addr→HO) (os:List Str) (fi:List Nat) (wi:TI) (g:TG) (tt:TT) (tb:Addr→TB):TE:=fun σ H Q=>wi σ H fun J H1=>∀l,H1 l=none→LR J g tt (tb l) (sB σ os fi) (upd H1 l (o0 l)) fun _ H'=>Q (.ref l) H'
theorem pe_compG {gs:List Comprehension} {p':Pos} (hev:eval e X.env=comprehension e scope X.env p' mk false (eval iter X.env)) (hcl:clausesOf e=⟨tg,iter,ifs,0⟩ :: gs) (hc:X.calm=true) (hN:X.N=N) (he:X.env.scope=esc) (B:BlkOk esc scope N fi)
  (hL:LoopRule X.prog X.w X.A e 0) (hS:StartRule X.prog X.w X.A e 0) (hT:∀(it D:Addr) (env:Env),compTurn e 0 (.ref it) (.ref D) env=turnOf tg p ifs (.ref it) env (body D env) (again (.compLoop e 0 (.ref it) (.ref D) env)))
  (hmk:NewRule X mk o0) (hi:PI X tg iter wi)
  (hg:∀s H fp,PG (blk X scope (nB N os fi) s H fp) tg g) (ht:∀s H fp,PTs (blk X scope (nB N os fi) s H fp) ifs tt) (hb:∀D s H fp,PB (blk X scope (nB N os fi) s H fp) (body D (blk X scope (nB N os fi) s H fp).env) (tb D))
  (hs:∀x,foldedSetIterable iter X.env x=pure x:=by intro _; rfl):PE X e (tCG o0 os fi wi g tt tb):=by
 intro pins s σ H Q I h
 have cells:=blk_cells (by rw [hN]; exact B) he I
 rw [hev]
 refine wpAny_comprehension_free (use:=none) hcl hs (closure_eq cells) B.kind B.loc (thn (hi pins s σ H _ I h) fun v s1 h1=>thn h1 fun itv s2 h2=>?_)
 obtain ⟨it,fp,tn,J,H2,rfl,I2,T,st2,f2,q2⟩:=h2
 refine comp_coreG (RR:=fun acc C=>compPost (model X.prog X.w) X.A X.xe none (EP X pins σ Q) acc C) hc hN he B hL hS hT hmk hg ht hb I2 T st2 f2 q2 ?_
 intro D s3 H3 s' σ' H' I3 f3 I' q
 obtain ⟨m,hn,_⟩:=I'.loc
 exact ⟨m,hn,fun h' sb=>⟨.ref D,H',blk_out I3 f3 I' sb,rfl,q⟩⟩
end
section
variable {X:Cx} {elt tg iter tg2 iter2:Expr} {ifs ifs2:List Expr} {scope esc:Scope} {pos:Pos} {N os:List Str} {fi:List Nat} {wi wi2:TI} {g g2:TG} {tt tt2:TT} {te:TE}
theorem pe_comp2 (hc:X.calm=true) (hN:X.N=N) (he:X.env.scope=esc) (B:BlkOk esc scope N fi) (hi:PI X tg iter wi)
  (hg:∀s H fp,PG (blk X scope (nB N os fi) s H fp) tg g) (ht:∀s H fp,PTs (blk X scope (nB N os fi) s H fp) ifs tt)
  (hi2:∀s H fp,PI (blk X scope (nB N os fi) s H fp) tg2 iter2 wi2) (hg2:∀s H fp,PG (blk X scope (nB N os fi) s H fp) tg2 g2) (ht2:∀s H fp,PTs (blk X scope (nB N os fi) s H fp) ifs2 tt2)
  (hel:∀s H fp,PE (blk X scope (nB N os fi) s H fp) elt te)
  (hs:∀x,foldedSetIterable iter X.env x=pure x:=by intro _; rfl) (hs2:∀env x,foldedSetIterable iter2 env x=pure x:=by intro _ _; rfl) :
  PE X (.ListComp elt [⟨tg,iter,ifs,0⟩,⟨tg2,iter2,ifs2,0⟩] scope pos) (tCG (fun _=>.lst []) os fi wi g tt fun D=>tIn wi2 g2 tt2 (tEmL D te)):=by
 refine pe_compG (gs:=[⟨tg2,iter2,ifs2,0⟩]) (body:=fun D env=>inBody (.ListComp elt [⟨tg,iter,ifs,0⟩,⟨tg2,iter2,ifs2,0⟩] scope pos) 1 iter2 (.ref D) env) rfl rfl hc hN he B loop_list (start_list rfl rfl) (fun _ _ _=>rfl) new_list hi hg ht (fun D s H fp=>?_) hs
 exact pb_in (body:=listBody elt (.ref D) (blk X scope (nB N os fi) s H fp).env) loop_list (start_list rfl rfl) hc rfl (fun _=>rfl) (hi2 s H fp) (hg2 s H fp) (ht2 s H fp) (pb_list rfl (hel s H fp)) (hs2 _)
end
def ssOf (ks:List Str):Key→Bool
 | .inr x=>decide (x∈ks)
 | _=>false
def SetT (P:Program) (w:World) (a:Addr) (ks:List Str):HO:=.ext fun h=>h.SetOf (mixKind P w) a (ssOf ks) ks.length
def insT (x:Str) (ks:List Str):List Str:=if x∈ks then ks else ks ++ [x]
theorem setT_ok {P:Program} {w:World} {H:Hp} {h:Heap} {a:Addr} {ks:List Str} (x:h.SetOf (mixKind P w) a (ssOf ks) ks.length):ObjOk P w H h a (SetT P w a ks):=
 ⟨x,let ⟨o,_,_,_,e,_⟩:=x; ⟨o,e⟩,fun h1 h2 ⟨o,es,ep,t,e,r⟩ k=>⟨o,es,ep,t,k o e,r⟩⟩
theorem ins_eq (x:Str) (ks:List Str):(fun k'=>ssOf ks k' || decide (k'=(.inr x:Key)))=ssOf (insT x ks):=by
 funext k
 cases k with
 | inl i=>simp [ssOf]
 | inr y=>
  unfold insT
  by_cases h:x∈ks
  ·rw [if_pos h]
   simp only [ssOf]
   by_cases e:y=x
   ·subst e; simp [h]
   ·simp [e]
  ·rw [if_neg h]
   simp [ssOf,List.mem_append,Bool.decide_or]
theorem ins_len (x:Str) (ks:List Str):(if ssOf ks (.inr x)=true then ks.length else ks.length + 1)=(insT x ks).length:=by
 unfold insT
 by_cases h:x∈ks
 ·rw [if_pos h,if_pos (show ssOf ks (.inr x)=true by simp [ssOf,h])]
 ·rw [if_neg h,if_neg (by simp [ssOf,h]),List.length_append]; rfl
section
variable {X:Cx} {pins:List (Addr × Obj)} {σ:St} {H:Hp} {s:Shared} {a:Addr} {ks:List Str}
theorem Inv.setOf (I:Inv X pins σ H s) (h:H a=some (SetT X.prog X.w a ks)):s.heap.SetOf (mixKind X.prog X.w) a (ssOf ks) ks.length:=(I.hok a _ h).1
theorem Inv.setPut {h':Heap} {ks':List Str} {t':Nat} (I:Inv X pins σ H s) (h:H a=some (SetT X.prog X.w a ks)) (sb:Heap.SameBut a s.heap h') (n:h'.SetOf (mixKind X.prog X.w) a (ssOf ks') ks'.length):Inv X pins σ (upd H a (SetT X.prog X.w a ks')) {s with heap:=h',toks:=t'}:=
 I.write (x:=a) (e:=a) (by rw [h]; exact trivial) (.inl rfl) (fun b u hb e=>(sb.2 b hb).trans e) (let ⟨o,_,_,_,e,_⟩:=n; ⟨o,e⟩) (setT_ok n)
theorem call_set0:CallR X (.type "set") (fun xs H Q=>xs=[]∧∀p,H p=none→Q (.ref p) (upd H p (SetT X.prog X.w p []))):=by
 intro pins s σ H xs us Q I r h
 obtain ⟨rfl,q⟩:=h
 cases r
 refine call_set_0 fun led=>?_
 have n:(s.heap.push {cls:=.type "set",dict:=none,data:=.set #[] 0 (.fresh 0 0 led)}).SetOf (mixKind X.prog X.w) s.heap.objs.size (ssOf []) ([]:List Str).length:=
  ⟨_,#[],0,_,Heap.get?_push_size _ rfl,⟨rfl,rfl,rfl⟩,rfl,fun e he=>by simp at he,fun k=>by cases k <;> simp [ssOf],by decide,by rfl,rfl⟩
 exact ⟨.ref s.heap.objs.size,_,I.laid (t':=s.toks) (fun b u e=>Heap.get?_push_of_some _ e) (Nat.le_refl _) (setT_ok n),rfl,q _ I.fresh⟩
theorem boot_set:bootBuiltins "set" = some (.type "set"):=by decide +kernel
def rInS (P:Program) (w:World) (neg:Bool):R2:=fun x y H Q=>∃z a ks,x = .str z∧y = .ref a∧H a=some (SetT P w a ks)∧Q (.bl (if neg then !decide (z∈ks) else decide (z∈ks))) H
theorem op_in_set:OpR X (compareOp .In) (rInS X.prog X.w false):=by
 intro pins s σ H x y v u Q I rx ry h
 obtain ⟨z,a,ks,rfl,rfl,ha,q⟩:=h
 obtain ⟨t,rfl⟩:=rx
 cases ry
 exact wpAny_inSet_of (mixKind_str _ _ z t) rfl (I.setOf ha) ⟨.bl _,H,I.tok _,rfl,q⟩
def rAddS (P:Program) (w:World):V→List V→Hp→VK→Prop:=fun x xs H Q=>∃a z ks,x = .ref a∧xs=[.str z]∧H a=some (SetT P w a ks)∧ks.length + 1 < 4096∧Q .non (upd H a (SetT P w a (insT z ks)))
theorem mt_setadd:MtR X "set.add" (rAddS X.prog X.w):=by
 intro pins s σ H x xs v us Q I rx rv h
 obtain ⟨a,z,ks,rfl,rfl,ha,hz,q⟩:=h
 cases rx
 obtain ⟨u,rfl,t,rfl⟩:=vals1 rv
 refine call_set_add (mixKind_str _ _ z t) rfl (I.setOf ha) hz fun h' sb n=>?_
 rw [ins_eq,ins_len] at n
 exact ⟨.non,_,I.setPut ha sb n,rfl,q⟩
theorem call_len_setT:CallR X (.builtin "len") (fun xs H Q=>∃a ks,xs=[.ref a]∧H a=some (SetT X.prog X.w a ks)∧Q (.int ks.length) H):=by
 intro pins s σ H xs us Q I r h
 obtain ⟨a,ks,rfl,ha,q⟩:=h
 obtain ⟨u,rfl,rx⟩:=vals1 r
 cases rx
 obtain ⟨o,es,ep,t,e,ex,d,_,_,b,f,n⟩:=I.setOf ha
 refine call_len_set e ex d f ?_ ⟨.int ks.length,H,I.tok _,⟨_,by rw [n]⟩,q⟩
 have:es.size < 4096:=b
 omega
end
def tAddS (P:Program) (w:World) (to:TE) (t:TA):TE:=fun σ H Q=>to σ H fun x H1=>(∃a ks,x = .ref a∧H1 a=some (SetT P w a ks))∧t σ H1 fun xs H2=>rAddS P w x xs H2 Q
theorem pe_setadd {X:Cx} {o e:Expr} {to:TE} {t:TA} {apos cpos:Pos} (ho:PE X o to) (ha:PA X [e] t)
  (hbase:attributeBase o "add" X.env (eval o X.env)=eval o X.env:=by rfl)
  (hfew:((backTo cpos (starEach [e] X.env)).all (fun x=>!x.1) && (backToKw cpos (keywordEach [] X.env)).all (fun x=>x.1.isSome)
   && decide ([e].length + ([]:List Keyword).length + (if ([]:List Keyword).isEmpty then 0 else 1) < 30))=true:=by rfl)
  (hline:(apos.endLine == cpos.line)=true:=by rfl) (hs:starEach [e] X.env=(false,eval e X.env) :: starEach [] X.env:=by rfl) (hplain:(backTo cpos (starEach [] X.env)).any (·.1)=false:=by rfl) :
  PE X (.Call (.Attribute o "add" apos) [e] [] cpos) (tAddS X.prog X.w to t):=by
 intro pins s σ H Q I h
 refine wpAny_Call_method_late hbase hfew hline rfl (thn (ho pins s σ H _ I h) fun v s1 ⟨x,H1,I1,r1,⟨a,ks,ea,hA⟩,q1⟩=>?_)
 subst ea
 cases r1
 have S:=I1.setOf hA
 refine ⟨"set","set.add",F.plainAttrs_set,F.slot_set_add,F.type_set_add,S.typeIs,S.noDict,?_⟩
 have hA:=ha cpos pins s1 σ H1 _ I1 q1
 rw [hs] at hA ⊢
 refine Calls.callWith_builtin (by show (false || (backTo cpos (starEach [] X.env)).any (·.1))=false; rw [hplain] <;> rfl) (Calls.evalArgs_plain ?_)
 exact thn hA fun us s2 ⟨vs,H2,I2,r2,q2⟩=>mt_setadd pins s2 σ H2 (.ref a) vs _ us Q I2 rfl r2 q2
theorem new_set {X:Cx}:NewRule X (newSet (.type "set")) (fun a=>SetT X.prog X.w a []):=by
 intro pins s σ H E Q I h
 refine wpAny_newSet_of (knd:=mixKind X.prog X.w) fun led n=>?_
 have n':(s.heap.push {cls:=.type "set",dict:=none,data:=.set #[] 0 (.fresh 0 0 led)}).SetOf (mixKind X.prog X.w) s.heap.objs.size (ssOf []) ([]:List Str).length:=by
  have e:(fun _:Key=>false)=ssOf []:=by
   funext k; cases k <;> simp [ssOf]
  rw [← e]; exact n
 exact h _ (fun b o e=>Heap.get?_push_of_some _ e) (I.laid (t':=s.toks) (fun b u e=>Heap.get?_push_of_some _ e) (Nat.le_refl _) (setT_ok n'))
def setBody (elt:Expr) (acc:Value) (env:Env) (k:Sem Fi):Sem Fi:=(do let v ← eval elt env; standAt elt.pos; let _ ← call (.builtin "set.add") [acc,v]) >>= fun _=>k
def tEmS (P:Program) (w:World) (D:Addr) (te:TE):TB:=fun σ H N=>te σ H fun v H6=>∃z ks,v = .str z∧H6 D=some (SetT P w D ks)∧ks.length + 1 < 4096∧N σ (upd H6 D (SetT P w D (insT z ks)))
theorem pb_set {Y:Cx} {elt:Expr} {te:TE} {D:Addr} (hx:Y.xe=F0) (hel:PE Y elt te):PB Y (setBody elt (.ref D) Y.env) (tEmS Y.prog Y.w D te):=by
 intro pins s σ H N k R I h hk
 have a1:=hel pins s σ H _ I h
 rw [hx] at a1
 refine wpAny_bind (wpAny_bind (of_F0 a1 fun y sA ⟨v,HA,IA,rA,z,ks,ev,hD,hz,wA⟩=>wpAny_bind (wpAny_standAt (wpAny_bind ?_))))
 have a2:=mt_setadd pins sA σ HA (.ref D) [v] (.ref D) [y] (fun _ H'=>N σ H') IA rfl (.cons rA .nil) ⟨D,z,ks,rfl,by rw [ev],hD,hz,wA⟩
 rw [hx] at a2
 exact of_F0 a2 fun _ sB' ⟨_,HB,IB,_,wB⟩=>wpAny_pure (hk σ HB sB' IB wB)
section
variable {X:Cx} {elt tg iter:Expr} {ifs:List Expr} {scope esc:Scope} {pos:Pos} {N os:List Str} {fi:List Nat} {wi:TI} {g:TG} {tt:TT} {te:TE}
theorem pe_setcomp (hc:X.calm=true) (hN:X.N=N) (he:X.env.scope=esc) (B:BlkOk esc scope N fi) (hi:PI X tg iter wi)
  (hg:∀s H fp,PG (blk X scope (nB N os fi) s H fp) tg g) (ht:∀s H fp,PTs (blk X scope (nB N os fi) s H fp) ifs tt)
  (hel:∀s H fp,PE (blk X scope (nB N os fi) s H fp) elt te)
  (hs:∀x,foldedSetIterable iter X.env x=pure x:=by intro _; rfl) :
  PE X (.SetComp elt [⟨tg,iter,ifs,0⟩] scope pos) (tCG (fun a=>SetT X.prog X.w a []) os fi wi g tt fun D=>tEmS X.prog X.w D te):=
 pe_compG (gs:=[]) (body:=fun D env=>setBody elt (.ref D) env) rfl rfl hc hN he B loop_set (start_set rfl rfl) (fun _ _ _=>rfl) new_set hi hg ht (fun D s H fp=>pb_set rfl (hel s H fp)) hs
end
section
variable {X:Cx} {tg:Expr}
end
def tRev (K:PySem.W.Frag) (te:TE):TE:=fun σ H Q=>te σ H fun x H1=>∃a xs,x = .ref a∧SqL K H1 a xs∧∀p,H1 p=none→Q (.ref p) (upd H1 p (.lst xs.reverse))
theorem pe_rev {X:Cx} {e:Expr} {te:TE} {k:Nat} {p1 p2 p3 pos:Pos} (he:PE X e te):PE X (.Subscript e (.Slice none none (some (.UnaryOp .USub (.Constant (.int 1) k p1) p3)) p2) pos) (tRev X.K te):=by
 intro pins s σ H Q I h
 refine Subscript_ (thn (he pins s σ H _ I h) fun v s1 ⟨x,H1,I1,r1,q1⟩=>?_)
 obtain ⟨a,xs,rfl,hx,q⟩:=q1
 cases r1
 have st:=po_some (pe_un un_neg (pe_int (X:=X) (i:=1) (j:=k) (pos:=p1)) (pos:=p3))
 refine wpAny_Slice ?_
 rw [evalPart_none]
 refine wpAny_pure (wpAny_pure ?_)
 refine thn (st pins s1 σ H1 (fun o H'=>o=some (-1)∧H'=H1) I1 ⟨_,rfl,_,rfl,rfl,rfl⟩) fun vs s3 ⟨o,H3,I3,pp,e1,e2⟩=>?_
 subst e1
 rw [e2] at I3
 clear e2
 have I4:Inv X pins σ H1 {s3 with heap:=s3.heap.push {cls:=.type "slice",data:=.fields #[.none,.none,vs]}}:=I3.kept (t':=s3.toks) fun b ob q=>Heap.get?_push_of_some _ q
 obtain ⟨its,r,ht,hz⟩:=I4.list hx
 show wpAny (model X.prog X.w) X.A (subscriptTail e (.Slice none none (some (.UnaryOp .USub (.Constant (.int 1) k p1) p3)) p2) (.ref a) (.ref s3.heap.objs.size)) (EP X pins σ Q) X.xe {s3 with heap:=s3.heap.push {cls:=.type "slice",data:=.fields #[.none,.none,vs]}}
 refine tail_any (ops:=[.ref a,.ref s3.heap.objs.size]) ht.isList.typeIs slot_list_getitem.lookup ?_ (by with_unfolding_all rfl)
 refine wpAny_getItem_list_slice ht.isList (Heap.IsSliceOf.new ..) .none .none pp (by simp) ?_ (by rw [List.size_toArray,← r.length]; omega)
 rw [PySem.W.krv_pick]
 refine ⟨.ref _,_,I4.laid (t':=s3.toks) (o:=.lst xs.reverse) (fun b ob q=>Heap.get?_push_of_some _ q) (Nat.le_refl _) ?_,rfl,q _ (I4.hok.fresh (Nat.le_refl _))⟩
 exact ⟨by rw [List.length_reverse]; exact hz,_,0,r.reverse,Heap.get?_push_size _ rfl⟩
inductive TopR (K:PySem.W.Frag) (H:Hp) (R:V→V→Bool→Prop):V→V→Bool→Prop where
 | lsts {a c:Addr} {xs ys:List V} (e:Nat→Bool) (ha:SqL K H a xs) (hc:SqL K H c ys) (hl:xs.length=ys.length) (h:∀j x y,xs[j]? = some x→ys[j]? = some y→R x y (e j)):TopR K H R (.ref a) (.ref c) ((List.range xs.length).all e)
 | lens {a c:Addr} {xs ys:List V} (ha:SqL K H a xs) (hc:SqL K H c ys) (hl:xs.length≠ys.length):TopR K H R (.ref a) (.ref c) false
 | tups {a c:Addr} {xs ys:List V} (e:Nat→Bool) (ha:SqT K H a xs) (hc:SqT K H c ys) (h:∀j x y,xs[j]? = some x→ys[j]? = some y→R x y (e j)):TopR K H R (.ref a) (.ref c) ((List.range (min xs.length ys.length)).all e && xs.length == ys.length)
def EqD (K:PySem.W.Frag) (H:Hp):Nat→V→V→Bool→Prop
 | 0,x,y,b=>(flatV x=true∧flatV y=true∧b=eqV x y)∨∃a,x = .ref a∧y = .ref a∧b=true
 | n + 1,x,y,b=>((flatV x=true∧flatV y=true∧b=eqV x y)∨∃a,x = .ref a∧y = .ref a∧b=true)∨∃a c,x = .ref a∧y = .ref c∧a≠c∧TopR K H (EqD K H n) x y b
section
variable {X:Cx} {pins:List (Addr × Obj)} {σ:St} {H:Hp} {s:Shared}
theorem items_R {R:V→V→Bool→Prop} {A:Around} {xs ys:List V} {us vs:List Value} {e:Nat→Bool} (hR:∀x y b u v,R x y b→RelV x u→RelV y v→SeqAt.EqAt A s u v b) (r1:Vals xs us) (r2:Vals ys vs) (h:∀j x y,xs[j]? = some x→ys[j]? = some y→R x y (e j)) :
  ∀j (h1:j < us.toArray.size) (h2:j < vs.toArray.size),SeqAt.EqAt A s us.toArray[j] vs.toArray[j] (e j):=fun j h1 h2=>by
 have l1:j < xs.length:=by rw [r1.length]; simpa using h1
 have l2:j < ys.length:=by rw [r2.length]; simpa using h2
 obtain ⟨u,q1,z1⟩:=r1.get (i:=j) (x:=xs[j]) (by simp [l1])
 obtain ⟨v,q2,z2⟩:=r2.get (i:=j) (x:=ys[j]) (by simp [l2])
 have e1:us.toArray[j]=u:=by
  have:us[j]? = some us.toArray[j]:=by simp
  rw [this] at q1; exact Option.some.inj q1
 have e2:vs.toArray[j]=v:=by
  have:vs[j]? = some vs.toArray[j]:=by simp
  rw [this] at q2; exact Option.some.inj q2
 rw [e1,e2]
 exact hR _ _ _ _ _ (h j _ _ (by simp [l1]) (by simp [l2])) z1 z2
theorem top_at {R:V→V→Bool→Prop} {A:Around} {x y:V} {b:Bool} {u v:Value} (I:Inv X pins σ H s) (hu:A.units < cLine) (hR:∀x y b u v,R x y b→RelV x u→RelV y v→SeqAt.EqAt A.in1 s u v b) (h:TopR X.K H R x y b) (rx:RelV x u) (ry:RelV y v):SeqAt.RcAt A s u v b:=by
 cases h with
 | lsts e ha hc hl h=>
  cases rx
  cases ry
  obtain ⟨its,r1,p1,_⟩:=I.list ha
  obtain ⟨its2,r2,p2,_⟩:=I.list hc
  have z:=SeqAt.RcAt.lists (A:=A) p1.isList p2.isList (by rw [List.size_toArray,List.size_toArray,← r1.length,← r2.length]; exact hl) hu (items_R hR r1 r2 h)
  rw [List.size_toArray,← r1.length] at z
  exact z
 | lens ha hc hl=>
  cases rx
  cases ry
  obtain ⟨its,r1,p1,_⟩:=I.list ha
  obtain ⟨its2,r2,p2,_⟩:=I.list hc
  exact SeqAt.RcAt.lists_lengths (A:=A) p1.isList p2.isList (by rw [List.size_toArray,List.size_toArray,← r1.length,← r2.length]; simpa using hl) hu
 | tups e ha hc h=>
  cases rx
  cases ry
  obtain ⟨its,r1,p1,_⟩:=I.tuple ha
  obtain ⟨its2,r2,p2,_⟩:=I.tuple hc
  have z:=SeqAt.RcAt.tuples (A:=A) (show s.heap.IsTuple _ its.toArray from p1) (show s.heap.IsTuple _ its2.toArray from p2) hu (items_R hR r1 r2 h)
  rw [List.size_toArray,List.size_toArray,← r1.length,← r2.length] at z
  exact z
theorem flat_at {A:Around} {x y:V} {b:Bool} {u v:Value} (h:(flatV x=true∧flatV y=true∧b=eqV x y)∨∃a,x = .ref a∧y = .ref a∧b=true) (rx:RelV x u) (ry:RelV y v):SeqAt.EqAt A s u v b:=by
 rcases h with ⟨f1,f2,rfl⟩ | ⟨a,rfl,rfl,rfl⟩
 ·exact eqAt_V rx ry f1 f2
 ·cases rx
  cases ry
  exact SeqAt.EqAt.same _
theorem eqd_at (I:Inv X pins σ H s):∀(n:Nat) (A:Around),A.units + n < cLine→∀(x y:V) (b:Bool) (u v:Value),EqD X.K H n x y b→RelV x u→RelV y v→SeqAt.EqAt A s u v b
 | 0,A,hu,x,y,b,u,v,h,rx,ry=>flat_at h rx ry
 | n + 1,A,hu,x,y,b,u,v,h,rx,ry=>by
  rcases h with h | ⟨a,c,rfl,rfl,ne,h⟩
  ·exact flat_at h rx ry
  ·cases rx
   cases ry
   exact SeqAt.EqAt.of_refs ne (top_at I (by omega) (eqd_at I n A.in1 (by show A.units + 1 + n < cLine; omega)) h rfl rfl)
def rEqD (K:PySem.W.Frag) (neg:Bool):R2:=fun x y H Q=>∃n b,n≤40∧TopR K H (EqD K H n) x y b∧Q (.bl (if neg then !b else b)) H
theorem op_eqD (hu:X.A.units + 60 < cLine):OpR X (compareOp .Eq) (rEqD X.K false):=by
 intro pins s σ H x y v u Q I rx ry h
 obtain ⟨n,b,hn,h,q⟩:=h
 exact top_at I (by omega) (eqd_at I n X.A.in1 (by show X.A.units + 1 + n < cLine; omega)) h rx ry _ _ _ _ ⟨.bl _,H,I,rfl,q⟩
theorem op_neD (hu:X.A.units + 60 < cLine):OpR X (compareOp .NotEq) (rEqD X.K true):=by
 intro pins s σ H x y v u Q I rx ry h
 obtain ⟨n,b,hn,h,q⟩:=h
 have hR:=eqd_at I n X.A.in1 (by show X.A.units + 1 + n < cLine; omega)
 have hu':X.A.units < cLine:=by omega
 cases h with
 | lsts e ha hc hl h=>
  cases rx
  cases ry
  obtain ⟨its,r1,p1,_⟩:=I.list ha
  obtain ⟨its2,r2,p2,_⟩:=I.list hc
  refine SeqAt.RcNeAt.lists (A:=X.A) p1.isList p2.isList (by rw [List.size_toArray,List.size_toArray,← r1.length,← r2.length]; exact hl) hu' (items_R hR r1 r2 h) _ _ _ _ ?_
  rw [List.size_toArray,← r1.length]
  exact ⟨.bl _,H,I,rfl,q⟩
 | lens ha hc hl=>
  cases rx
  cases ry
  obtain ⟨its,r1,p1,_⟩:=I.list ha
  obtain ⟨its2,r2,p2,_⟩:=I.list hc
  exact SeqAt.RcNeAt.lists_lengths (A:=X.A) p1.isList p2.isList (by rw [List.size_toArray,List.size_toArray,← r1.length,← r2.length]; simpa using hl) hu' _ _ _ _ ⟨.bl _,H,I,rfl,q⟩
 | tups e ha hc h=>
  cases rx
  cases ry
  obtain ⟨its,r1,p1,_⟩:=I.tuple ha
  obtain ⟨its2,r2,p2,_⟩:=I.tuple hc
  refine SeqAt.RcNeAt.tuples (A:=X.A) (show s.heap.IsTuple _ its.toArray from p1) (show s.heap.IsTuple _ its2.toArray from p2) hu' (items_R hR r1 r2 h) _ _ _ _ ?_
  rw [List.size_toArray,List.size_toArray,← r1.length,← r2.length]
  exact ⟨.bl _,H,I,rfl,q⟩
end
theorem Room.units60 {k:Nat} {A:Around} (r:Room k A):A.units + 60 < cLine:=by have:=r.un; omega
def HF (q:Program):List Str→Prop
 | []=>True
 | n :: ns=>(∃d,(recsOf q).find? (fun e=>e.name == n)=some d)∧HF q ns
def HC (K:PySem.W.Frag):List Str→Prop
 | []=>True
 | n :: ns=>(∃f c T fd,CodeN K n f c T fd)∧HC K ns
def HT0 (K:PySem.W.Frag):List Str→Prop
 | []=>True
 | n :: ns=>K.lookup (tbOf K n)=none∧HT0 K ns
theorem HF.mem {q:Program}:∀{ns:List Str},HF q ns→∀n∈ns,∃d,(recsOf q).find? (fun e=>e.name == n)=some d
 | [],_,n,h=>nomatch h
 | _ :: _,h,n,hn=>by
  rcases List.mem_cons.mp hn with rfl | hn
  ·exact h.1
  ·exact HF.mem h.2 n hn
theorem HC.mem {K:PySem.W.Frag}:∀{ns:List Str},HC K ns→∀n∈ns,∃f c T fd,CodeN K n f c T fd
 | [],_,n,h=>nomatch h
 | _ :: _,h,n,hn=>by
  rcases List.mem_cons.mp hn with rfl | hn
  ·exact h.1
  ·exact HC.mem h.2 n hn
theorem HT0.mem {K:PySem.W.Frag}:∀{ns:List Str},HT0 K ns→∀n∈ns,K.lookup (tbOf K n)=none
 | [],_,n,h=>nomatch h
 | _ :: _,h,n,hn=>by
  rcases List.mem_cons.mp hn with rfl | hn
  ·exact h.1
  ·exact HT0.mem h.2 n hn
theorem walk_ofN (names:List Str) {l:PySem.W.OpenLaw} {n k:Nat} {q:Program} {loose:List Str} {XP:(Str→Option Value)→Heap→Prop} {YP:World→Heap→Prop} {d:DefRec} {K:Params→PySem.W.Frag} {CX:World→CXT} {sp:World→Sp} {x:Str}
  (hn:l.most=some n) (hn2:n≤sizeLine) (hdf:d.params.defaults=[]) (hr:Room k callerA)
  (hY:∀(w:World) (h:Heap),YP w h→(K w.params).In h) (hf:HF q names) (hC:∀w:World,HC (K w.params) names) (hKT:∀w:World,HT0 (K w.params) names)
  (F:∀(w:World) (mg:Str→Option Value) (fa:Addr) (h:Heap),(K w.params).In h→h.Ns mainGlobals mg→mg d.name=some (.ref fa)→
   ∃fd:FuncData,(∀(s:Shared) (u:Value),BindsTo s fd ⟨[u],[]⟩ [(x,u)])∧
    ∀base:Heap,(K w.params).In base→base.Ns mainGlobals mg→BmOf mg base→FnOk l.prog w (K w.params) mg base (CX w) k fa fd [x] (sp w))
  (hsp:∀(w:World) (H:Hp) (a:Addr) (ns:List Int),ns.length≤n→(∀m∈names,H (tbOf (K w.params) m)=some (.tbl #[]))→SqL (K w.params) H a (ns.map V.int)→sp w [.ref a] H (fun v _=>v = .bl true) fun _ _ _=>False)
  (hCX:∀(w:World) (H:Hp) (s:Shared) (e:Value) (s':Shared),CX w [] H s (fun _ _ _=>False) e s'→False) :
  PySem.W.WalkO q loose XP YP l.row.toRowW d [] (fun f vs=>PySem.call f vs):=by
 refine walk_ofT (Ts:=fun w=>names.map fun m=>(cdOf (K w.params) m,tbOf (K w.params) m)) hn hn2 hdf hr hY ?_ ?_ F ?_ hCX
 ·intro w h lo mean mg mb KX Tp t ht
  obtain ⟨m,hm,rfl⟩:=List.mem_map.mp ht
  obtain ⟨f,c,T,fd,C⟩:=(hC w).mem m hm
  obtain ⟨d,hd⟩:=hf.mem m hm
  exact C.tab KX Tp hd
 ·intro w t ht
  obtain ⟨m,hm,rfl⟩:=List.mem_map.mp ht
  exact (hKT w).mem m hm
 ·intro w H a ns hl hO hS
  exact hsp w H a ns hl (fun m hm=>hO.tab _ (List.mem_map.mpr ⟨m,hm,rfl⟩)) hS
section
variable {κ:Type} [DecidableEq κ]
def valV (kvs:List (κ × V)) (k:κ):Option V:=(kvs.find? fun kv=>decide (kv.1=k)).map (·.2)
def putK (kvs:List (κ × V)) (k:κ) (v:V):List (κ × V):=
 if (kvs.any fun kv=>decide (kv.1=k))=true then kvs.map (fun kv=>if kv.1=k then (kv.1,v) else kv) else kvs ++ [(k,v)]
theorem valV_pos {p:κ × V} {r:List (κ × V)} {k:κ} (e:p.1=k):valV (p :: r) k=some p.2:=by simp [valV,List.find?_cons,e]
theorem valV_neg {p:κ × V} {r:List (κ × V)} {k:κ} (e:¬p.1=k):valV (p :: r) k=valV r k:=by simp [valV,List.find?_cons,e]
theorem valV_any (k:κ):∀kvs:List (κ × V),(kvs.any fun kv=>decide (kv.1=k))=(valV kvs k).isSome
 | []=>rfl
 | p :: r=>by
  rw [List.any_cons]
  by_cases e:p.1=k
  ·simp only [valV_pos e,decide_eq_true e,Bool.true_or,Option.isSome_some]
  ·rw [valV_neg e,decide_eq_false e,Bool.false_or]; exact valV_any k r
theorem valV_map (k j:κ) (y:V):∀kvs:List (κ × V),valV (kvs.map fun kv=>if kv.1=k then (kv.1,y) else kv) j=(valV kvs j).map fun x=>if j=k then y else x
 | []=>rfl
 | p :: r=>by
  have ih:=valV_map k j y r
  rw [List.map_cons]
  by_cases h:p.1=k
  ·rw [if_pos h]
   by_cases e:p.1=j
   ·rw [valV_pos (p:=(p.1,y)) e,valV_pos e,Option.map_some,if_pos (e.symm.trans h)]
   ·rw [valV_neg (p:=(p.1,y)) e,valV_neg e,ih]
  ·rw [if_neg h]
   by_cases e:p.1=j
   ·rw [valV_pos (p:=p) e,valV_pos e,Option.map_some,if_neg (fun z=>h (e.trans z))]
   ·rw [valV_neg (p:=p) e,valV_neg e,ih]
theorem valV_snoc (k j:κ) (y:V):∀kvs:List (κ × V),valV kvs k=none→valV (kvs ++ [(k,y)]) j=if j=k then some y else valV kvs j
 | [],_=>by
  by_cases e:k=j
  ·rw [if_pos e.symm]; exact valV_pos (p:=(k,y)) e
  ·rw [if_neg (fun z=>e z.symm)]; exact valV_neg (p:=(k,y)) e
 | p :: r,hn=>by
  rw [List.cons_append]
  have hk:¬p.1=k:=fun z=>by rw [valV_pos z] at hn; cases hn
  rw [valV_neg hk] at hn
  have ih:=valV_snoc k j y r hn
  by_cases e:p.1=j
  ·rw [valV_pos e,valV_pos e,if_neg (fun z=>hk (e.trans z))]
  ·rw [valV_neg e,valV_neg e,ih]
theorem valV_put (kvs:List (κ × V)) (k j:κ) (y:V):valV (putK kvs k y) j=if j=k then some y else valV kvs j:=by
 unfold putK
 by_cases a:(kvs.any fun kv=>decide (kv.1=k))=true
 ·rw [if_pos a,valV_map]
  rw [valV_any] at a
  by_cases e:j=k
  ·obtain ⟨x,hx⟩:=Option.isSome_iff_exists.mp a
   rw [if_pos e,e,hx,Option.map_some,if_pos rfl]
  ·rw [if_neg e]
   cases valV kvs j with
   | none=>rfl
   | some x=>rw [Option.map_some,if_neg e]
 ·rw [if_neg a]
  refine valV_snoc k j y kvs ?_
  rw [valV_any] at a
  cases q:valV kvs k with
  | none=>rfl
  | some x=>rw [q] at a; exact (a rfl).elim
theorem length_putK (kvs:List (κ × V)) (k:κ) (v:V):(putK kvs k v).length≤kvs.length + 1:=by
 unfold putK
 split
 ·rw [List.length_map]; omega
 ·rw [List.length_append,List.length_cons,List.length_nil]; omega
theorem putK_new {kvs:List (κ × V)} {k:κ} (v:V) (h:valV kvs k=none):putK kvs k v=kvs ++ [(k,v)]:=by
 unfold putK
 rw [valV_any,h]
 exact if_neg (by decide)
theorem KV.val {kvs:List (κ × V)} {vs:List (κ × Value)} (r:KV kvs vs) (k:κ):RelO (valV kvs k) (valueAt vs k):=by
 unfold KV at r
 induction r with
 | nil=>exact True.intro
 | @cons p q ps qs h t ih=>
  obtain ⟨h1,h2⟩:=h
  by_cases e:p.1=k
  ·have e':q.1=k:=h1.symm.trans e
   have b:valueAt (q :: qs) k=some q.2:=by simp [valueAt,List.find?_cons,e']
   rw [valV_pos e,b]; exact h2
  ·have e':¬q.1=k:=fun z=>e (h1.trans z)
   have b:valueAt (q :: qs) k=valueAt qs k:=by simp [valueAt,List.find?_cons,e']
   rw [valV_neg e,b]; exact ih
theorem KV.any {kvs:List (κ × V)} {vs:List (κ × Value)} (r:KV kvs vs) (k:κ):(kvs.any fun kv=>decide (kv.1=k))=vs.any fun kv=>decide (kv.1=k):=by
 unfold KV at r
 induction r with
 | nil=>rfl
 | cons h t ih=>rw [List.any_cons,List.any_cons,ih,h.1]
theorem KV.repl {kvs:List (κ × V)} {vs:List (κ × Value)} (r:KV kvs vs) (k:κ) {y:V} {u:Value} (ry:RelV y u) :
  KV (kvs.map fun kv=>if kv.1=k then (kv.1,y) else kv) (vs.map fun kv=>if kv.1=k then (kv.1,u) else kv):=by
 unfold KV at r ⊢
 induction r with
 | nil=>exact .nil
 | @cons p q ps qs h t ih=>
  rw [List.map_cons,List.map_cons]
  refine .cons ?_ ih
  obtain ⟨h1,h2⟩:=h
  by_cases e:p.1=k
  ·rw [if_pos e,if_pos (h1.symm.trans e)]; exact ⟨h1,ry⟩
  ·rw [if_neg e,if_neg (fun z=>e (h1.trans z))]; exact ⟨h1,h2⟩
theorem KV.put {kvs:List (κ × V)} {vs:List (κ × Value)} (r:KV kvs vs) (k:κ) {y:V} {u:Value} (ry:RelV y u):KV (putK kvs k y) (stored vs k u):=by
 unfold putK stored
 rw [r.any k]
 by_cases e:(vs.any fun kv=>decide (kv.1=k))=true
 ·rw [if_pos e,if_pos e]; exact r.repl k ry
 ·rw [if_neg e,if_neg e]; exact Paired.snoc r ⟨rfl,ry⟩
theorem KV.length {kvs:List (κ × V)} {vs:List (κ × Value)} (r:KV kvs vs):kvs.length=vs.length:=Paired.length r
end
theorem kV_is {P:Program} {w:World} {k:Key} {u:Value} (r:RelV (kV k) u):(mixKind P w).is k u=true:=by
 cases k with
 | inl i=>obtain ⟨t,e⟩:=(show ∃t,u=Value.int i t from r); subst e; exact mixKind_int P w i t
 | inr x=>obtain ⟨t,e⟩:=(show ∃t,u=Value.str x t from r); subst e; exact mixKind_str P w x t
theorem items_are {P:Program} {w:World}:∀{ks:List Key} {us:List Value},Vals (ks.map kV) us→ItemsAre (mixKind P w) ks us
 | [],_,r=>by rw [List.map_nil] at r; cases r; exact .nil
 | k :: ks,_,r=>by
  rw [List.map_cons] at r
  cases r with
  | cons h t=>exact .cons (kV_is h) (items_are t)
abbrev KT (H:Hp):List (List Key × V)→List (List Key × Addr × Value)→Prop:=Paired fun p q=>p.1=q.1∧H q.2.1=some (.tup (p.1.map kV))∧RelV p.2 q.2.2
theorem KT.val {H:Hp} {kvs:List (List Key × V)} {xs:List (List Key × Addr × Value)} (r:KT H kvs xs) (k:List Key):RelO (valV kvs k) ((atKey xs k).map (·.2)):=by
 induction r with
 | nil=>exact True.intro
 | @cons p q ps qs h t ih=>
  obtain ⟨h1,_,h2⟩:=h
  by_cases e:p.1=k
  ·have e':q.1=k:=h1.symm.trans e
   have b:atKey (q :: qs) k=some q.2:=by simp [atKey,List.find?_cons,e']
   rw [valV_pos e,b]; exact h2
  ·have e':¬q.1=k:=fun z=>e (h1.trans z)
   have b:atKey (q :: qs) k=atKey qs k:=by simp [atKey,List.find?_cons,e']
   rw [valV_neg e,b]; exact ih
section
variable {P:Program} {w:World} {H:Hp} {h:Heap} {a:Addr}
theorem rd_of {u:HO} (ok:HOk P w H h) (e:Rd H a u):ObjOk P w H h a u:=e.ok ok
theorem dk_rd {kvs:List (Key × V)} (ok:HOk P w H h) (e:Rd H a (.dK kvs)):kvs.length≤sizeLine∧(a == sysModules)=false∧∃vs,KV kvs vs∧h.DictOf (mixKind P w) a vs:=
 show ObjOk P w H h a (.dK kvs) from rd_of ok e
theorem dk_of {kvs:List (Key × V)} (ok:HOk P w H h) (e:H a=some (.dK kvs)):kvs.length≤sizeLine∧(a == sysModules)=false∧∃vs,KV kvs vs∧h.DictOf (mixKind P w) a vs:=dk_rd ok (.inl e)
theorem key_of {ks:List Key} (ok:HOk P w H h) (e:H a=some (.tup (ks.map kV))):(tupleKind (mixKind P w)).is h ks a:=by
 obtain ⟨_,its,r,o,h1,h2,n,h3⟩:=(show ObjOk P w H h a (.tup (ks.map kV)) from ok a _ e)
 exact ⟨o,its.toArray,n,h1,h2,h3,by simpa using items_are r⟩
theorem dt_rd {kvs:List (List Key × V)} (ok:HOk P w H h) (e:Rd H a (.dT kvs)):kvs.length≤sizeLine∧(a == sysModules)=false∧
  ∃xs,KT H kvs xs∧h.DictOfH (tupleKind (mixKind P w)) a xs:=by
 obtain ⟨z,y,xs,r,o,es,ep,h1,h2,h3,h4,h5⟩:=(show ObjOk P w H h a (.dT kvs) from rd_of ok e)
 refine ⟨z,y,xs,r,o,es,ep,h1,h2,h3,h4,fun x hx=>?_,h5⟩
 have all:∀{l:List (List Key × V)} {m:List (List Key × Addr × Value)},KT H l m→∀x∈m,(tupleKind (mixKind P w)).is h x.1 x.2.1:=by
  intro l m q
  induction q with
  | nil=>intro x hx; exact nomatch hx
  | @cons p q ps qs hq t ih=>
   intro x hx
   rcases List.mem_cons.mp hx with e | hx
   ·subst e
    exact key_of ok (by rw [← hq.1]; exact hq.2.1)
   ·exact ih x hx
 exact all r x hx
end
def DGet (H:Hp) (a:Addr) (y:V) (r:Option V):Prop:=
 (∃kvs k,Rd H a (.dK kvs)∧y=kV k∧r=valV kvs k)∨∃kvs k b,Rd H a (.dT kvs)∧y = .ref b∧H b=some (.tup (k.map kV))∧r=valV kvs k
theorem DGet.k {H:Hp} {a:Addr} {kvs:List (Key × V)} {k:Key} (e:H a=some (.dK kvs)):DGet H a (kV k) (valV kvs k):=.inl ⟨kvs,k,.inl e,rfl,rfl⟩
section
variable {X:Cx} {pins:List (Addr × Obj)} {σ:St} {H:Hp} {s:Shared} {a:Addr} {y v:V} {u r:Value} {o:Option V} {A:Around} {E:Value→Shared→Prop}
theorem d_getItem {Q:Value→Shared→Prop} (hu:A.units + 1 < cLine) (I:Inv X pins σ H s) (g:DGet H a y (some v)) (ry:RelV y u) (h:∀w' s',Inv X pins σ H s'→RelV v w'→Q w' s') :
  wpAny (model X.prog X.w) A (getItem (.ref a) u) Q E s:=by
 rcases g with ⟨kvs,k,e,ey,l⟩ | ⟨kvs,k,b,e,ey,eb,l⟩
 ·subst ey
  obtain ⟨z,hd,vs,rel,dd⟩:=dk_rd I.hok e
  obtain ⟨w',hw,rw'⟩:=RelO.some_of (v:=v) (o:=valueAt vs k) (by rw [l]; exact rel.val k)
  exact wpAny_getItem_of (kV_is ry) dd.mapOf hw (h w' _ (I.tok _) rw')
 ·subst ey
  cases (show u=Value.ref b from ry)
  obtain ⟨z,hd,xs,rel,dd⟩:=dt_rd I.hok e
  obtain ⟨w',hw,rw'⟩:=RelO.some_of (v:=v) (o:=(atKey xs k).map (·.2)) (by rw [l]; exact rel.val k)
  obtain ⟨p,hp,hp2⟩:=Option.map_eq_some_iff.mp hw
  refine wpAny_getItem_heap (tupleKind_room_in1 hu) (key_of I.hok eb) dd hp ?_
  rw [hp2]
  exact h w' _ (I.tok _) rw'
theorem d_write {h':Heap} {t':Nat} {ob:HO} (I:Inv X pins σ H s) (mu:Mut (H a)) (hs:Heap.SameBut a s.heap h') (he:∃q,h'.get? a=some q) (new:ObjOk X.prog X.w (upd H a ob) h' a ob) :
  Inv X pins σ (upd H a ob) {s with heap:=h',toks:=t'}:=
 I.write (x:=a) (e:=a) mu (.inl rfl) (fun b q hb z=>(hs.2 b hb).trans z) he new
theorem dk_new {P:Program} {w:World} {H':Hp} {h':Heap} {kvs:List (Key × V)} {vs:List (Key × Value)} (z:kvs.length≤sizeLine) (hd:(a == sysModules)=false) (rel:KV kvs vs) (dd:h'.DictOf (mixKind P w) a vs) :
  ObjOk P w H' h' a (.dK kvs):=⟨z,hd,vs,rel,dd⟩
end
section
variable {X:Cx} {pins:List (Addr × Obj)} {σ:St} {H:Hp} {s:Shared} {a:Addr} {kvs:List (Key × V)} {k:Key} {u:Value} {A:Around} {E:Value→Shared→Prop}
end
def NoSl (i:Expr):Prop:=∀ov iv,subscripted i false ov iv=operate [ov,iv] (getItem ov iv)
theorem subD_of {prog:Program} {w:World} {A:Around} {E:Value→Shared→Prop} {s:Shared} {env:Env} {value slice:Expr} {pos:Pos} {T id:String} {Q:Value→Shared→Prop}
  (hl:typeLookup (.type T) "__getitem__" = pure (some (.builtin id))) (hs:NoSl slice)
  (h:wpAny (model prog w) A (eval value env) (fun o s₁=>wpAny (model prog w) A (eval slice env) (fun i s₂=>s₂.TypeIs o T∧wpAny (model prog w) A (getItem o i) Q E s₂) E s₁) E s) :
  wpAny (model prog w) A (eval (.Subscript value slice pos) env) Q E s:=by
 refine Subscript_ (wpAny_mono h (fun o s₁ h₁=>wpAny_mono h₁ (fun i s₂ h₂=>?_) fun _ _ x=>x) fun _ _ x=>x)
 obtain ⟨hT,h₂⟩:=h₂
 unfold subscriptTail
 refine wpAny_bind ?_
 rw [getitemInPython_of_ne hT.not_modules]
 refine wpAny_bind (wpAny_specialOf hT hl ?_)
 have fin:wpAny (model prog w) A (subscripted slice false o i) (fun r s₃=>wpAny (model prog w) A (letTemporaryGo value o r >>= fun _=>pure r) Q E s₃) E s₂:=by
  rw [hs o i]
  exact wpAny_operating (wpAny_mono h₂ (fun r s₃ h₃=>wpAny_bind (wpAny_letTemporaryGo (wpAny_pure h₃))) fun _ _ x=>x)
 first
  | exact wpAny_pure (wpAny_bind fin)
  | exact wpAny_bind (wpAny_pure (wpAny_bind fin))
  | exact wpAny_bind fin
theorem dict_typeIs {X:Cx} {pins:List (Addr × Obj)} {σ:St} {H:Hp} {s:Shared} {a:Addr} {y:V} {o:Option V} (I:Inv X pins σ H s) (g:DGet H a y o):s.TypeIs (.ref a) "dict":=by
 rcases g with ⟨kvs,k,e,_,_⟩ | ⟨kvs,k,b,e,_,_,_⟩
 ·obtain ⟨_,_,vs,_,dd⟩:=dk_rd I.hok e
  exact dd.typeIs
 ·obtain ⟨_,_,xs,_,dd⟩:=dt_rd I.hok e
  exact dd.typeIs
def tDGet (td ty:TE):TE:=fun σ H Q=>td σ H fun x H1=>ty σ H1 fun y H2=>∃a v,x = .ref a∧DGet H2 a y (some v)∧Q v H2
section
variable {X:Cx} {o i e value:Expr} {pos pos' tpos:Pos} {td ty tv:TE}
theorem pe_dget (hu:X.A.units + 1 < cLine) (ho:PE X o td) (hi:PE X i ty) (hs:NoSl i):PE X (.Subscript o i pos) (tDGet td ty):=by
 intro pins s σ H Q I h
 refine subD_of PySem.F.slot_dict_getitem.lookup hs (thn (ho pins s σ H _ I h) fun u s1 ⟨x,H1,I1,rx,q1⟩=>thn (hi pins s1 σ H1 _ I1 q1) fun iv s2 ⟨y,H2,I2,ry,a,v,ex,g,q2⟩=>?_)
 subst ex
 obtain rfl:u=Value.ref a:=rx
 exact ⟨dict_typeIs I2 g,d_getItem hu I2 g ry fun w' s3 I3 rw'=>⟨v,H2,I3,rw',q2⟩⟩
end
section
variable {X:Cx} {pos:Pos}
end
section
variable {X:Cx} {pins:List (Addr × Obj)} {σ:St} {H:Hp} {s:Shared} {a:Addr} {y d:V} {u r:Value} {o:Option V} {A:Around} {E:Value→Shared→Prop}
end
section
variable {X:Cx} {o e f:Expr} {apos cpos:Pos} {td ty tx:TE}
end
section
variable {X:Cx} {pins:List (Addr × Obj)} {σ:St} {H:Hp} {s:Shared} {a:Addr} {kvs:List (Key × V)} {A:Around} {E:Value→Shared→Prop}
end
section
variable {X:Cx} {pins:List (Addr × Obj)} {σ:St} {H:Hp} {s:Shared} {a:Addr} {y:V} {u:Value} {A:Around} {E:Value→Shared→Prop}
end
section
variable {κ:Type} [DecidableEq κ]
end
def cutS (z:Str) (lo hi:Option Int):Str:=⟨((z.cps.toList.drop (HT.sIx z.length 0 lo)).take (HT.sIx z.length z.length hi - HT.sIx z.length 0 lo)).toArray⟩
theorem sIx_le (n d:Nat) (hd:d≤n) (v:Option Int):HT.sIx n d v≤n:=by
 cases v with
 | none=>exact hd
 | some i=>
  show (if i < 0 then (i + (n:Int)).toNat else min i.toNat n)≤n
  by_cases h:i < 0
  ·rw [if_pos h]; omega
  ·rw [if_neg h]; omega
theorem pick_cut (z:Str) (lo hi:Option Int):(Builtin.Str.strSliceIndices lo hi 1 z.length).filterMap (z.cps[·]?)=(z.cps.toList.drop (HT.sIx z.length 0 lo)).take (HT.sIx z.length z.length hi - HT.sIx z.length 0 lo)∧
  (Builtin.Str.strSliceIndices lo hi 1 z.length).length=HT.sIx z.length z.length hi - HT.sIx z.length 0 lo:=by
 obtain ⟨h1,h2,h3⟩:=slice_bounds lo hi z.length
 have e:Builtin.Str.strSliceIndices lo hi 1 z.length=sliceRange (sliceBounds lo hi none z.length).1 (sliceBounds lo hi none z.length).2.1 (sliceBounds lo hi none z.length).2.2:=rfl
 rw [e,h1,h2,h3,sliceRange_one]
 exact ⟨pick_run _ _ _,by simp⟩
theorem cutS_len (z:Str) (lo hi:Option Int):(cutS z lo hi).length≤z.length:=by
 unfold cutS Str.length
 simp
 omega
section
variable {X:Cx}
theorem part_of {v:Value} {o:Option Int} (h:IsPart v o):∃p:Option (Int × Tok),v=partValue p∧p.map (·.1)=o:=by
 cases h with
 | none=>exact ⟨none,rfl,rfl⟩
 | int i t=>exact ⟨some (i,t),rfl,rfl⟩
def rSlS:V→Option Int→Option Int→Hp→VK→Prop:=fun x lo hi H Q=>∃z,x = .str z∧z.length≤sizeLine∧Q (.str (cutS z lo hi)) H
theorem sl_str:SlR X rSlS:=by
 intro pins s σ H x v vl vu lo hi sl Q I rx hs pl pu h
 obtain ⟨z,rfl,hz,q⟩:=h
 obtain ⟨t,rfl⟩:=rx
 obtain ⟨l,rfl,el⟩:=part_of pl
 obtain ⟨u,rfl,eu⟩:=part_of pu
 subst el eu
 refine ⟨"str",_,PySem.F.slot_str_getitem.lookup,typeIs_str s z t,?_⟩
 refine wpAny_getItem_str_slice (l:=l) (u:=u) (st:=none) hs rfl ?_
 obtain ⟨p1,p2⟩:=pick_cut z (l.map (·.1)) (u.map (·.1))
 have pk:slicePicked z l u none=Builtin.Str.strSliceIndices (l.map (·.1)) (u.map (·.1)) 1 z.length:=rfl
 unfold sliceMade
 rw [pk]
 split
 ·rename_i hh
  have len:(Builtin.Str.strSliceIndices (l.map (·.1)) (u.map (·.1)) 1 z.length).length=z.length:=by
   have:=(Bool.and_eq_true _ _ ▸ hh:_∧_).2
   exact eq_of_beq this
  have e:cutS z (l.map (·.1)) (u.map (·.1))=z:=by
   rw [p2] at len
   unfold cutS
   rw [len]
   have sz:z.cps.toList.length=z.length:=by simp [Str.length]
   by_cases h0:z.length=0
   ·have:z.cps.toList=[]:=List.length_eq_zero_iff.mp (by rw [sz]; exact h0)
    rw [this,h0]
    cases z with
    | mk c=>
     have:c = #[]:=Array.size_eq_zero_iff.mp h0
     rw [this]; rfl
   ·have hb:HT.sIx z.length z.length (u.map (·.1))≤z.length:=sIx_le _ _ (Nat.le_refl _) _
    have ha:HT.sIx z.length 0 (l.map (·.1))=0:=by omega
    rw [ha,List.drop_zero,List.take_of_length_le (by omega)]
  rw [e] at q
  exact ⟨.str z,H,I,⟨t,rfl⟩,q⟩
 ·rw [p1]
  exact ⟨by
   show ((List.take _ (List.drop _ z.cps.toList)).toArray).size≤_
   have:=cutS_len z (l.map (·.1)) (u.map (·.1))
   exact Nat.le_trans this hz,.str _,H,I.tok _,⟨_,rfl⟩,q⟩
end
theorem new_dict {X:Cx}:NewRule X newDict (fun _=>.dK []):=by
 intro pins s σ H E Q I h
 refine wpAny_newObj_type ?_
 have new:ObjOk X.prog X.w (upd H s.heap.objs.size (.dK [])) (s.heap.push {cls:=.type "dict",data:=.dict #[]}) s.heap.objs.size (.dK []):=
  ⟨Nat.zero_le _,beq_eq_false_iff_ne.mpr (Ne.symm (Nat.ne_of_lt I.above)),[],.nil,Heap.DictOf.new s.heap⟩
 exact h _ (fun b o e=>Heap.get?_push_of_some _ e) (I.laid (t':=s.toks) (fun b u e=>Heap.get?_push_of_some _ e) (Nat.le_refl _) new)
def dictBody (kx vx:Expr) (D:Addr) (env:Env) (k:Sem Fi):Sem Fi:=(do
 let kv ← eval kx env
 let vv ← holding [kv] (eval vx env)
 standAt {kx.pos with endLine:=vx.pos.endLine,endCol:=vx.pos.endCol}
 holding [kv,vv] (dictSet D kv vv)) >>= fun _=>k
def tEmD (D:Addr) (tk tv:TE):TB:=fun σ H N=>tk σ H fun y H1=>tv σ H1 fun v H2=>∃k kvs,y=kV k∧H2 D=some (.dK kvs)∧kvs.length < sizeLine∧N σ (upd H2 D (.dK (putK kvs k v)))
theorem pb_dict {Y:Cx} {kx vx:Expr} {tk tv:TE} {D:Addr} (hx:Y.xe=F0) (hk:PE Y kx tk) (hv:PE Y vx tv):PB Y (dictBody kx vx D Y.env) (tEmD D tk tv):=by
 intro pins s σ H N k R I h hh
 have a1:=hk pins s σ H _ I h
 rw [hx] at a1
 refine wpAny_bind (wpAny_bind (of_F0 a1 fun u s1 ⟨y,H1,I1,ry,q1⟩=>wpAny_bind (wpAny_holding ?_)))
 have a2:=hv pins s1 σ H1 _ I1 q1
 rw [hx] at a2
 refine of_F0 a2 fun r s2 ⟨v,H2,I2,rv,kk,kvs,ey,hD,hz,n2⟩=>wpAny_bind (wpAny_standAt (wpAny_holding ?_))
 subst ey
 obtain ⟨z,hd,vs,rel,dd⟩:=dk_of I2.hok hD
 have hz':vs.length≤sizeLine:=by rw [← rel.length]; exact z
 have hl:(putK kvs kk v).length≤sizeLine:=by have:=length_putK kvs kk v; omega
 refine wpAny_dictSet_pairs (hsz:=hz') (kV_is ry) dd fun h' dd' hs=>?_
 have he:∃q,h'.get? D=some q:=let ⟨q,_,_,hq,_⟩:=dd'; ⟨q,hq⟩
 exact hh σ _ _ (d_write I2 (by rw [hD]; exact True.intro) hs he (dk_new hl hd (rel.put kk rv) dd')) n2
section
variable {X:Cx} {kx vx tg iter:Expr} {ifs:List Expr} {scope esc:Scope} {pos:Pos} {N os:List Str} {fi:List Nat} {wi:TI} {g:TG} {tt:TT} {tk tv:TE}
theorem pe_dictcomp (hc:X.calm=true) (hN:X.N=N) (he:X.env.scope=esc) (B:BlkOk esc scope N fi) (hi:PI X tg iter wi)
  (hg:∀s H fp,PG (blk X scope (nB N os fi) s H fp) tg g) (ht:∀s H fp,PTs (blk X scope (nB N os fi) s H fp) ifs tt)
  (hk:∀s H fp,PE (blk X scope (nB N os fi) s H fp) kx tk) (hv:∀s H fp,PE (blk X scope (nB N os fi) s H fp) vx tv)
  (hs:∀x,foldedSetIterable iter X.env x=pure x:=by intro _; rfl) :
  PE X (.DictComp kx vx [⟨tg,iter,ifs,0⟩] scope pos) (tCG (fun _=>.dK []) os fi wi g tt fun D=>tEmD D tk tv):=
 pe_compG (gs:=[]) (body:=fun D env=>dictBody kx vx D env) rfl rfl hc hN he B loop_dict (start_dict rfl rfl) (fun _ _ _=>rfl) new_dict hi hg ht (fun D s H fp=>pb_dict rfl (hk s H fp) (hv s H fp)) hs
end
end L2
namespace PySem
namespace F
end F
section
variable {prog:Program} {w:World} {K:Type} [DecidableEq K] {knd:KeyKind prog w K} {A:Around} {R:Result→Shared→Prop}
end
section
variable {prog:Program} {w:World} {K:Type} [DecidableEq K] {knd:KeyKind prog w K} {A:Around} {E:Value→Shared→Prop} {s:Shared}
end
end PySem
namespace L2
open PySem
section
variable {X:Cx}
end
end L2
namespace L2
open PySem PySem.Spec PyProof.Rows
section
variable {X:Cx}
inductive Shown:V→Str→Prop where
 | int {i:Int} (h:i.natAbs.log2 < 1920):Shown (.int i) (toString i)
 | str {z:Str} (h:z.length≤sizeLine):Shown (.str z) z
 | non:Shown .non "None"
end
end L2
namespace GF
open PySem L2
end GF
namespace L2
open PySem PySem.Spec PyProof.Rows PyProof
end L2
namespace L2
open PySem PySem.Spec PyProof.Rows
section
variable {X:Cx} {pins:List (Addr × Obj)} {σ:St} {H:Hp} {s:Shared} {scope esc:Scope} {os:List Str} {fi:List Nat} {fp:List Addr}
end
section
variable {X:Cx} {e tg iter:Expr} {ifs:List Expr} {scope esc:Scope} {pos:Pos} {N os:List Str} {fi:List Nat} {wi:TI} {g:TG} {tt:TT} {tb:Addr→TB} {body:Addr→Env→Sem Fi→Sem Fi} {o0:Addr→HO} {mk:Sem Value} {p:Pos}
end
section
variable {X:Cx} {elt kx vx tg iter tg2 iter2:Expr} {ifs ifs2:List Expr} {scope esc:Scope} {pos:Pos} {N os:List Str} {fi:List Nat} {wi wi2:TI} {g g2:TG} {tt tt2:TT} {te tk tv:TE}
end
section
variable {X:Cx}
end
section
variable {prog:Program} {w:World} {A:Around} {E:Value→Shared→Prop} {s:Shared}
end
section
variable {X:Cx} {tg:Expr}
end
section
variable {X:Cx} {e tg iter:Expr} {ifs:List Expr} {scope esc:Scope} {pos:Pos} {N os:List Str} {fi:List Nat} {wi:TI} {g:TG} {tt:TT} {tb:Addr→TB} {body:Addr→Env→Sem Fi→Sem Fi} {o0:Addr→HO} {mk:Sem Value} {p:Pos}
theorem ps_compG {gs:List Comprehension} {i:Nat} {y:Str} {py spos p':Pos} (hev:∀use:Option (Value→Sem Unit),True) (hex:exec (.Assign [.Name y py] e spos) X.env=(do standAt spos; let _ ← (do let _ ← comprehension e scope X.env p' mk false (eval iter X.env) (some (assign (.Name y py) X.env))); pure .next)) (hcl:clausesOf e=⟨tg,iter,ifs,0⟩ :: gs) (hc:X.calm=true) (hN:X.N=N) (he:X.env.scope=esc) (B:BlkOk esc scope N fi)
  (hL:LoopRule X.prog X.w X.A e 0) (hS:StartRule X.prog X.w X.A e 0) (hT:∀(it D:Addr) (env:Env),compTurn e 0 (.ref it) (.ref D) env=turnOf tg p ifs (.ref it) env (body D env) (again (.compLoop e 0 (.ref it) (.ref D) env)))
  (hmk:NewRule X mk o0) (hnd:X.N.Nodup) (hy:X.N[i]? = some y) (hl:Loc X.env.scope y) (hi:PI X tg iter wi)
  (hg:∀s H fp,PG (blk X scope (nB N os fi) s H fp) tg g) (ht:∀s H fp,PTs (blk X scope (nB N os fi) s H fp) ifs tt) (hb:∀D s H fp,PB (blk X scope (nB N os fi) s H fp) (body D (blk X scope (nB N os fi) s H fp).env) (tb D))
  (hfn:X.fn y=true∨X.env.scope.names.lookup y=some .local:=by first | exact .inl rfl | exact .inr rfl | assumption)
  (hs:∀x,foldedSetIterable iter X.env x=pure x:=by intro _; rfl):PS X (.Assign [.Name y py] e spos) (fun D σ H=>tCG o0 os fi wi g tt tb σ H fun v H'=>D.nx (σ.set i (some v)) H'):=by
 intro pins s σ H D I h
 have cells:=blk_cells (by rw [hN]; exact B) he I
 rw [hex]
 refine wpAny_bind (wpAny_standAt (wpAny_bind ?_))
 refine wpAny_bind (thn (wpAny_comprehension_free (use:=some (assign (.Name y py) X.env)) (Q:=fun _ s'=>SP X pins D .next s') hcl hs (closure_eq cells) B.kind B.loc (thn (hi pins s σ H _ I h) fun v s1 h1=>thn h1 fun itv s2 h2=>?_)) fun _ _ z=>wpAny_pure (wpAny_pure z))
 obtain ⟨it,fp,tn,J,H2,rfl,I2,T,st2,f2,q2⟩:=h2
 refine comp_coreG (Q:=fun v H'=>D.nx (σ.set i (some v)) H') (RR:=fun acc C=>compPost (model X.prog X.w) X.A X.xe (some (assign (.Name y py) X.env)) (fun _ s'=>SP X pins D .next s') acc C) hc hN he B hL hS hT hmk hg ht hb I2 T st2 f2 q2 ?_
 intro Dl s3 H3 s' σ' H' I3 f3 I' q
 have J':Inv X pins σ H' s':=blk_out I3 f3 I' (Heap.SameBut.refl ..)
 show wpAny _ _ (assign (.Name y py) X.env (.ref Dl)) _ _ s'
 refine wpAny_assign_Name (store_ok2 (v:=.ref Dl) J' hnd hy hl rfl (fun s'' J'' sb=>?_) hfn)
 obtain ⟨a,sb,ha⟩:=sb
 have cL:s3.heap.objs.size≠X.env.locals:=Nat.ne_of_gt I3.lt
 have cC:∀x c,X.env.cells.lookup x=some c→c≠s3.heap.objs.size:=fun x c e=>by
  obtain ⟨v,ic⟩:=I3.cell x c e
  exact Nat.ne_of_lt ic.lt
 have ca:s3.heap.objs.size≠a:=by
  rcases ha with z | z
  ·rw [z]; exact cL
  ·exact (cC _ _ z).symm
 obtain ⟨m,hn,_⟩:=I'.loc
 have hn'':s''.heap.Ns s3.heap.objs.size m:=by
  obtain ⟨o,es,ep,ho,r⟩:=hn
  exact ⟨o,es,ep,(sb.2 _ ca).trans ho,r⟩
 refine ⟨m,hn'',fun h' sb'=>⟨σ.set i (some (.ref Dl)),H',?_,q⟩⟩
 exact J''.turned (t':=s''.toks) (it:=s3.heap.objs.size) (fun b o hb e=>(sb'.2 b hb).trans e) I'.free cL (.inr I3.sz) cC fun p hp=>Nat.ne_of_lt (Heap.lt_size (I3.pin p hp).1)
end
section
variable {X:Cx} {elt kx vx tg iter tg2 iter2:Expr} {ifs ifs2:List Expr} {scope esc:Scope} {pos:Pos} {N os:List Str} {fi:List Nat} {wi wi2:TI} {g g2:TG} {tt tt2:TT} {te tk tv:TE}
theorem pe_compL (hc:X.calm=true) (hN:X.N=N) (he:X.env.scope=esc) (B:BlkOk esc scope N fi) (hi:PI X tg iter wi)
  (hg:∀s H fp,PG (blk X scope (nB N os fi) s H fp) tg g) (ht:∀s H fp,PTs (blk X scope (nB N os fi) s H fp) ifs tt)
  (hel:∀s H fp,PE (blk X scope (nB N os fi) s H fp) elt te)
  (hs:∀x,foldedSetIterable iter X.env x=pure x:=by intro _; rfl) :
  PE X (.ListComp elt [⟨tg,iter,ifs,0⟩] scope pos) (tCG (fun _=>.lst []) os fi wi g tt fun D=>tEmL D te):=
 pe_compG (gs:=[]) (body:=fun D env=>listBody elt (.ref D) env) rfl rfl hc hN he B loop_list (start_list rfl rfl) (fun _ _ _=>rfl) new_list hi hg ht (fun D s H fp=>pb_list rfl (hel s H fp)) hs
theorem ps_compL {i:Nat} {y:Str} {py spos:Pos} (hc:X.calm=true) (hN:X.N=N) (he:X.env.scope=esc) (B:BlkOk esc scope N fi) (hnd:X.N.Nodup) (hy:X.N[i]? = some y) (hl:Loc X.env.scope y) (hi:PI X tg iter wi)
  (hg:∀s H fp,PG (blk X scope (nB N os fi) s H fp) tg g) (ht:∀s H fp,PTs (blk X scope (nB N os fi) s H fp) ifs tt) (hel:∀s H fp,PE (blk X scope (nB N os fi) s H fp) elt te)
  (hsw:swapsWith (.ListComp elt [⟨tg,iter,ifs,0⟩] scope pos) (some (.Name y py)) spos.line X.env=pure true:=by rfl)
  (hfn:X.fn y=true∨X.env.scope.names.lookup y=some .local:=by first | exact .inl rfl | exact .inr rfl | assumption)
  (hs:∀x,foldedSetIterable iter X.env x=pure x:=by intro _; rfl):PS X (.Assign [.Name y py] (.ListComp elt [⟨tg,iter,ifs,0⟩] scope pos) spos) (fun D σ H=>tCG (fun _=>.lst []) os fi wi g tt (fun D=>tEmL D te) σ H fun v H'=>D.nx (σ.set i (some v)) H'):=
 ps_compG (gs:=[]) (body:=fun D env=>listBody elt (.ref D) env) (fun _=>trivial) (exec_Assign_Name_used _ _ _ _ hsw) rfl hc hN he B loop_list (start_list rfl rfl) (fun _ _ _=>rfl) new_list hnd hy hl hi hg ht (fun D s H fp=>pb_list rfl (hel s H fp)) hfn hs
end
theorem lr_list {K:PySem.W.Frag} {S:Addr} {xs:List V} {g:TG} {tt:TT} {tb:TB} {σ:St} {H:Hp} {N:St→Hp→Prop} (Pv:Nat→St→Hp→Prop) (h0:Pv 0 σ H) (hS:∀i σ H,Pv i σ H→SqL K H S xs)
  (step:∀(i:Nat) (x:V) (σ:St) (H:Hp) (C:St→Hp→Prop),xs[i]? = some x→Pv i σ H→(∀σ' H',Pv (i + 1) σ' H'→C σ' H')→g x σ H fun σ4 H4=>tt σ4 H4 fun ok H5=>if ok=true then tb σ4 H5 C else C σ4 H5)
  (fin:∀σ H,Pv xs.length σ H→N σ H):LR (Itl K S) g tt tb σ H N:=by
 refine ⟨fun i m σ H=>m=xs.length - i∧i≤xs.length∧Pv i σ H,⟨_,rfl,Nat.zero_le _,h0⟩,?_⟩
 rintro i m σ2 H2 ⟨rfl,hi,p⟩
 have sq:=hS i σ2 H2 p
 by_cases hlt:i < xs.length
 ·refine .inr ⟨⟨xs,_,sq,List.getElem?_eq_getElem hlt⟩,?_⟩
  rintro x H3 ⟨rfl,hx⟩
  exact step i x σ2 H3 _ (hx _ sq) p fun σ' H' p'=>⟨xs.length - (i + 1),by omega,rfl,hlt,p'⟩
 ·have e:i=xs.length:=by omega
  subst e
  exact .inl ⟨⟨xs,sq,Nat.le_refl _⟩,fin σ2 H2 p⟩
structure Apart5 (z TI TO i1 i2:Addr):Prop where
 TIz:TI≠z
 TOz:TO≠z
 i1z:i1≠z
 i2z:i2≠z
 TITO:TI≠TO
 TIi1:TI≠i1
 TIi2:TI≠i2
 TOi1:TO≠i1
 TOi2:TO≠i2
 i12:i1≠i2
section
variable {prog:Program} {w:World} {A:Around} {E:Value→Shared→Prop} {s:Shared} {z TI TO i1 i2:Addr} {n1 n2 k:Nat} {P1 P2:Nat→Value→Prop} {St1 St2:Nat→Heap→Prop} {fp1 fp2:List Addr} {a b:Value}
end
section
variable {prog:Program} {w:World} {A:Around} {E:Value→Shared→Prop} {s:Shared}
end
theorem apart5 (n:Nat):Apart5 (n + 4) (n + 2) (n + 3) n (n + 1) where
 TIz:=show (n + 2:Nat)≠n + 4 by omega
 TOz:=show (n + 3:Nat)≠n + 4 by omega
 i1z:=show (n:Nat)≠n + 4 by omega
 i2z:=show (n + 1:Nat)≠n + 4 by omega
 TITO:=show (n + 2:Nat)≠n + 3 by omega
 TIi1:=show (n + 2:Nat)≠n by omega
 TIi2:=show (n + 2:Nat)≠n + 1 by omega
 TOi1:=show (n + 3:Nat)≠n by omega
 TOi2:=show (n + 3:Nat)≠n + 1 by omega
 i12:=show (n:Nat)≠n + 1 by omega
theorem Inv.turnedL {X:Cx} {pins:List (Addr × Obj)} {σ:St} {H:Hp} {s:Shared} {h':Heap} {t':Nat} {fp:List Addr} (I:Inv X pins σ H s)
  (k:∀b o,b∉fp→s.heap.get? b=some o→h'.get? b=some o) (f:∀b∈fp,FpOk X pins H b):Inv X pins σ H {s with heap:=h',toks:=t'}:=by
 have nit:∀b u,H b=some u→b∉fp:=fun b u q z=>by rw [(f b z).1] at q; cases q
 refine I.step (g':=s.gens) (d':=s.drawn) (ch:=fp) (fun b hb=>?_) (fun b o _ _ hc q _=>k b o hc q) (fun b o _ _ hc q _=>⟨o.slots,k b o hc q⟩) (fun _ _ _ _ n=>n)
  (fun b o hc q=>⟨o,k b o hc q⟩) (fun _ _ q=>q) (fun _ _ _ q=>q) (fun b ps q=>⟨#[],by rw [q]; simp⟩) (fun m hm=>?_) (fun b u q=>?_) I.bare
 ·exact ⟨(f b hb).2.2.2.1,(f b hb).2.1,(f b hb).2.2.2.2.1,(f b hb).2.2.2.2.2⟩
 ·obtain ⟨o,es,ep,ho,r⟩:=hm
  exact ⟨o,es,ep,k _ o (fun z=>(f _ z).2.1 rfl) ho,r⟩
 ·refine (I.hok b u q).stay (fun c v hc r=>?_) (fun _ r=>r) fun _ _ r=>r
  rcases hc with z | z
  ·rw [z] at r ⊢; exact k b v (nit b u q) r
  ·exact k c v (nit c _ z) r
section
variable {X:Cx} {es:List Expr} {tk:Nat} {tpos:Pos}
end
section
variable {X:Cx} {tg:Expr}
end
section
variable {X:Cx}
theorem mt_index:MtR X "list.index" (fun x vs H Q=>∃(l:Addr) (xs:List V) (y:V) (j:Nat),x = .ref l∧vs=[y]∧SqL X.K H l xs∧xs.all flatV=true∧flatV y=true∧(∃z,xs[j]? = some z∧eqV z y=true)∧(∀(m:Nat) (z:V),m < j→xs[m]? = some z→eqV z y=false)∧Q (.int j) H):=by
 intro pins s σ H x xs v us Q I rx rv h
 obtain ⟨l,xs,y,j,rfl,rfl,hq,fx,fy,⟨z,hz,ez⟩,no,q⟩:=h
 cases rx
 obtain ⟨u,rfl,ru⟩:=vals1 rv
 obtain ⟨its,r,p,hsz⟩:=I.list hq
 obtain ⟨⟨cls,dd,data,sl⟩,ho,hc,n,hd⟩:=id p.isList
 simp only at hc hd
 subst hc hd
 have jl:j < xs.length:=(List.getElem?_eq_some_iff.mp hz).1
 have il:its.length=xs.length:=r.length.symm
 obtain ⟨u1,hu1,ru1⟩:=r.get hz
 have hj:j < its.toArray.size:=by rw [List.size_toArray]; omega
 refine call_meets PySem.F.slot_list_index ⟨_,ho,rfl⟩ PySem.F.entry_list_index (PySem.F.args_list_index_2 _ _)
  (SeqAt.list_indexAt l its.toArray n dd sl u (eqU y) j hj ?_ ?_ ?_) ⟨ho,fun w hw=>mem_eqAt ru fy r fx w (by simpa using hw),?_⟩
 ·have:xs.length≤sizeLine:=hsz
  have:sizeLine < 2 ^ 63 - 1:=by decide
  omega
 ·show eqU y its[j]=true
  have e:its[j]'(by omega)=u1:=by
   have:=List.getElem?_eq_getElem (l:=its) (i:=j) (by omega)
   rw [hu1] at this
   exact (Option.some.inj this).symm
  rw [e,eqU_of ru1 ((List.all_eq_true.mp fx) z (List.mem_of_getElem? hz))]
  exact ez
 ·intro m hm hlt
  have ml:m < xs.length:=by rw [List.size_toArray] at hm; omega
  have hx:xs[m]? = some xs[m]:=List.getElem?_eq_getElem ml
  obtain ⟨u2,hu2,ru2⟩:=r.get hx
  have e:its[m]'(by omega)=u2:=by
   have:=List.getElem?_eq_getElem (l:=its) (i:=m) (by omega)
   rw [hu2] at this
   exact (Option.some.inj this).symm
  show eqU y its[m]=false
  rw [e,eqU_of ru2 ((List.all_eq_true.mp fx) _ (List.mem_of_getElem? hx))]
  exact no m _ hlt hx
 ·exact ⟨.int j,H,I.tok _,⟨_,rfl⟩,q⟩
end
theorem newH {H:Hp} {a:Addr} {o:HO} {H':Hp} (h:upd H a o=H') (n:H a=none):Same H H'∧H' a=some o∧∀b,b≠a→H' b=H b:=by
 subst h
 exact ⟨fun b u e=>by rw [upd_ne (ne_of_none e n)]; exact e,upd_same,fun b hb=>upd_ne hb⟩
theorem newC {H:Hp} {a:Addr} {o:HO} {H':Hp} {C:Prop} (h:upd H a o=H') (n:H a=none) (k:Same H H'→H' a=some o→(∀b,b≠a→H' b=H b)→C):C:=
 k (newH h n).1 (newH h n).2.1 (newH h n).2.2
theorem lr_range {lo:Int} {n:Nat} {g:TG} {tt:TT} {tb:TB} {σ:St} {H:Hp} {N:St→Hp→Prop} (Pv:Nat→St→Hp→Prop) (h0:Pv 0 σ H)
  (step:∀(i:Nat) (σ:St) (H:Hp) (C:St→Hp→Prop),i < n→Pv i σ H→(∀σ' H',Pv (i + 1) σ' H'→C σ' H')→g (.int (lo + i)) σ H fun σ4 H4=>tt σ4 H4 fun ok H5=>if ok=true then tb σ4 H5 C else C σ4 H5)
  (fin:∀σ H,Pv n σ H→N σ H):LR (Itr lo n) g tt tb σ H N:=by
 refine ⟨fun i m σ H=>m=n - i∧i≤n∧Pv i σ H,⟨_,rfl,Nat.zero_le _,h0⟩,?_⟩
 rintro i m σ2 H2 ⟨rfl,hi,p⟩
 by_cases hlt:i < n
 ·refine .inr ⟨hlt,?_⟩
  rintro x H3 ⟨rfl,rfl⟩
  exact step i σ2 H3 _ hlt p fun σ' H' p'=>⟨n - (i + 1),by omega,rfl,hlt,p'⟩
 ·have e:i=n:=by omega
  subst e
  exact .inl ⟨Nat.le_refl _,fin _ _ p⟩
def Itzl (K:PySem.W.Frag) (a b:Addr):It:=
  ⟨fun i H=>∃xs ys x y,SqL K H a xs∧SqL K H b ys∧xs[i]? = some x∧ys[i]? = some y,
   fun i H v H'=>∃t x y,H t=none∧v = .ref t∧(∀xs,SqL K H a xs→xs[i]? = some x)∧(∀ys,SqL K H b ys→ys[i]? = some y)∧H'=upd H t (.tup [x,y]),
   fun i H=>∃xs ys,SqL K H a xs∧SqL K H b ys∧(xs.length≤i∨ys.length≤i)⟩
theorem zip_apart {h:Heap} {z TI TO i1 i2 a b:Addr} {xs ys:Array Value} {u v:Value} {m n:Nat} {f:Value} (D:Apart5 z TI TO i1 i2) (hz:IsZip h z TI TO f) (hTO:IsPair h TO u v) (h1:h.IsListIter i1 a m) (h2:h.IsListIter i2 b n) (ha:h.IsList a xs) (hb:h.IsList b ys):ZipApart z TI TO i1 i2 a b:=by
 obtain ⟨o1,e1,c1,d1⟩:=h1
 obtain ⟨o2,e2,c2,d2⟩:=h2
 have no:∀{l:Addr} {ws:Array Value},h.IsList l ws→l≠z∧l≠TO∧l≠i1∧l≠i2:=fun {l ws} hl=>by
  obtain ⟨o,e,c,k,d⟩:=hl
  refine ⟨fun q=>?_,fun q=>?_,fun q=>?_,fun q=>?_⟩
  ·subst q
   have hz':h.get? l=some _:=hz
   rw [e] at hz'; cases hz'; cases d
  ·subst q
   have hz':h.get? l=some _:=hTO
   rw [e] at hz'; cases hz'
   exact absurd c (by simp)
  ·subst q
   rw [e] at e1; cases e1; rw [d1] at d; cases d
  ·subst q
   rw [e] at e2; cases e2; rw [d2] at d; cases d
 obtain ⟨p1,p2,p3,p4⟩:=no ha
 obtain ⟨q1,q2,q3,q4⟩:=no hb
 exact ⟨D.TIz,D.TOz,D.i1z,D.i2z,D.TITO,D.TIi1,D.TIi2,D.TOi1,D.TOi2,D.i12,p1,p2,p3,p4,q1,q2,q3,q4⟩
theorem turn_zipL {P:Program} {w:World} {K:PySem.W.Frag} {es:List Expr} {k:Nat} {pos:Pos} (a b:Addr) (z TI TO i1 i2:Addr) (D:Apart5 z TI TO i1 i2) :
  Turn P w K (.Tuple es k pos) (Itzl K a b) [z,TI,TO,i1,i2] z (fun i h=>IsZip h z TI TO .none∧IsPair h TI (.ref i1) (.ref i2)∧(∃u v,IsPair h TO u v)∧h.IsListIter i1 a i∧h.IsListIter i2 b i) where
 mem:=by simp
 obj:=fun i h st b hb=>by
  obtain ⟨hz,hTI,⟨a,c,hTO⟩,⟨o1,e1,_,d1⟩,⟨o2,e2,_,d2⟩⟩:=st
  simp at hb
  rcases hb with rfl | rfl | rfl | rfl | rfl
  ·exact ⟨_,hz,fun v z=>by cases (show Data.fields _=Data.cell v from z)⟩
  ·exact ⟨_,hTI,fun v z=>by cases (show Data.seq _ _=Data.cell v from z)⟩
  ·exact ⟨_,hTO,fun v z=>by cases (show Data.seq _ _=Data.cell v from z)⟩
  ·exact ⟨o1,e1,fun v z=>by rw [d1] at z; cases z⟩
  ·exact ⟨o2,e2,fun v z=>by rw [d2] at z; cases z⟩
 keep:=fun i h h' st kk=>by
  obtain ⟨hz,hTI,⟨a,c,hTO⟩,h1,h2⟩:=st
  exact ⟨kk z (by simp) _ hz,kk TI (by simp) _ hTI,⟨a,c,kk TO (by simp) _ hTO⟩,h1.at fun o e=>kk i1 (by simp) o e,h2.at fun o e=>kk i2 (by simp) o e⟩
 item:=by
  intro X hP hw hK hc i pins s σ H E I hf st hg
  subst hP hw hK
  obtain ⟨xs,ys,x,y,hqa,hqb,hx,hy⟩:=hg
  obtain ⟨its,rv,pa,hza⟩:=I.list hqa
  obtain ⟨jts,rw_,pb,hzb⟩:=I.list hqb
  obtain ⟨u,hu,ru⟩:=rv.get hx
  obtain ⟨v,hv,rv'⟩:=rw_.get hy
  obtain ⟨hz,hTI,⟨c,d,hTO⟩,h1,h2⟩:=st
  have ap:=zip_apart D hz hTO h1 h2 pa.isList pb.isList
  refine wpAny_pyNext_zip_item ap hz hTI hTO h1 h2 pa.isList pb.isList (x:=u) (y:=v) (by simpa using hu) (by simpa using hv) fun h' a1 a2 a3 a4 a5 a6 a7=>?_
  refine ⟨_,rfl,wpAny_letOwnedTupleGo_zip (s:={s with heap:=h'}) a1 fun h2' b1 sb=>?_⟩
  have hfr:=I.hok.fresh (Nat.le_refl s.heap.objs.size)
  have I1:Inv X pins σ (upd H s.heap.objs.size (.tup [x,y])) {s with heap:=s.heap.push {cls:=.type "tuple",data:=.seq #[u,v]},toks:=s.toks}:=
   I.laid (o:=.tup [x,y]) (fun b o q=>Heap.get?_push_of_some _ q) (Nat.le_refl _) ⟨by show 2≤sizeLine; decide,[u,v],.cons ru (.cons rv' .nil),IsTup.new _ _⟩
  have lt:∀b∈[z,TI,TO,i1,i2],b < s.heap.objs.size:=fun b hb=>by
   simp at hb
   rcases hb with rfl | rfl | rfl | rfl | rfl
   ·exact Heap.lt_size hz
   ·exact Heap.lt_size hTI
   ·exact Heap.lt_size hTO
   ·obtain ⟨o,q,_⟩:=id h1; exact Heap.lt_size q
   ·obtain ⟨o,q,_⟩:=id h2; exact Heap.lt_size q
  have up:∀b∈[z,TI,TO,i1,i2],FpOk X pins (upd H s.heap.objs.size (.tup [x,y])) b:=fun b hb=>⟨by rw [upd_ne (Nat.ne_of_lt (lt b hb))]; exact (hf b hb).1,(hf b hb).2⟩
  have I2:=I1.turnedL (h':=h2') (t':=s.toks) (fun b o n q=>?_) up
  ·refine ⟨.ref s.heap.objs.size,_,I2,rfl,⟨_,x,y,hfr,rfl,fun zs hs=>by rw [I.list_inj hs hqa]; exact hx,fun zs hs=>by rw [I.list_inj hs hqb]; exact hy,rfl⟩,⟨b1,?_,⟨_,_,sb.extBut _ _ D.TOz a2⟩,?_,?_⟩,fun b hb=>(up b hb).1⟩
   ·exact sb.extBut _ _ D.TIz (a7 _ _ D.TIz D.TITO D.TIi1 D.TIi2 hTI)
   ·exact a3.extBut sb.extBut D.i1z
   ·exact a4.extBut sb.extBut D.i2z
  ·have q1:(s.heap.push {cls:=.type "tuple",data:=.seq #[u,v]}).get? b=some o:=q
   simp at n
   refine sb.extBut b o n.1 ?_
   by_cases hb:b=s.heap.objs.size
   ·subst hb
    rw [Heap.get?_push_size _ rfl] at q1
    cases q1
    exact a5
   ·refine a7 b o n.1 n.2.2.1 n.2.2.2.1 n.2.2.2.2 ?_
    rw [← q1]
    exact (Heap.get?_push_ne s.heap b _ hb).symm
 done:=by
  intro X hP hw hK hc i pins s σ H E I hf st hg
  subst hP hw hK
  obtain ⟨xs,ys,hqa,hqb,hx⟩:=hg
  obtain ⟨its,rv,pa,hza⟩:=I.list hqa
  obtain ⟨jts,rw_,pb,hzb⟩:=I.list hqb
  obtain ⟨hz,hTI,⟨c,d,hTO⟩,h1,h2⟩:=st
  have ap:=zip_apart D hz hTO h1 h2 pa.isList pb.isList
  have l1:=rv.length
  have l2:=rw_.length
  refine wpAny_pyNext_zip_end (I.ok.hd hc) ap hz hTI hTO h1 h2 pa.isList pb.isList ?_ fun h' kk=>⟨rfl,?_⟩
  ·rcases hx with hx | hx
   ·exact .inl (by simp; omega)
   ·exact .inr (by simp; omega)
  exact I.turnedL (t':=s.toks) (fun b o n q=>by simp at n; exact kk b o n.1 n.2.2.1 n.2.2.2.1 n.2.2.2.2 q) hf
 self:=fun _ _ _ _ _ st h=>wpAny_pyIter_zip st.1 h
section
variable {X:Cx} {es:List Expr} {tk:Nat} {tpos:Pos}
def iZipL (K:PySem.W.Frag) (ta:TA):TI:=fun σ H R=>ta σ H fun vs H1=>∃a b,vs=[.ref a,.ref b]∧(∃xs,SqL K H1 a xs)∧(∃ys,SqL K H1 b ys)∧R (Itzl K a b) H1
theorem pi_zipL {a b:Expr} {ta:TA} {p pos:Pos} (hg:Gl X "zip") (hm:X.mg "zip" = none) (ha:PA X [a,b] ta) (hs:starEach [a,b] X.env=[(false,eval a X.env),(false,eval b X.env)]:=by rfl) (hs2:starEach [b] X.env=[(false,eval b X.env)]:=by rfl) :
  PI X (.Tuple es tk tpos) (.Call (.Name "zip" p) [a,b] [] pos) (iZipL X.K ta):=by
 intro pins s σ H R I h
 refine Call_ (ld_blt I hg hm PyProof.Rows.boot_zip (PyProof.Rows.callWith_type1 (thn (ha pos pins s σ H _ I h) fun us s1 ⟨vs,H1,I1,r1,q1⟩=>?_) (by rw [hs,hs2]) (by rw [hs2]; rfl)))
 obtain ⟨c,d,e,⟨xs,hc⟩,⟨ys,hd⟩,q⟩:=q1
 subst e
 cases r1 with
 | cons r rr=>
  cases rr with
  | cons r' rr=>
   cases rr
   cases r
   cases r'
   obtain ⟨its,rv,pa,hza⟩:=I1.list hc
   obtain ⟨jts,rw_,pb,hzb⟩:=I1.list hd
   refine call_zip_2 pa.isList pb.isList fun h' a1 a2 a3 a4 a5 a6 a7=>wpAny_pyIter_zip a1 ?_
   refine ⟨_,[s1.heap.objs.size + 4,s1.heap.objs.size + 2,s1.heap.objs.size + 3,s1.heap.objs.size,s1.heap.objs.size + 1],_,_,H1,rfl,I1.kept (t':=s1.toks) a7,
    turn_zipL c d _ (s1.heap.objs.size + 2) (s1.heap.objs.size + 3) s1.heap.objs.size (s1.heap.objs.size + 1) (apart5 _),⟨a1,a2,⟨_,_,a3⟩,a4,a5⟩,fun b hb=>?_,q⟩
   have hb':s1.heap.objs.size≤b:=by
    simp at hb
    rcases hb with rfl | rfl | rfl | rfl | rfl
    ·exact Nat.le_add_right _ 4
    ·exact Nat.le_add_right _ 2
    ·exact Nat.le_add_right _ 3
    ·exact Nat.le_refl _
    ·exact Nat.le_add_right _ 1
   exact I1.fpOk hb' (I1.hok.fresh hb')
end
theorem lr_zipL {K:PySem.W.Frag} {a b:Addr} {xs ys:List V} {g:TG} {tt:TT} {tb:TB} {σ:St} {H:Hp} {N:St→Hp→Prop} (Pv:Nat→St→Hp→Prop) (h0:Pv 0 σ H) (hl:xs.length=ys.length) (hS:∀i σ H,Pv i σ H→SqL K H a xs∧SqL K H b ys)
  (step:∀(i:Nat) (x y:V) (t:Addr) (σ:St) (H:Hp) (C:St→Hp→Prop),xs[i]? = some x→ys[i]? = some y→H t=none→Pv i σ H→(∀σ' H',Pv (i + 1) σ' H'→C σ' H')→g (.ref t) σ (upd H t (.tup [x,y])) fun σ4 H4=>tt σ4 H4 fun ok H5=>if ok=true then tb σ4 H5 C else C σ4 H5)
  (fin:∀σ H,Pv xs.length σ H→N σ H):LR (Itzl K a b) g tt tb σ H N:=by
 refine ⟨fun i m σ H=>m=xs.length - i∧i≤xs.length∧Pv i σ H,⟨_,rfl,Nat.zero_le _,h0⟩,?_⟩
 rintro i m σ2 H2 ⟨rfl,hi,p⟩
 obtain ⟨sa,sb⟩:=hS i σ2 H2 p
 by_cases hlt:i < xs.length
 ·refine .inr ⟨⟨xs,ys,_,_,sa,sb,List.getElem?_eq_getElem hlt,List.getElem?_eq_getElem (show i < ys.length by omega)⟩,?_⟩
  rintro v H3 ⟨t,x,y,ht,rfl,hx,hy,rfl⟩
  exact step i x y t σ2 H2 _ (hx _ sa) (hy _ sb) ht p fun σ' H' p'=>⟨xs.length - (i + 1),by omega,rfl,hlt,p'⟩
 ·have e:i=xs.length:=by omega
  subst e
  exact .inl ⟨⟨xs,ys,sa,sb,.inl (Nat.le_refl _)⟩,fin σ2 H2 p⟩
theorem psx_if {X:Cx} {c:Expr} {a b:List Stmt} {pos:Pos} {tc:TT} {ta tb:TSX} (hc:PT X.nox c tc) (ha:PSX X a ta) (hb:PSX X b tb) :
  PSX X [.If c a b pos] (fun D E σ H=>tc σ H fun d H1=>if d=true then ta D E σ H1 else tb D E σ H1):=by
 intro pins s σ H D E I h
 refine wpAny_execs_cons (wpAny_If (wpAny_mono (hc pins s σ H _ (I.wish _) h) (fun d s1 ⟨H1,I1,q1⟩=>?_) fun _ _ z=>False.elim z))
 have I1':=I1.unwish
 have fin:∀(r:Flow) (s2:Shared),SP X pins D r s2→match r with | .next=>wpAny (model X.prog X.w) X.A (execs [] X.env) (SP X pins D) (CXX X pins σ E) s2 | r=>SP X pins D r s2:=by
  intro r s2 q
  cases r with
  | next=>exact wpAny_execs_nil q
  | _=>exact q
 cases d with
 | true=>exact wpAny_mono (ha pins s1 σ H1 D E I1' q1) fin fun _ _ z=>z
 | false=>exact wpAny_mono (hb pins s1 σ H1 D E I1' q1) fin fun _ _ z=>z
theorem lr_str {z:Str} {g:TG} {tt:TT} {tb:TB} {σ:St} {H:Hp} {N:St→Hp→Prop} (Pv:Nat→St→Hp→Prop) (h0:Pv 0 σ H)
  (step:∀(i c:Nat) (σ:St) (H:Hp) (C:St→Hp→Prop),z.cps[i]? = some c→Pv i σ H→(∀σ' H',Pv (i + 1) σ' H'→C σ' H')→g (.str ⟨#[c]⟩) σ H fun σ4 H4=>tt σ4 H4 fun ok H5=>if ok=true then tb σ4 H5 C else C σ4 H5)
  (fin:∀σ H,Pv z.cps.size σ H→N σ H):LR (Its z) g tt tb σ H N:=by
 refine ⟨fun i m σ H=>m=z.cps.size - i∧i≤z.cps.size∧Pv i σ H,⟨_,rfl,Nat.zero_le _,h0⟩,?_⟩
 rintro i m σ2 H2 ⟨rfl,hi,p⟩
 by_cases hlt:i < z.cps.size
 ·refine .inr ⟨hlt,?_⟩
  rintro x H3 ⟨rfl,c,hc,rfl⟩
  exact step i c σ2 H3 _ hc p fun σ' H' p'=>⟨z.cps.size - (i + 1),by omega,rfl,hlt,p'⟩
 ·have e:i=z.cps.size:=by omega
  subst e
  exact .inl ⟨rfl,fin _ _ p⟩
section
variable {prog:Program} {w:World} {A:Around} {E:Value→Shared→Prop} {h:Heap} {g:Array GenState} {d:Drawn} {t:Nat} {os:OsState} {nm q:Str} {C N:Addr} {bs bm bmB:List Value} {hdct:Bool} {sn:List Str} {sub:List Value} {ab:Bool} {col:Option Bool}
 {dd:Option Addr} {k0 k1 k2 k3 k5:Option Value} {B newId initId:String}
theorem type_call_initT (F:ExcBaseFacts B newId initId bmB) (T:OwnTail h bmB bm) {mN:Str→Option Value} {rest:List Value} {fI:Addr} {oI:Obj} {Q:PySem.Fin→Shared→Prop}
  (hC:h.get? C=some (excClassObj nm q C N bs bm hdct sn sub ab col dd k0 k1 k2 k3 k5 newId)) (hn:h.Ns N mN) (hi:mN (Str.ofString "__init__")=some (.ref fI)) (hfI:h.get? fI=some oI) (hfc:oI.cls = .type "function")
  (hq:∀(h':Heap) (e:Addr),h.MadeExcOf h' e (.ref C) rest→wpAny (model prog w) A (call (.ref fI) (.ref e :: rest)) (fun r s'=>r = .none∧Q (.done (.ret (.ref e))) s') E {heap:=h',gens:=g,drawn:=d,toks:=t,os:=os})
  (hrest:rest.length≤sizeLine):wpAny (model prog w) A (Builtin.«type.__call__» {pos:=.ref C :: rest}) Q E {heap:=h,gens:=g,drawn:=d,toks:=t,os:=os}:=by
 unfold Builtin.«type.__call__»
 refine wpAny_ite_false rfl ?_
 refine wpAny_bind (id (wpAny_bind (id (wpAny_bind (wpAny_load' hC (wpAny_pure (wpAny_pure (wpAny_ite_false rfl (wpAny_bind (wpAny_madeBy_exc hC (wpAny_bind (wpAny_pure (wpAny_bind (wpAny_holding (wpAny_call ?_)))))))))))))))
 refine codeAny_call_builtin_code (Code.quiet_builtin {pos:=Value.ref C :: rest} F.quiet) (wpAny_check_new_subT F T hC (codeAny_exc_new_subT F T hC (id ?_) hrest))
 have hk:∀(b:Addr) (o:Obj),h.get? b=some o→((h.push {cls:=Value.type "tuple",data:=Data.seq rest.toArray}).push {cls:=Value.ref C,data:=Data.fields #[Value.ref h.objs.size,Value.none,Value.none,Value.none,Value.bool false,Value.none]}).get? b=some o:=fun b o e=>Heap.get?_push_of_some _ (Heap.get?_push_of_some _ e)
 have hC₁:=hk _ _ hC
 have hn₁:=hn.keeps hk
 have T₁:=T.keeps hk
 have hget:((h.push {cls:=Value.type "tuple",data:=Data.seq rest.toArray}).push {cls:=Value.ref C,data:=Data.fields #[Value.ref h.objs.size,Value.none,Value.none,Value.none,Value.bool false,Value.none]}).get? (h.objs.size + 1)=_:=Heap.get?_push_at (by rw [Heap.size_push]) rfl
 have hcC:(Value.ref C :: bm).contains (Value.ref C)=true:=by simp
 have hm:h.MadeExcOf ((h.push {cls:=Value.type "tuple",data:=Data.seq rest.toArray}).push {cls:=Value.ref C,data:=Data.fields #[Value.ref h.objs.size,Value.none,Value.none,Value.none,Value.bool false,Value.none]}) (h.objs.size + 1) (.ref C) rest:=by
  refine ⟨hk,?_,h.objs.size,hget,?_,?_⟩
  ·exact Heap.get?_none_of_le (Nat.le_succ _)
  ·exact Heap.get?_none_of_le (Nat.le_refl _)
  ·exact Heap.get?_push_of_some _ (Heap.get?_push_at rfl rfl)
 have z:=hq _ _ hm
 generalize hH:((h.push {cls:=Value.type "tuple",data:=Data.seq rest.toArray}).push {cls:=Value.ref C,data:=Data.fields #[Value.ref h.objs.size,Value.none,Value.none,Value.none,Value.bool false,Value.none]})=h2 at *
 show wpAny (model prog w) A _ Q E {heap:=h2,gens:=g,drawn:=d,toks:=t,os:=os}
 refine wpAny_bind (wpAny_bind (id (wpAny_bind (wpAny_loadPart_at hget (wpAny_pure (wpAny_isSubtype_exc hC₁ ?_))))))
 rw [hcC]
 refine wpAny_ite_false rfl (wpAny_bind (wpAny_holding (id (wpAny_bind (id (wpAny_bind (id (wpAny_bind (wpAny_loadPart_at hget (wpAny_pure (id (wpAny_typeLookup_tail hC₁ hn₁ T₁ F.mroIs F.init.lookup ?_))))))))))))
 rw [hi]
 refine wpAny_holding (wpAny_bind (id (wpAny_bind (wpAny_typeOf ⟨oI,hk _ _ hfI,hfc⟩ ?_))))
 refine wpAny_ite_true (by decide +kernel) (wpAny_pure (wpAny_bind (thn z fun r s' hz=>?_)))
 obtain ⟨rfl,zq⟩:=hz
 exact wpAny_pure (wpAny_ite_false rfl (wpAny_pure zq))
theorem call_initT (F:ExcBaseFacts B newId initId bmB) (T:OwnTail h bmB bm) {mN:Str→Option Value} {rest:List Value} {fI:Addr} {oI:Obj} {Q:Value→Shared→Prop}
  (hC:h.get? C=some (excClassObj nm q C N bs bm hdct sn sub ab col dd k0 k1 k2 k3 k5 newId)) (hn:h.Ns N mN) (hi:mN (Str.ofString "__init__")=some (.ref fI)) (hfI:h.get? fI=some oI) (hfc:oI.cls = .type "function")
  (hq:∀(h':Heap) (e:Addr),h.MadeExcOf h' e (.ref C) rest→wpAny (model prog w) (A.under (Code.builtin "type.__call__" {pos:=Value.ref C :: rest})) (call (.ref fI) (.ref e :: rest)) (fun r s'=>r = .none∧Q (.ref e) s') E {heap:=h',gens:=g,drawn:=d,toks:=t,os:=os})
  (hrest:rest.length≤sizeLine):wpAny (model prog w) A (call (.ref C) rest) Q E {heap:=h,gens:=g,drawn:=d,toks:=t,os:=os}:=by
 have f1:=tc_lookup
 have f2:=tc_bind (Value.ref C)
 have hT:({heap:=h,gens:=g,drawn:=d,toks:=t,os:=os}:Shared).TypeIs (.ref C) "type":=⟨_,hC,rfl⟩
 refine wpAny_call (codeAny_of_tree (id (id (wpAny_bind (wpAny_load' hC (id (id (wpAny_bind (wpAny_specialOf hT f1 (wpAny_bind (wpAny_of_eq f2 (wpAny_bind (id (wpAny_pure (wpAny_ite_true rfl (id (wpAny_pure ⟨rfl,?_⟩)))))))))))))))))
 exact codeAny_call_builtin_at (Code.quiet_builtin {pos:=[Value.ref C] ++ {pos:=rest:Args}.pos} (by decide +kernel)) entry_typeCall
  (wpAny_check_type_call_sub hC (type_call_initT F T hC hn hi hfI hfc (fun h' e hm=>hq h' e hm) hrest))
end
theorem own_init:builtinOwn "ValueError" "__init__" = some (.builtin "ValueError.__init__"):=by decide +kernel
theorem typ_init:typeOf (.builtin "ValueError.__init__")=pure (.type "wrapper_descriptor"):=by rfl
theorem slot_wdget:Slot "wrapper_descriptor" "__get__" "wrapper_descriptor.__get__":=
 Slot.of (owner:="wrapper_descriptor") (n:="__get__") (by rw [typeLookup_type,builtinLookup_eq_fast]; rfl) (by decide +kernel) (by decide +kernel) (by decide +kernel) (Or.inl (by decide +kernel)) (by rw [isSubtype_type]; rfl) (by decide +kernel)
theorem entry_wdget:entryFor table "wrapper_descriptor.__get__" = some Builtin.«wrapper_descriptor.__get__»:=entryFor_of_tree (by show _=_; rfl)
theorem args_wdget (a b c:Value):argsOk "wrapper_descriptor.__get__" {pos:=[a,b,c]}:=by show _=_; rfl
theorem classOwn_own {M:Model} {A:Around} {E:Value→Shared→Prop} {s:Shared} {a:Addr} {c0:Value} {dd:Option Addr} {cd:ClassData} {sl:Array (Option Value)} {mA:Str→Option Value} {name:Str} {Q:Option Value→Shared→Prop}
  (hA:s.heap.get? a=some {cls:=c0,dict:=dd,data:=.cls cd,slots:=sl}) (hN:s.heap.Ns cd.ns mA) (q:Q (mA name) s):wpAny M A (classOwn (.ref a) name) Q E s:=by
 unfold classOwn classData
 exact wpAny_bind (wpAny_bind (wpAny_load' hA (wpAny_pure (wpAny_nsGet hN q))))
section
variable {prog:Program} {w:World} {A:Around} {E:Value→Shared→Prop} {h:Heap} {g:Array GenState} {d:Drawn} {t:Nat} {os:OsState}
theorem super_ga {so D x C:Addr} {l₀ l:List Value} {tk:Tok} {Q:PySem.Fin→Shared→Prop} (hso:h.get? so=some {cls:=.type "super",data:=.fields #[.ref D,.ref x,.ref C]})
  (hno:PySem.W.Looks (model prog w) h (opaqueClassAbove (.ref C)) none) (hC:PySem.W.Looks (model prog w) h (mroOf (.ref C)) l₀) (hl:List.drop 1 (List.dropWhile (fun x=>x != Value.ref D) l₀)=l) (hxC:x≠C)
  (T:OwnTail h bmV l) {ox:Obj} (hx:h.get? x=some ox) (hxc:ox.cls = .ref C) (hsub:PySem.W.Looks (model prog w) h (isSubtype (.ref C) (.type "ValueError")) true)
  (hq:Q (.done (.ret (.ref h.objs.size))) {heap:=h.push {cls:=.type "method-wrapper",data:=.fields #[.builtin "ValueError.__init__",.ref x]},gens:=g,drawn:=d,toks:=t,os:=os}) :
  wpAny (model prog w) A (Builtin.«super.__getattribute__» {pos:=[.ref so,.str "__init__" tk]}) Q E {heap:=h,gens:=g,drawn:=d,toks:=t,os:=os}:=by
 unfold Builtin.«super.__getattribute__»
 refine wpAny_bind (id (wpAny_pure (wpAny_ite_false rfl (wpAny_bind (id (wpAny_pure ?_))))))
 refine wpAny_bind (wpAny_field (x:=Value.ref D) hso rfl rfl (wpAny_bind (wpAny_field (x:=Value.ref x) hso rfl rfl (wpAny_bind (wpAny_field (x:=Value.ref C) hso rfl rfl ?_)))))
 refine wpAny_ite_false rfl (wpAny_bind (ks_wpAny_notOpaque hno ?_))
 refine wpAny_ite_false rfl (wpAny_bind (hC.at ?_))
 dsimp only
 rw [hl]
 clear hC hl
 refine wpAny_bind ?_
 induction T with
 | own hA hN hi T ih=>
  rw [List.forIn_cons]
  refine wpAny_bind (wpAny_bind ?_)
  refine classOwn_own hA hN ?_
  rw [hi]
  exact wpAny_pure ih
 | base=>
  rw [List.forIn_cons]
  refine wpAny_bind (wpAny_bind ?_)
  refine wpAny_of_eq (show classOwn (.type "ValueError") (Str.ofString "__init__")=pure (some (.builtin "ValueError.__init__")) from congrArg pure own_init) ?_
  have hne:(Value.ref x == Value.ref C)=false:=by simp [hxC]
  rw [hne]
  refine wpAny_bind (wpAny_of_eq typ_init (wpAny_bind (wpAny_of_eq slot_wdget.lookup (wpAny_bind (wpAny_holding (wpAny_call_entry slot_wdget rfl entry_wdget ?_ (args_wdget _ _ _)))))))
  unfold Builtin.«wrapper_descriptor.__get__»
  refine wpAny_bind (wpAny_of_eq (a:=(Value.builtin "ValueError.__init__",some (Value.ref x),some (Value.ref C))) rfl ?_)
  refine wpAny_bind ?_
  refine wpAny_bind (wpAny_of_eq (a:=(Str.ofString "__init__",Value.type "ValueError")) ?_ ?_)
  ·rfl
  refine wpAny_bind ?_
  unfold isInstance
  refine wpAny_bind (wpAny_typeOf_ref hx ?_)
  rw [hxc]
  refine hsub.at ?_
  refine wpAny_ite_false rfl (wpAny_pure (wpAny_bind ?_))
  unfold newFields newObj
  exact wpAny_bind (wpAny_alloc' (wpAny_pure (wpAny_pure ⟨_,rfl,wpAny_bind (wpAny_pure (wpAny_pure (wpAny_pure (wpAny_pure hq))))⟩)))
end
section
variable {M:Model} {A:Around} {E:Value→Shared→Prop} {h:Heap} {g:Array GenState} {d:Drawn} {t:Nat} {os:OsState} {nm q:Str} {C N:Addr} {bs bm:List Value} {hdct:Bool} {sn:List Str} {sub:List Value} {ab:Bool} {col:Option Bool}
 {dd:Option Addr} {k0 k1 k2 k3 k5:Option Value} {newId:String}
theorem bound_init {x:Addr} {m:Value} {ox:Obj} {Q:Unit→Shared→Prop} (hC:h.get? C=some (excClassObj nm q C N bs bm hdct sn sub ab col dd k0 k1 k2 k3 k5 newId)) (hx:h.get? x=some ox) (hxc:ox.cls = .ref C) (hq:Q () {heap:=h,gens:=g,drawn:=d,toks:=t,os:=os}) :
  wpAny M A (checkBoundCall "ValueError.__init__" {pos:=[.ref x,m]}) Q E {heap:=h,gens:=g,drawn:=d,toks:=t,os:=os}:=by
 have e1:(Manifest.Receiver.self == Manifest.Receiver.none)=false:=by decide
 unfold checkBoundCall
 rw [F.excBase_ValueError.initRow,F.excBase_ValueError.initKind]
 dsimp only
 rw [if_pos (by decide)]
 unfold Bind.checkArgs Bind.printed Bind.receiverType typeNameWhole
 simp only [e1]
 refine wpAny_bind (wpAny_ite_false (by decide) (wpAny_bind ?_))
 refine wpAny_typeOf_ref hx ?_
 rw [hxc]
 unfold classData
 refine wpAny_bind (wpAny_bind (wpAny_bind (wpAny_load' hC (wpAny_pure (wpAny_pure (wpAny_pure ?_))))))
 refine wpAny_bind (wpAny_ite_true (by decide) (wpAny_pure ?_))
 exact wpAny_onRaise (wpAny_of_eq (a:=()) rfl hq)
end
section
variable {prog:Program} {w:World} {A:Around} {E:Value→Shared→Prop} {h:Heap} {g:Array GenState} {d:Drawn} {t:Nat} {os:OsState}
theorem super_init {so D x C:Addr} {l₀ l:List Value} {pl:Sem Bool} {Q:Value × List Value→Shared→Prop} (hso:h.get? so=some {cls:=.type "super",data:=.fields #[.ref D,.ref x,.ref C]})
  (hno:PySem.W.Looks (model prog w) h (opaqueClassAbove (.ref C)) none) (hC:PySem.W.Looks (model prog w) h (mroOf (.ref C)) l₀) (hl:List.drop 1 (List.dropWhile (fun x=>x != Value.ref D) l₀)=l) (hxC:x≠C)
  (T:OwnTail h bmV l) {ox:Obj} (hx:h.get? x=some ox) (hxc:ox.cls = .ref C) (hsub:PySem.W.Looks (model prog w) h (isSubtype (.ref C) (.type "ValueError")) true)
  (hq:Q (.ref h.objs.size,[]) {heap:=h.push {cls:=.type "method-wrapper",data:=.fields #[.builtin "ValueError.__init__",.ref x]},gens:=g,drawn:=d,toks:=t + 1,os:=os}) :
  wpAny (model prog w) A (getMethod (.ref so) "__init__" pl) Q E {heap:=h,gens:=g,drawn:=d,toks:=t,os:=os}:=by
 have hT:∀tk,({heap:=h,gens:=g,drawn:=d,toks:=tk,os:=os}:Shared).TypeIs (.ref so) "super":=fun tk=>⟨_,hso,rfl⟩
 unfold getMethod
 refine wpAny_bind (wpAny_specialOf (hT _) F.ks_slot_super_ga.lookup (wpAny_ite_true F.ks_canon_super_ga (wpAny_bind ?_)))
 unfold getAttr getAttrBy
 refine wpAny_bind (wpAny_mkText (wpAny_holding (wpAny_bind (wpAny_typeOf (hT _) (wpAny_bind (wpAny_of_eq F.ks_slot_super_ga.lookup ?_))))))
 refine wpAny_ite_false (by decide +kernel) ?_
 unfold getAttrByItsOwn hookBefore
 have f3:=F.ks_slot_super_ga.bind (.ref so)
 repeat (first | assumption | wp_step)
 refine codeAny_call_builtin F.ks_slot_super_ga.plain F.ks_entry_super_ga (F.ks_slot_super_ga.check _ _ _ _ _ _ _ _ (hT _) (F.ks_gaArgs_super _ _) (super_ga hso hno hC hl hxC T hx hxc hsub ?_))
 show wpAny (model prog w) A (handedOut (.ref h.objs.size)) _ _ _
 exact PySem.W.handed_on rfl (wpAny_pure hq)
theorem call_wrapper {nm q:Str} {C N:Addr} {bs bm:List Value} {hdct:Bool} {sn:List Str} {sub:List Value} {ab:Bool} {col:Option Bool} {dd:Option Addr} {k0 k1 k2 k3 k5:Option Value} {newId:String} {m x:Addr} {msg:Value} {ox:Obj} {vs:Array Value} {Q:Value→Shared→Prop} (hm:h.get? m=some {cls:=.type "method-wrapper",data:=.fields #[.builtin "ValueError.__init__",.ref x]})
  (hC:h.get? C=some (excClassObj nm q C N bs bm hdct sn sub ab col dd k0 k1 k2 k3 k5 newId)) (hx:h.get? x=some ox) (hxc:ox.cls = .ref C) (hxd:ox.data = .fields vs) {v0:Value} (hv0:vs[0]? = some v0)
  (hq:Q .none {heap:=(h.push {cls:=.type "tuple",data:=.seq #[msg]}).update x (Obj.mapFields fun y=>y.setIfInBounds 0 (.ref h.objs.size)),gens:=g,drawn:=d,toks:=t,os:=os}) :
  wpAny (model prog w) A (call (.ref m) [msg]) Q E {heap:=h,gens:=g,drawn:=d,toks:=t,os:=os}:=by
 have hT:({heap:=h,gens:=g,drawn:=d,toks:=t,os:=os}:Shared).TypeIs (.ref m) "method-wrapper":=⟨_,hm,rfl⟩
 refine wpAny_call (codeAny_of_tree (id (id (wpAny_bind (wpAny_load' hm (id (id (wpAny_bind (bound_init hC hx hxc ?_)))))))))
 refine wpAny_pure ⟨Code.quiet_builtin _ (by decide +kernel),codeAny_builtin F.excBase_ValueError.initEntry ?_⟩
 unfold Builtin.«BaseException.__init__»
 refine wpAny_ite_false rfl (wpAny_bind (wpAny_newTuple ?_ (by show 1≤sizeLine; decide)))
 unfold Builtin.BaseException.bexcPut
 have hx1:(h.push {cls:=.type "tuple",data:=.seq #[msg]}).get? x=some ox:=Heap.get?_push_of_some _ hx
 refine wpAny_bind (wpAny_bind (wpAny_field hx1 hxd hv0 (wpAny_bind (wpAny_setField hx1 hxd (Array.getElem?_eq_some_iff.mp hv0).1 ?_))))
 have fin:wpAny (model prog w) (A.under (Code.builtin "ValueError.__init__" {pos:=[.ref x,msg]})) (ret .none) (fun fin s'=>
     match fin with
     | Fin.done f=>match (Except.ok f:Except Value Flow) with
      | Except.ok (Flow.ret v)=>Q v s'
      | Except.ok a=>False
      | Except.error e=>E e s'
     | Fin.again c'=>c'.quiet=true∧codeAny (model prog w) A c' (fun r s'=>match r with
       | Except.ok (Flow.ret v)=>Q v s'
       | Except.ok a=>False
       | Except.error e=>E e s') s') (fun e s'=>E e s') {heap:=(h.push {cls:=.type "tuple",data:=.seq #[msg]}).update x (Obj.mapFields fun y=>y.setIfInBounds 0 (.ref h.objs.size)),gens:=g,drawn:=d,toks:=t,os:=os}:=wpAny_pure hq
 cases v0 with
 | ref a=>exact wpAny_letGo fin
 | _=>exact wpAny_pure fin
end
def ownV:Value→Bool
 | .ref _=>true
 | _=>false
def onlyV (l:List Value):Bool:=l.dropWhile ownV == bmV
def overV (K:PySem.W.Frag) (C:Addr):Bool:=(PySem.W.clsIn K C).any fun cd=>onlyV cd.mro
theorem refuse_drop (self:Value) (what:Str):∀l:List Value,refuseLoop self what l=refuseLoop self what (l.dropWhile ownV)
 | []=>rfl
 | .ref c :: r=>by rw [refuseLoop_ref,refuse_drop self what r]; rfl
 | .type _ :: _=>rfl
 | .none :: _=>rfl
 | .ellipsis :: _=>rfl
 | .notImplemented :: _=>rfl
 | .bool _ :: _=>rfl
 | .int _ _ :: _=>rfl
 | .float _ _ :: _=>rfl
 | .str _ _ :: _=>rfl
 | .bytes _ _ :: _=>rfl
 | .builtin _ :: _=>rfl
theorem refuse_onlyV (self:Value) {l:List Value} (e:onlyV l=true):refuseLoop self "__setattr__" l=pure ():=by
 rw [refuse_drop,beq_iff_eq.mp e]
 exact PySem.F.store_ValueError.passes self
theorem onlyV_has {l:List Value} (e:onlyV l=true):(.type "object")∈l:=by
 have z:(.type "object" : Value)∈l.dropWhile ownV:=by rw [beq_iff_eq.mp e]; simp
 exact List.dropWhile_subset _ z
open Builtin.ObjectAttr in
theorem osa_openV {prog:Program} {w:World} {A:Around} {R:Result→Shared→Prop} {s:Shared} {K:PySem.W.Frag} {x C:Addr} {ox:Obj} {od:Option Obj} {name:Str} {tk:Tok} {v:Value} (X:K.In s.heap) (J:PySem.W.InstAt s.heap x ox C od) (hp:overV K C=true) (ht:PySem.W.takerIn K C name=some none)
  (h:∀b,wpAny (model prog w) A.in1 (Builtin.ObjectAttr.storeInOwnDict (.ref x) (.ref C) (.str name tk) name v b)
   (fun fin s'=>match fin with | .done f=>R (.ok f) s' | .again c'=>c'.quiet=true∧codeAny (model prog w) A c' R s') (fun e s'=>R (.error e) s') s) :
  codeAny (model prog w) A (.call (.builtin "object.__setattr__") ⟨[.ref x,.str name tk,v],[]⟩) R s:=by
 obtain ⟨cd,hc,ho⟩:=PySem.W.any_some hp
 have mem:=onlyV_has ho
 have ne:cd.mro.isEmpty=false:=by
  cases q:cd.mro with
  | nil=>rw [q] at mem; cases mem
  | cons _ _=>rfl
 have mo:PySem.W.mroIn K C (.type "object")=some true:=by
  unfold PySem.W.mroIn
  rw [hc,Option.bind_some,ne,List.contains_iff_mem.mpr mem]
  rfl
 have sub:PySem.W.Looks (model prog w) s.heap (isInstance (.ref x) (.type "object")) true:=J.type.andThen (PySem.W.looks_mroIn X mo)
 obtain ⟨attr,ha,hr⟩:=Option.bind_eq_some_iff.mp ht
 have LM:PySem.W.Looks (model prog w) s.heap (mroOf (.ref C)) cd.mro:=(PySem.W.looks_clsIn X hc).andThen .now
 have LT:PySem.W.Looks (model prog w) s.heap (storeTaker? attr) none:=by
  cases attr with
  | none=>exact .now
  | some a=>
   obtain ⟨b,hb,e⟩:=Option.map_eq_some_iff.mp hr
   cases b with
   | true=>cases e
   | false=>exact (PySem.W.looks_takesIn X hb).andThen .now
 have SO:=PySem.F.store_object
 refine codeAny_call_builtin SO.slot.plain SO.entry ?ck
 have go:=@PySem.W.check_slot (model prog w) A.in1 (fun e s'=>R (.error e) s') s "object.__setattr__" "object" "__setattr__" (.ref x) [.str name tk,v] []
 refine go SO.kind SO.split sub (SO.args _ _ _) ?_
 rw [PySem.W.osa_eq,PySem.refuse_eq]
 refine wpAny_bind (wpAny_bind (J.type.here (wpAny_bind (LM.here ?_))))
 rw [refuse_onlyV _ ho]
 exact wpAny_pure (wpAny_bind (J.type.here (wpAny_bind ((PySem.W.looks_findIn X ha).here (wpAny_bind (LT.here (h _)))))))
section
variable {prog:Program} {w:World} {A:Around} {E:Value→Shared→Prop} {s:Shared} {K:PySem.W.Frag} {x C:Addr} {ox:Obj} {name:Str} {v:Value}
theorem set_exc {Q:Unit→Shared→Prop} (X:K.In s.heap) (J:PySem.W.InstAt s.heap x ox C none) (hx:s.heap.get? x=some ox)
  (hs:PySem.W.findIn K (.ref C) "__setattr__" = some (some (.builtin "object.__setattr__"))) (hp:overV K C=true) (ht:PySem.W.takerIn K C name=some none) (hh:PySem.W.hasDictIn K C=true) {vs:Array Value} {sl:Array (Option Value)} (hox:ox = {cls:=.ref C,dict:=none,data:=.fields vs,slots:=sl})
  (h:∀h',h'.get? x=some {cls:=.ref C,dict:=some s.heap.objs.size,data:=.fields vs,slots:=sl}→h'.Ns1 s.heap.objs.size (fun y=>if y=name then some v else none)→(∀b o,b≠x→b≠s.heap.objs.size→s.heap.get? b=some o→h'.get? b=some o)→Q () {s with heap:=h',toks:=s.toks + 2}):wpAny (model prog w) A (setAttr (.ref x) name v) Q E s:=by
 refine PySem.W.set_plain X J hs (osa_openV (s:={s with toks:=s.toks + 1}) X J hp ht fun b=>?_)
 obtain ⟨cd,hcd,hd'⟩:=PySem.W.any_some hh
 dsimp only
 unfold Builtin.ObjectAttr.storeInOwnDict
 refine wpAny_bind (wpAny_pure (wpAny_bind ?_))
 unfold Builtin.ObjectAttr.ownDictForStores instanceDict
 subst hox
 refine wpAny_bind (wpAny_loadPart hx (wpAny_bind (PySem.W.Looks.here (s:={s with toks:=s.toks + 1}) (PySem.W.looks_clsIn X hcd) ?_)))
 rw [hd']
 refine wpAny_ite_false rfl (wpAny_ite_false ?_ (wpAny_bind (wpAny_alloc' ?_)))
 ·rfl
 have hx1:(s.heap.push {cls:=.type "dict",data:=.dict #[]}).get? x=some {cls:=.ref C,dict:=none,data:=.fields vs,slots:=sl}:=Heap.get?_push_of_some _ hx
 refine wpAny_bind (wpAny_update' hx1 ?_)
 unfold dictMade
 refine wpAny_pure ?_
 have xl:=Heap.lt_size hx
 have xn:s.heap.objs.size≠x:=(Nat.ne_of_lt xl).symm
 generalize hh1:((s.heap.push {cls:=.type "dict",data:=.dict #[]}).update x fun o=>{cls:=o.cls,dict:=some s.heap.objs.size,data:=o.data,slots:=o.slots})=h1
 have e1:h1.get? s.heap.objs.size=some PySem.W.emptyDict:=by
  rw [← hh1,Heap.get?_update_ne _ _ _ _ xn]
  exact Heap.get?_push_size _ rfl
 have e2:h1.get? x=some {cls:=.ref C,dict:=some s.heap.objs.size,data:=.fields vs,slots:=sl}:=by
  rw [← hh1]
  exact Heap.get?_update_self _ hx1 rfl
 have e3:h1.Ns s.heap.objs.size (fun _=>none):=⟨PySem.W.emptyDict,#[],_,e1,rfl,(fun e he=>absurd he (by simp)),fun _=>rfl⟩
 have e4:∀b o,b≠x→s.heap.get? b=some o→h1.get? b=some o:=fun b o n q=>by
  rw [← hh1,Heap.get?_update_ne _ _ _ _ n]
  exact Heap.get?_push_of_some _ q
 unfold Builtin.ObjectAttr.storeInDict
 refine wpAny_bind (wpAny_pure (wpAny_bind ?_))
 refine wpAny_nsSet1 (s:={s with heap:=h1,toks:=s.toks + 1}) (Heap.Ns1.of_empty e3) fun h' hn2 hs2=>?_
 have hw:PySem.Within (fun _:Str=>(none:Option Value)) []:=fun y hy=>absurd rfl hy
 obtain ⟨oD,esD,epD,hoD,hdD,hcD⟩:=hn2.count (PySem.Within.cons name v hw)
 refine wpAny_bind (wpAny_lookBehind hoD (by rw [hdD]; exact pastItsLine_dict (Nat.le_trans hcD (by rw [sizeLine_eq]; show 1≤_; omega))) ?_)
 exact wpAny_pure (h _ ((hs2.2 _ xn.symm).trans e2) hn2 fun b o n1 n2 q=>(hs2.2 b n2).trans (e4 b o n1 q))
end
section
variable {prog:Program} {w:World} {A:Around} {E:Value→Shared→Prop} {s:Shared} {K:PySem.W.Frag}
theorem super_at {Q:Value→Shared→Prop} {body:List Stmt} {whole:Sem Value} {fI e C cc c2 L:Addr} {oI oe oC o2:Obj} {fd:FuncData} {cd:ClassData} {p0 p1:Pos} {ar:Arg} {cs:Array Value} {file:Str} {tf:Tok} {mg mb m:Str→Option Value}
  (X:K.In s.heap) (hfI:s.heap.get? fI=some oI) (hfd:oI.data = .func fd)
  (h1:fd.scope.names.lookup ("self" : Str)=some NameKind.local) (h3:fd.scope.names.lookup ("super" : Str)=some NameKind.globalImplicit) (h4:fd.scope.names.lookup ("__class__" : Str)=some NameKind.free) (g3:fd.scope.kind = .function) (hcl:fd.closure=[(("__class__" : Str),cc)])
  (hpa:(fd.params.posonlyargs ++ fd.params.args).head? = some ar) (har:ar.arg = "self") (hcd:fd.code = .ref c2) (hc2:s.heap.get? c2=some o2) (hc3:o2.data = .fields cs) (hc4:cs[2]? = some (.str file tf)) (hfi:(prog.main.file == file)=true)
  (hns:(prog.main.scope.names.lookup ("super" : Str)).isSome=false) (gN:s.heap.Ns fd.globals mg) (gs:mg "super" = none) (bN:s.heap.Ns fd.builtins mb) (bs:mb "super" = some (.type "super")) (hcc:s.heap.IsCell cc (some (.ref C)))
  (hL:s.heap.Ns L m) (hm:m "self" = some (.ref e)) (hC:s.heap.get? C=some oC) (hCd:oC.data = .cls cd) (he:s.heap.get? e=some oe) (hec:oe.cls = .ref C) (hen:∀c,oe.data≠.cls c)
  (hty:PySem.W.Looks (model prog w) s.heap (isType (.ref C)) true) (hself:PySem.W.Looks (model prog w) s.heap (isSubtype (.ref C) (.ref C)) true)
  (hq:∀(h':Heap),h'.get? s.heap.objs.size=some {cls:=.type "super",data:=.fields #[.ref C,.ref e,.ref C]}→(∀b o,s.heap.get? b=some o→h'.get? b=some o)→Q (.ref s.heap.objs.size) {s with heap:=h'}) :
  PySem.wpAt (model prog w) A (Code.func body (callEnv fd L fI)) (attributeBase (.Call (.Name "super" p0) [] [] p1) "__init__" (callEnv fd L fI) whole) Q E s:=by
 refine ks_wpAt_super_base (f:=fI) (cc:=c2) h3 h4 rfl rfl hfI hfd hpa hcd hc2 hc3 hc4 hfi hns ?_
 refine PySem.W.ks_loadName_global g3 h3 ?_
 unfold loadGlobal
 refine wpAny_bind (wpAny_nsGet gN ?_)
 rw [gs]
 refine wpAny_bind (wpAny_nsGet bN ?_)
 rw [bs]
 refine wpAny_pure ⟨rfl,wpAny_loadName_free (c:=cc) g3 h4 (by show List.lookup _ fd.closure=_; rw [hcl]; rfl) hcc ?_⟩
 rw [har]
 refine wpAny_loadName_local g3 h1 hL hm (hty.at ⟨rfl,?_⟩)
 obtain ⟨h,g,d,t,os⟩:=s
 exact ks_wpAny_call_super hC hCd he hec hen hself fun h' a b=>hq h' a b
end
section
variable {prog:Program} {w:World} {A:Around} {E:Value→Shared→Prop} {s:Shared}
theorem with_wrapper {Q:Value→Shared→Prop} {x:Sem Value} {fs:Expr} {env:Env} {pos:Pos} {mw:Addr} {vs:Array Value} (hst:starEach [fs] env=[(false,x)])
  (h:wpAny (model prog w) A x (fun u s1=>s1.heap.get? mw=some {cls:=.type "method-wrapper",data:=.fields vs}∧wpAny (model prog w) A (call (.ref mw) [u]) Q E s1) E s) :
  wpAny (model prog w) A (callWith pos (.ref mw) [] (backTo pos (starEach [fs] env)) []) Q E s:=by
 rw [hst]
 unfold callWith
 refine wpAny_bind (wpAny_holding (Calls.evalArgs_plain ?_))
 unfold spliced
 refine wpAny_bind (wpAny_ite_false rfl (thn h fun u s1 hz=>?_))
 obtain ⟨hm,hc⟩:=hz
 refine wpAny_ite_false rfl (wpAny_bind (wpAny_pure (wpAny_bind (wpAny_holding ?_))))
 unfold spliced
 refine wpAny_pure (wpAny_pure ?_)
 refine wpAny_bind (wpAny_standAt ?_)
 unfold keeperOf
 refine wpAny_bind (wpAny_bind (wpAny_load' hm (wpAny_ite_true (show decide ((Value.type "method-wrapper" != Value.type "method")=true)=true by decide +kernel) (wpAny_pure ?_))))
 have k:(if ((Value.type "method-wrapper" == Value.type "builtin_function_or_method") || (Value.type "method-wrapper" == Value.type "method-wrapper"))=true then Keeper.machine else Keeper.caller)=Keeper.machine:=by decide +kernel
 dsimp only
 rw [k]
 show wpAny (model prog w) A (do let r ← call (Value.ref mw) [u]; holding [r] point; pure r) Q E s1
 exact wpAny_bind (thn hc fun r s2 hr=>wpAny_bind (wpAny_holding (wpAny_point (wpAny_pure hr))))
end
section
variable {prog:Program} {w:World} {A:Around} {s:Shared} {K:PySem.W.Frag}
theorem lookS {Xn:Str} {u v:Value} (h:Xn≠"self"):List.lookup ("self" : Str) [(("self" : Str),v),(Xn,u)].reverse=some v:=by
 show List.lookup ("self" : Str) [(Xn,u),(("self" : Str),v)]=_
 have:(("self" : Str) == Xn)=false:=by simp [Ne.symm h]
 simp [List.lookup,this]
theorem init_run {R:Result→Shared→Prop} {fI e C cc c2:Addr} {oI oC o2:Obj} {fd:FuncData} {cd:ClassData} {Xn:Str} {u:Value} {p0 p1 p2 p3 p4 p5 p6 p7 p8:Pos} {fs:Expr} {ar:Arg} {cs:Array Value} {file:Str} {tf:Tok} {mg mb:Str→Option Value}
  {nm q:Str} {N:Addr} {bs bm:List Value} {hdct:Bool} {sn:List Str} {sub:List Value} {ab:Bool} {col:Option Bool} {dd:Option Addr} {k0 k1 k2 k3 k5:Option Value} {newId:String} {vs:Array Value} {sl:Array (Option Value)} {v0:Value}
  (X:K.In s.heap) (hd:A.depth < recursionLimit) (hfI:s.heap.get? fI=some oI) (hfd:oI.data = .func fd) (lim:s.heap.NoLimit) (hcr:s.heap.CodeRec fd.code fd.qualname)
  (hb:fd.body = .stmts [.Expr (.Call (.Attribute (.Call (.Name "super" p0) [] [] p1) "__init__" p2) [fs] [] p3) p4,.Assign [.Attribute (.Name "self" p5) Xn p6] (.Name Xn p7) p8])
  (hbi:BindsTo s fd ⟨[.ref e,u],[]⟩ [(("self" : Str),.ref e),(Xn,u)]) (hXs:Xn≠"self") (hce:∀x∈fd.scope.names,x.2≠NameKind.cell) (h1:fd.scope.names.lookup ("self" : Str)=some NameKind.local) (hX2:fd.scope.names.lookup Xn=some NameKind.local)
  (h3:fd.scope.names.lookup ("super" : Str)=some NameKind.globalImplicit) (h4:fd.scope.names.lookup ("__class__" : Str)=some NameKind.free) (g1:fd.scope.isCoroutine=false) (g2:fd.scope.isGenerator=false) (g3:fd.scope.kind = .function) (hcl:fd.closure=[(("__class__" : Str),cc)])
  (hpa:(fd.params.posonlyargs ++ fd.params.args).head? = some ar) (har:ar.arg = "self") (hcd:fd.code = .ref c2) (hc2:s.heap.get? c2=some o2) (hc3:o2.data = .fields cs) (hc4:cs[2]? = some (.str file tf)) (hfi:(prog.main.file == file)=true)
  (hns:(prog.main.scope.names.lookup ("super" : Str)).isSome=false) (gN:s.heap.Ns fd.globals mg) (gs:mg "super" = none) (bN:s.heap.Ns fd.builtins mb) (bs':mb "super" = some (.type "super")) (hcc:∀h':Heap,(∀b o,s.heap.get? b=some o→h'.get? b=some o)→h'.IsCell cc (some (.ref C)))
  (hC:s.heap.get? C=some (excClassObj nm q C N bs bm hdct sn sub ab col dd k0 k1 k2 k3 k5 newId)) (T:OwnTail s.heap bmV bm) (he:s.heap.get? e=some {cls:=.ref C,dict:=none,data:=.fields vs,slots:=sl}) (hv0:vs[0]? = some v0) (heC:e≠C)
  (hty:∀h:Heap,K.In h→PySem.W.Looks (model prog w) h (isType (.ref C)) true) (hself:∀h:Heap,K.In h→PySem.W.Looks (model prog w) h (isSubtype (.ref C) (.ref C)) true) (hval:∀h:Heap,K.In h→PySem.W.Looks (model prog w) h (isSubtype (.ref C) (.type "ValueError")) true)
  (hno:∀h:Heap,K.In h→PySem.W.Looks (model prog w) h (opaqueClassAbove (.ref C)) none) (hmr:∀h:Heap,K.In h→PySem.W.Looks (model prog w) h (mroOf (.ref C)) (.ref C :: bm))
  (hst:∀L,starEach [fs] (callEnv fd L fI)=[(false,eval fs (callEnv fd L fI))])
  (pl:Addr→Sem Bool) (heq:∀L,eval (.Call (.Attribute (.Call (.Name "super" p0) [] [] p1) "__init__" p2) [fs] [] p3) (callEnv fd L fI)=do
   let ov ← attributeBase (.Call (.Name "super" p0) [] [] p1) "__init__" (callEnv fd L fI) (eval (.Call (.Name "super" p0) [] [] p1) (callEnv fd L fI))
   standAt p2.atName
   let x ← holding [ov] (getMethod ov "__init__" (pl L))
   match x with
   | (f,first)=>callWith p3 f first (backTo p3 (starEach [fs] (callEnv fd L fI))) []) (hin:∀L,interactive (callEnv fd L fI)=false) (hsw:∀L,swapsWith (.Name Xn p7) (some (.Attribute (.Name "self" p5) Xn p6)) p8.line (callEnv fd L fI)=pure false)
  (hs:PySem.W.findIn K (.ref C) "__setattr__" = some (some (.builtin "object.__setattr__"))) (hp:overV K C=true) (ht:PySem.W.takerIn K C Xn=some none) (hh:PySem.W.hasDictIn K C=true)
  (hdb:(Xn == ("__debug__" : Str))=false) (hKe:∀o,K.lookup e≠some o) (hJ:∀(h:Heap) (vs':Array Value),h.get? e=some {cls:=.ref C,dict:=none,data:=.fields vs',slots:=sl}→PySem.W.InstAt h e {cls:=.ref C,dict:=none,data:=.fields vs',slots:=sl} C none)
  (hq:∀(h':Heap) (dx t:Addr) (tk:Nat),s.heap.get? dx=none→h'.get? e=some {cls:=.ref C,dict:=some dx,data:=.fields (vs.setIfInBounds 0 (.ref t)),slots:=sl}→h'.Ns1 dx (fun y=>if y=Xn then some u else none)→(∀b o,b≠e→s.heap.get? b=some o→h'.get? b=some o)→R (.ok (.ret .none)) {s with heap:=h',toks:=tk})
  (hf:∀(L:Addr) (A1:Around) (s1:Shared) (E1:Value→Shared→Prop) (Q1:Value→Shared→Prop),(s1.heap.Ns L fun x=>List.lookup x [(("self" : Str),Value.ref e),(Xn,u)].reverse)→(∀msg tk,Q1 msg {s1 with toks:=tk})→wpAny (model prog w) A1 (eval fs (callEnv fd L fI)) Q1 E1 s1) :
  codeAny (model prog w) A (.call (.ref fI) ⟨[.ref e,u],[]⟩) R s:=by
 refine ks_codeAny_call_defAt hd hfI hfd lim hcr hb hbi hce ?_ (fun h0 hn hk=>?_) g1 g2 g3
 ·intro x hx
  rcases List.mem_cons.mp hx with z | z
  ·rw [z]; exact h1
  ·rw [List.mem_singleton.mp z]; exact hX2
 have X0:=X.keeps hk
 refine ks_wpAt_execs_cons (ks_wpAt_Expr_any (ks_wpAt_MethodCall (pl:=pl s.heap.objs.size) (super_at (K:=K) (oC:=excClassObj nm q C N bs bm hdct sn sub ab col dd k0 k1 k2 k3 k5 newId) (e:=e) X0 (hk _ _ hfI) hfd h1 h3 h4 g3 hcl hpa har hcd (hk _ _ hc2) hc3 hc4 hfi hns (gN.keeps hk) gs (bN.keeps hk) bs' (hcc _ hk) hn ?self (hk _ _ hC) rfl (hk _ _ he) rfl (by intro c z; cases z) (hty _ X0) (hself _ X0) (fun h1' so1 k1'=>?go)) ?eq) ?i1 ?i2)
 case eq=>exact heq _
 case i1=>exact hin _
 case i2=>rfl
 case self=>exact lookS hXs
 case go=>
  have hk1:∀b o,s.heap.get? b=some o→h1'.get? b=some o:=fun b o z=>k1' _ _ (hk _ _ z)
  have X1:=X.keeps hk1
  have T1:=T.keeps hk1
  refine super_init (l₀:=.ref C :: bm) (l:=bm) so1 (hno _ X1) (hmr _ X1) (by simp) heC T1 (hk1 _ _ he) rfl (hval _ X1) ?_
  refine with_wrapper (hst _) (hf _ _ _ _ _ ?_ fun msg tk=>⟨Heap.get?_push_size _ rfl,?_⟩)
  ·exact (hn.keeps k1').keeps fun b o z=>Heap.get?_push_of_some _ z
  refine call_wrapper (Heap.get?_push_size _ rfl) (Heap.get?_push_of_some _ (hk1 _ _ hC)) (Heap.get?_push_of_some _ (hk1 _ _ he)) rfl rfl hv0 ?_
  dsimp only
  generalize hh1:((h1'.push {cls:=.type "method-wrapper",data:=.fields #[.builtin "ValueError.__init__",.ref e]}).push {cls:=.type "tuple",data:=.seq #[msg]}).update e (Obj.mapFields fun y=>y.setIfInBounds 0 (.ref (h1'.push {cls:=.type "method-wrapper",data:=.fields #[.builtin "ValueError.__init__",.ref e]}).objs.size))=h2
  have e0:((h1'.push {cls:=.type "method-wrapper",data:=.fields #[.builtin "ValueError.__init__",.ref e]}).push {cls:=.type "tuple",data:=.seq #[msg]}).get? e=some {cls:=.ref C,dict:=none,data:=.fields vs,slots:=sl}:=Heap.get?_push_of_some _ (Heap.get?_push_of_some _ (hk1 _ _ he))
  have e2:h2.get? e=some {cls:=.ref C,dict:=none,data:=.fields (vs.setIfInBounds 0 (.ref (h1'.push {cls:=.type "method-wrapper",data:=.fields #[.builtin "ValueError.__init__",.ref e]}).objs.size)),slots:=sl}:=by
   rw [← hh1]
   exact Heap.get?_update_self _ e0 rfl
  have k2:∀b o,b≠e→h1'.get? b=some o→h2.get? b=some o:=fun b o n z=>by
   rw [← hh1,Heap.get?_update_ne _ _ _ _ n]
   exact Heap.get?_push_of_some _ (Heap.get?_push_of_some _ z)
  have k3:∀b o,b≠e→s.heap.get? b=some o→h2.get? b=some o:=fun b o n z=>k2 b o n (hk1 b o z)
  refine ks_wpAt_execs_cons (ks_wpAt_Assign_Attr (PySem.wpAt_of_wpAny ?_) (hsw _))
  have L0:s.heap.objs.size≠e:=(Nat.ne_of_lt (Heap.lt_size he)).symm
  have no2:h2.get? h2.objs.size=none:=Heap.get?_none_of_le (Nat.le_refl _)
  have hn2:h2.Ns s.heap.objs.size fun x=>List.lookup x [(("self" : Str),Value.ref e),(Xn,u)].reverse:=by
   obtain ⟨o,es,ep,z1,z2⟩:=hn.keeps k1'
   exact ⟨o,es,ep,k2 _ _ L0 z1,z2⟩
  have hmX:List.lookup Xn [(("self" : Str),Value.ref e),(Xn,u)].reverse=some u:=by simp [List.lookup]
  have hmS:List.lookup ("self" : Str) [(("self" : Str),Value.ref e),(Xn,u)].reverse=some (Value.ref e):=lookS hXs
  refine wpAny_Name (wpAny_loadName_local g3 hX2 hn2 hmX (wpAny_Name (wpAny_loadName_local g3 h1 hn2 hmS ?_) (by decide))) hdb
  have X2:K.In h2:=fun a o z=>k3 a o (fun y=>hKe o (y ▸ z)) (X a o z)
  refine set_exc X2 (hJ _ _ e2) e2 hs hp ht hh rfl fun h3' y1 y2 y3=>?_
  refine PySem.wpAt_of_wpAny (wpAny_execs_nil ?_)
  refine hq h3' _ _ _ ?_ y1 y2 fun b o n z=>y3 b o n (fun y=>?_) (k3 b o n z)
  ·cases z:s.heap.get? h2.objs.size with
   | none=>rfl
   | some o=>
    by_cases ne:h2.objs.size=e
    ·rw [ne,e2] at no2; cases no2
    ·have:=k3 _ _ ne z
     rw [no2] at this; cases this
  ·have:=k3 _ _ n z
   rw [y,no2] at this; cases this
end
section
variable {prog:Program} {w:World} {A:Around} {E:Value→Shared→Prop} {s:Shared}
theorem fstr_eval {Q:Value→Shared→Prop} {env:Env} {x Xn y:Str} {k:Nat} {pa pb pc pd:Pos} {m:Str→Option Value} {v:V} {u:Value} (g3:env.scope.kind = .function) (hX:env.kindOf Xn=some NameKind.local) (hdb:(Xn == ("__debug__" : Str))=false)
  (hn:s.heap.Ns env.locals m) (hm:m Xn=some u) (r:RelV v u) (sh:Shown v y) (hx:(Str.empty ++ x).length≤sizeLine) (hl:(Str.empty ++ x ++ y).length≤sizeLine) (hq:∀msg tk,Q msg {s with toks:=tk}) :
  wpAny (model prog w) A (eval (.JoinedStr [.Constant (.str x) k pa,.FormattedValue (.Name Xn pb) (-1) none pc] pd) env) Q E s:=by
 refine wpAny_JoinedStr (Joins_cons (Calls.Constant_str ⟨x,_,rfl,hx,Joins_cons (wpAny_FormattedValue_plain (wpAny_Name (wpAny_loadName_local g3 hX hn hm ?_) hdb))⟩))
 cases sh with
 | int hz=>
  obtain ⟨t1,rfl⟩:=r
  exact wpAny_formatField_int hz ⟨_,_,rfl,hl,⟨hl,hq _ _⟩⟩
 | str hz=>
  obtain ⟨t1,rfl⟩:=r
  exact wpAny_formatField_str ⟨_,_,rfl,hl,⟨hl,hq _ _⟩⟩ ⟨_,_,rfl,hl,⟨hl,hq _ _⟩⟩ hz
 | non=>
  cases r
  exact wpAny_formatField_none ⟨_,_,rfl,hl,⟨hl,hq _ _⟩⟩
end
section
variable {nm q:Str} {C N:Addr} {bs bm:List Value} {hdct:Bool} {sn:List Str} {sub:List Value} {ab:Bool} {col:Option Bool} {dd:Option Addr} {k0 k1 k2 k3 k5:Option Value} {newId:String}
theorem raise_madeD {M:Model} {A:Around} {E:Value→Shared→Prop} {env:Env} {s:Shared} {x:Sem Value} {Q:Flow→Shared→Prop} (hbase:bm.contains (.type "BaseException")=true) (hh:A.handled=none)
  (h:wpAny M A x (fun v s1=>∃e dx vs sl,v = .ref e∧s1.heap.get? C=some (excClassObj nm q C N bs bm hdct sn sub ab col dd k0 k1 k2 k3 k5 newId)∧s1.heap.get? e=some {cls:=.ref C,dict:=dx,data:=.fields vs,slots:=sl}∧vs[1]? = some .none∧vs[2]? = some .none∧E (.ref e) s1) E s) :
  wpAny M A (raiseStmt env (some x) none) Q E s:=by
 have up:(Value.ref C :: bm).contains (.type "BaseException")=true:=by rw [List.contains_cons,hbase,Bool.or_true]
 unfold raiseStmt
 refine wpAny_bind (wpAny_mono h (fun v s1 h1=>?_) fun _ _ z=>z)
 obtain ⟨e,dx,vs,sl,rfl,hC,he,v1,v2,hE⟩:=h1
 obtain ⟨hp,g,d,tk,os⟩:=s1
 repeat (first | with_reducible refine wpAny_loadPart_at he ?_ | with_reducible refine wpAny_loadPart_at hC ?_ | (with_reducible refine wpAny_isSubtype_exc hC ?_; rw [up]) | wp_step)
 rw [v1]
 exact wpAny_pure (wpAny_ite_false (by decide) (wpAny_pure (wpAny_raiseNew_none hh hE)))
theorem raise_callI {prog:Program} {w:World} {A:Around} {E:Value→Shared→Prop} {env:Env} {s:Shared} {mN:Str→Option Value} {x:Str} {np cpos pos:Pos} {args:List Expr} {fI:Addr} {Q:Flow→Shared→Prop}
  (hbase:bm.contains (.type "BaseException")=true) (hh:A.handled=none) (hpl:(backTo cpos (starEach args env)).any (·.1)=false) (hi:mN (Str.ofString "__init__")=some (.ref fI))
  (h:wpAny (model prog w) A (eval (.Name x np) env) (fun f s1=>f = .ref C∧wpAny (model prog w) A (evalArgs (.ref C) true (backTo cpos (starEach args env)) [])
   (fun a s2=>a.kw=[]∧a.pos.length≤sizeLine∧s2.heap.get? C=some (excClassObj nm q C N bs bm hdct sn sub ab col dd k0 k1 k2 k3 k5 "ValueError.__new__")∧s2.heap.Ns N mN∧OwnTail s2.heap bmV bm∧(∃oI,s2.heap.get? fI=some oI∧oI.cls = .type "function")∧
    ∀h' e,Heap.MadeExcOf s2.heap h' e (.ref C) a.pos→wpAny (model prog w) (A.under (Code.builtin "type.__call__" {pos:=Value.ref C :: a.pos})) (call (.ref fI) (.ref e :: a.pos))
     (fun r s'=>r = .none∧∃dx vs sl,s'.heap.get? C=some (excClassObj nm q C N bs bm hdct sn sub ab col dd k0 k1 k2 k3 k5 "ValueError.__new__")∧s'.heap.get? e=some {cls:=.ref C,dict:=dx,data:=.fields vs,slots:=sl}∧vs[1]? = some .none∧vs[2]? = some .none∧E (.ref e) s') E {s2 with heap:=h'}) E s1) E s) :
  wpAny (model prog w) A (exec (.Raise (some (.Call (.Name x np) args [] cpos)) none pos) env) Q E s:=by
 rw [arm_exec_Raise]
 refine wpAny_bind (wpAny_standAt (raise_madeD (C:=C) (nm:=nm) (q:=q) (N:=N) (bs:=bs) (bm:=bm) (hdct:=hdct) (sn:=sn) (sub:=sub) (ab:=ab) (col:=col) (dd:=dd) (k0:=k0) (k1:=k1) (k2:=k2) (k3:=k3) (k5:=k5) (newId:="ValueError.__new__") hbase hh ?_))
 refine wpAny_bind (wpAny_mono (wpAny_Call_ofName (wpAny_mono h (fun f s1 h1=>?_) fun _ _ z=>z)) (fun v s3 h3=>wpAny_bind (wpAny_standAt (wpAny_pure h3))) fun _ _ z=>z)
 obtain ⟨rfl,h1⟩:=h1
 unfold callWith
 refine wpAny_bind (wpAny_holding (wpAny_mono h1 (fun a s2 h2=>wpAny_bind (wpAny_standAt ?_)) fun _ _ z=>z))
 obtain ⟨ap,ak⟩:=a
 obtain ⟨hk,hl,hC,hn,T,⟨oI,hf,hfc⟩,h2⟩:=h2
 obtain rfl:ak=[]:=hk
 obtain ⟨hp,g,d,tk,os⟩:=s2
 simp only [hpl]
 refine wpAny_bind (wpAny_keeperOf_exc hC ?_)
 refine wpAny_bind (call_initT (hrest:=hl) PySem.F.excBase_ValueError T hC hn hi hf hfc fun h' e hm=>?_)
 refine wpAny_mono (h2 h' e hm) (fun r s' z=>⟨z.1,wpAny_bind (wpAny_holding (wpAny_point (wpAny_pure ?_)))⟩) fun _ _ z=>z
 obtain ⟨_,dx,vs,sl,z1,z2,z3,z4,z5⟩:=z
 exact ⟨e,dx,vs,sl,rfl,z1,z2,z3,z4,z5⟩
end
structure InitK (P:Program) (w:World) (K:PySem.W.Frag) (mg:Str→Option Value) (C fI:Addr) (Xn:Str):Prop where
 obj:∀{h:Heap},K.In h→∃bm N nm qn bs hd sn sub ab col dd k0 k1 k2 k3 k5 mN,h.get? C=some (excClassObj nm qn C N bs bm hd sn sub ab col dd k0 k1 k2 k3 k5 "ValueError.__new__")∧h.Ns N mN∧mN (Str.ofString "__init__")=some (.ref fI)∧OwnTail h bmV bm
 fn:∃oI,K.lookup fI=some oI∧oI.cls = .type "function"
 run:∀(A:Around) (s:Shared) (e:Addr) (v:V) (u:Value) (y:Str) (R:Result→Shared→Prop) (vs:Array Value) (sl:Array (Option Value)) (v0:Value),K.In s.heap→A.depth < recursionLimit→s.heap.NoLimit→s.heap.Ns mainGlobals mg→
  (∃mb,s.heap.Ns builtinsNs mb∧∀x:Str,x≠"__name__"→mb x=bootBuiltins x)→s.heap.get? e=some {cls:=.ref C,dict:=none,data:=.fields vs,slots:=sl}→vs[0]? = some v0→K.lookup e=none→RelV v u→Shown v y→y.length≤700→
  (∀(h':Heap) (dx t:Addr) (tk:Nat),s.heap.get? dx=none→h'.get? e=some {cls:=.ref C,dict:=some dx,data:=.fields (vs.setIfInBounds 0 (.ref t)),slots:=sl}→h'.Ns1 dx (fun y=>if y=Xn then some u else none)→
   (∀b o,b≠e→s.heap.get? b=some o→h'.get? b=some o)→R (.ok (.ret .none)) {s with heap:=h',toks:=tk})→codeAny (model P w) A (.call (.ref fI) ⟨[.ref e,u],[]⟩) R s
def tRaiseI (C:Addr) (Xn:Str) (E:XK) (t:TA):TS:=fun _ σ H=>t σ H fun vs H1=>∃v,vs=[v]∧(∃y,Shown v y∧y.length≤700)∧∀dx,H1 dx=none→E (.ref C) (some dx) (upd H1 dx (.xd [(Xn,v)]))
theorem un_new {fs ex:List Addr} {H H':Hp} {h h':Heap} {a:Addr} {o:HO} (u:Un fs ex H H' h h') (n:h.get? a=none) (e:H' a=none):Un fs ex H (upd H' a o) h h':=
  have ne:∀b u,H' b=some u→b≠a:=fun b u q z=>by rw [z,e] at q; cases q
  ⟨u.keep,u.slot,fun b o q m hx=>by rw [upd_ne (fun z=>by rw [z,n] at q; cases q)]; exact u.free b o q m hx,u.there,fun b xs q=>by rw [upd_ne (ne b _ (u.tups b xs q))]; exact u.tups b xs q,
   fun b o xs q=>by rw [upd_ne (ne b _ (u.frzs b o xs q))]; exact u.frzs b o xs q,fun b p q=>by
    obtain ⟨m,z⟩:=u.tbls b p q
    exact ⟨m,by rw [upd_ne (ne b _ z)]; exact z⟩⟩
theorem hok_new {P:Program} {w:World} {H:Hp} {h h':Heap} {a:Addr} {o:HO} (x:HOk P w H h) (k:∀b u,h.get? b=some u→h'.get? b=some u) (e:H a=none) (new:ObjOk P w (upd H a o) h' a o):HOk P w (upd H a o) h':=fun b u q=>by
 by_cases hb:b=a
 ·subst hb
  rw [upd_same] at q; cases q
  exact new
 ·rw [upd_ne hb] at q
  have ne:∀c v,H c=some v→c≠a:=fun c v r z=>by rw [z,e] at r; cases r
  exact (x b u q).stay (fun c v _ r=>k c v r) (fun c r=>by rw [upd_ne (ne c _ r)]; exact r) fun c xs r=>by rw [upd_ne (ne c _ r)]; exact r
section
variable {P:Program} {w:World} {K:PySem.W.Frag} {mg:Str→Option Value} {base:Heap} {N:List Str} {qual:Str} {scope:Scope} {f:Addr} {cd:Value} {A:Around} {outer:List Env} {s:Shared} {H:Hp} {E:XK}
theorem ps_raiseI {x Xn:Str} {C fI:Addr} {e0:Expr} {t:TA} {k:Nat} {np cpos pos:Pos} (hA:Room (k + 1) (cxOf (CXE P w) P w K mg base N qual scope f cd A outer s H E).A)
  (hc:(cxOf (CXE P w) P w K mg base N qual scope f cd A outer s H E).calm=true) (hg:Gl (cxOf (CXE P w) P w K mg base N qual scope f cd A outer s H E) x) (hm:mg x=some (.ref C)) (q:InitK P w K mg C fI Xn) (ha:PA (cxOf (CXE P w) P w K mg base N qual scope f cd A outer s H E) [e0] t) (hd:(x == ("__debug__" : Str))=false:=by decide)
  (he:starEach [e0] (cxOf (CXE P w) P w K mg base N qual scope f cd A outer s H E).env=[(false,eval e0 (cxOf (CXE P w) P w K mg base N qual scope f cd A outer s H E).env)]:=by rfl) :
  PS (cxOf (CXE P w) P w K mg base N qual scope f cd A outer s H E) (.Raise (some (.Call (.Name x np) [e0] [] cpos)) none pos) (tRaiseI C Xn E t):=by
 intro pins s0 σ H0 D I h
 obtain ⟨bm,Nn,nm,qn,bs,hdt,sn,sub,ab,col,dd,k0,k1,k2,k3,k5,mN,hC,hN,hi,T⟩:=q.obj I.mod.kin
 refine raise_callI (C:=C) (nm:=nm) (q:=qn) (N:=Nn) (bs:=bs) (bm:=bm) (hdct:=hdt) (sn:=sn) (sub:=sub) (ab:=ab) (col:=col) (dd:=dd) (k0:=k0) (k1:=k1) (k2:=k2) (k3:=k3) (k5:=k5) (mN:=mN) (T.hasType PySem.F.excBase_ValueError.hasBase) (I.ok.hd hc) (by rw [he]; rfl) hi (ld_glob I hg hm ⟨rfl,?_⟩ hd)
 have hb:=ha cpos pins s0 σ H0 _ I h
 rw [he] at hb ⊢
 refine Calls.evalArgs_plain (thn hb fun us s1 ⟨vs,H1,I1,r1,v,hv,⟨y,sh,hy⟩,z⟩=>?_)
 subst hv
 obtain ⟨oI,lI,cI⟩:=q.fn
 cases r1 with
 | @cons _ u _ _ r rt=>
 cases rt
 refine ⟨rfl,(by show 1≤sizeLine; decide),I1.bk _ _ hC,hN.keeps I1.bk,T.keeps I1.bk,⟨oI,I1.kIn _ _ lI,cI⟩,fun h' e hm=>?_⟩
 obtain ⟨t1,e1,t2,t3⟩:=hm.there
 obtain ⟨mb,b1,b2⟩:=I1.mod.blt
 have kb:∀b o,base.get? b=some o→h'.get? b=some o:=fun b o z=>hm.keeps _ _ (I1.bk b o z)
 have lk:K.lookup e=none:=by
  cases z:K.lookup e with
  | none=>rfl
  | some o=>have y:=I1.kIn _ _ z; rw [hm.new] at y; cases y
 refine wpAny_call (q.run _ {s1 with heap:=h'} e v u y _ _ _ _ (I1.kIn.keeps hm.keeps) (hA.make C [u] []).depth (I1.nolimit.keeps hm.keeps) (I1.mod.glob.keeps kb) ⟨mb,b1.keeps kb,b2⟩ e1 rfl lk r sh hy fun h2 dx t' tk n1 n2 n3 n4=>?_)
 have k2:∀b o,s1.heap.get? b=some o→h2.get? b=some o:=fun b o z=>n4 b o (fun y=>by rw [y,hm.new] at z; cases z) (hm.keeps b o z)
 have dn:s1.heap.get? dx=none:=by
  cases z:s1.heap.get? dx with
  | none=>rfl
  | some o=>have y:=hm.keeps _ _ z; rw [n1] at y; cases y
 have hdx:=I1.hok.none_of dn
 have ed:e≠dx:=fun y=>by rw [← y,e1] at n1; cases n1
 have nw:ObjOk P w (upd H1 dx (.xd [(Xn,v)])) h2 dx (.xd [(Xn,v)]):=⟨_,n3,fun f=>by
  by_cases hf:f=Xn
  ·subst hf; simp only [List.lookup,beq_self_eq_true,if_true]; exact r
  ·have z:(f == Xn)=false:=beq_eq_false_iff_ne.mpr hf
   simp only [List.lookup,z,if_neg hf]; exact trivial⟩
 exact ⟨rfl,some dx,_,_,k2 _ _ (I1.bk _ _ hC),n2,rfl,rfl,
  throw_out (s2:={s1 with heap:=h2,toks:=tk}) I1 rfl I1.bare (un_new (Un.kept k2) dn hdx) (hok_new I1.hok k2 hdx nw) (by rw [upd_ne ed]; exact I1.hok.none_of hm.new) hm.new n2 rfl rfl rfl (z dx hdx)⟩
end
section
variable {prog:Program} {w:World} {A:Around} {E:Value→Shared→Prop} {K:PySem.W.Frag} {C e:Addr} {ox:Obj} {od:Option Obj}
theorem ga_own {s:Shared} {name:Str} {tk:Tok} {v:Value} {Q:PySem.Fin→Shared→Prop} (X:K.In s.heap) (J:PySem.W.InstAt s.heap e ox C od) (hf:PySem.W.findObj K C od name=some (.value v)) (h:Q (.done (.ret v)) s) :
  wpAny (model prog w) A (Builtin.«object.__getattribute__» ⟨[.ref e,.str name tk],[]⟩) Q E s:=by
 obtain ⟨hh,gg,d,t,os⟩:=s
 have T0:=J.type (M:=model prog w)
 have T1:=PySem.W.looks_find (M:=model prog w) X J hf
 unfold Builtin.«object.__getattribute__»
 repeat (first | with_reducible refine T0.at ?_ | with_reducible refine T1.at ?_ | wp_step)
 exact h
theorem exc_attr {s:Shared} {name:Str} {v:Value} {expr:Bool} {Q:Value→Shared→Prop} (c:ClsX K C) (X:K.In s.heap) (J:PySem.W.InstAt s.heap e ox C od) (hf:PySem.W.findObj K C od name=some (.value v)) (hv:PySem.W.handedIn v=true) (h:Q v {s with toks:=s.toks + 1}) :
  wpAny (model prog w) A (getAttr (.ref e) name expr) Q E s:=by
 obtain ⟨hh,gg,d,t,os⟩:=s
 have T0:=J.type (M:=model prog w)
 have T1:=PySem.W.looks_findIn (M:=model prog w) X c.ga
 have T2:=PySem.W.looks_findIn (M:=model prog w) X c.no
 have f3:=PySem.F.attr_ValueError.ga.bind (.ref e)
 unfold getAttr getAttrBy
 refine wpAny_bind (wpAny_mkText (wpAny_holding (wpAny_bind (T0.at (wpAny_bind (T1.at ?_))))))
 have e1:(onTheHeap (Value.ref C) && Value.builtin "BaseException.__getattribute__" == Value.builtin "object.__getattribute__")=false:=by
  have z:(Value.builtin "BaseException.__getattribute__" == Value.builtin "object.__getattribute__")=false:=by decide +kernel
  rw [z,Bool.and_false]
 dsimp only
 rw [e1]
 simp only [Bool.false_eq_true,if_false]
 unfold getAttrByItsOwn hookBefore
 repeat (first | with_reducible refine T2.at ?_ | assumption | wp_step)
 refine wpAny_ite_false (by cases expr <;> rfl) ?_
 unfold boundAndCalled
 repeat (first | assumption | wp_step)
 refine codeAny_call_builtin PySem.F.attr_ValueError.ga.plain F.entry_bexc_ga (ga_check c X J (ga_own X J hf ?_))
 show wpAny (model prog w) A (handedOut v) _ _ _
 exact PySem.W.handed_on hv h
end
def tXd (K:PySem.W.Frag) (ta:TE) (f:Str):TE:=fun σ H Q=>ta σ H fun x H1=>∃e C d fs v,x = .ref e∧H1 e=some (ExcD C e (some d))∧H1 d=some (.xd fs)∧ClsX K C∧PySem.W.findIn K (.ref C) f=some none∧fs.lookup f=some v∧Q v H1
theorem pe_xd {X:Cx} {o:Expr} {f:Str} {pos:Pos} {ta:TE} (he:PE X o ta) (hb:attributeBase o f X.env (eval o X.env)=eval o X.env:=by rfl):PE X (.Attribute o f pos) (tXd X.K ta f):=by
 intro pins s σ H Q I h
 refine attr_of hb (thn (he pins s σ H _ I h) fun u s1 ⟨x,H1,I1,rx,e,C,d,fs,v,ex,ee,ed,c,n,l,q⟩=>?_)
 subst ex
 obtain rfl:u=Value.ref e:=rx
 obtain ⟨⟨o,h1,h2,h3,h4⟩,_⟩:=I1.hok _ _ ee
 obtain ⟨mA,ns,r⟩:=I1.hok _ _ ed
 obtain ⟨od,g1,g2⟩:=lookIn_ns ns
 obtain ⟨u,hu,ru⟩:=RelO.some_of (v:=v) (o:=mA f) (by rw [← l]; exact r f)
 have J:PySem.W.InstAt s1.heap e o C (some od):=⟨h1,h2,h4,by rw [h3]; exact g1⟩
 exact exc_attr c I1.kIn J (PySem.W.findObj_own c.hd n rfl (by rw [g2,hu])) (handed_of ru) ⟨v,H1,I1.tok _,ru,q⟩
theorem ns_some {K:PySem.W.Frag} {h:Heap} {N:Addr} {m:Str→Option Value} {x:Str} {v:Value} (X:K.In h) (G:h.Ns N m) (e:PySem.W.nsIn K N x=some (some v)):m x=some v:=by
 obtain ⟨o,es,ep,g1,g2,_,g3⟩:=G
 unfold PySem.W.nsIn at e
 split at e
 next a b fs fp sl lk=>
  have z:=(X _ _ lk).symm.trans g1
  cases z
  cases g2
  split at e
  next en hen=>
   cases e
   rw [← g3]
   unfold nsFind findBy
   rw [← Array.find?_toList,hen]
   rfl
  next=>
   split at e
   ·cases e
   ·cases e
 next=>cases e
theorem strLen (a b:Str):(a ++ b).length=a.length + b.length:=by
 show (a.cps ++ b.cps).size=a.cps.size + b.cps.size
 exact Array.size_append ..
theorem super_boot:bootBuiltins "super" = some (.type "super"):=by decide +kernel
theorem initK_mk {P:Program} {w:World} {K:PySem.W.Frag} {mg:Str→Option Value} {C fI cc c2:Addr} {Xn msg:Str} {odf o2d occd:Option Addr} {slf o2s ocs:Array (Option Value)} {o2c occ:Value} {fd:FuncData} {cs:Array Value} {file:Str} {tf:Tok} {ar:Arg} {k:Nat} {p0 p1 p2 p3 p4 p5 p6 p7 p8 pa pb pc pd:Pos}
  {bm:List Value} {N:Addr} {nm qn:Str} {bs:List Value} {hd ab:Bool} {sn:List Str} {sub:List Value} {col:Option Bool} {dd:Option Addr} {k0 k1 k2 k3 k5:Option Value} (lC:K.lookup C=some (excClassObj nm qn C N bs bm hd sn sub ab col dd k0 k1 k2 k3 k5 "ValueError.__new__")) (tl:PySem.W.tailIn K bmV bm=true) (no:PySem.W.nsOkIn K N=true) (ni:PySem.W.nsIn K N "__init__" = some (some (.ref fI))) (lf:K.lookup fI=some ⟨.type "function",odf,.func fd,slf⟩) (cq:PySem.W.codeIn K fd.code fd.qualname=true)
  (hb:fd.body = .stmts [.Expr (.Call (.Attribute (.Call (.Name "super" p0) [] [] p1) "__init__" p2) [.JoinedStr [.Constant (.str msg) k pa,.FormattedValue (.Name Xn pb) (-1) none pc] pd] [] p3) p4,.Assign [.Attribute (.Name "self" p5) Xn p6] (.Name Xn p7) p8])
  (hbi:∀(s:Shared) (e:Addr) (u:Value),BindsTo s fd ⟨[.ref e,u],[]⟩ [(("self" : Str),.ref e),(Xn,u)]) (hXs:Xn≠"self") (hce:∀x∈fd.scope.names,x.2≠NameKind.cell) (h1:fd.scope.names.lookup ("self" : Str)=some NameKind.local) (hX2:fd.scope.names.lookup Xn=some NameKind.local)
  (h3:fd.scope.names.lookup ("super" : Str)=some NameKind.globalImplicit) (h4:fd.scope.names.lookup ("__class__" : Str)=some NameKind.free) (g1:fd.scope.isCoroutine=false) (g2:fd.scope.isGenerator=false) (g3:fd.scope.kind = .function) (hcl:fd.closure=[(("__class__" : Str),cc)])
  (hpa:(fd.params.posonlyargs ++ fd.params.args).head? = some ar) (har:ar.arg = "self") (hcd:fd.code = .ref c2) (lc2:K.lookup c2=some ⟨o2c,o2d,.fields cs,o2s⟩) (hc4:cs[2]? = some (.str file tf)) (hfi:(P.main.file == file)=true)
  (hns:(P.main.scope.names.lookup ("super" : Str)).isSome=false) (hgl:fd.globals=mainGlobals) (hbl:fd.builtins=builtinsNs) (gs:PySem.W.nsIn K mainGlobals "super" = some none) (lcc:K.lookup cc=some ⟨occ,occd,.cell (some (.ref C)),ocs⟩)
  (m1:PySem.W.mroIn K C (.ref C)=some true) (m2:PySem.W.mroIn K C (.type "ValueError")=some true) (op:PySem.W.nsIn K cStatics "thirdparty.any" = some none)
  (hline:(p2.endLine == p3.line)=true)
  (hin:∀L,interactive (callEnv fd L fI)=false) (hsw:∀L,swapsWith (.Name Xn p7) (some (.Attribute (.Name "self" p5) Xn p6)) p8.line (callEnv fd L fI)=pure false)
  (hs:PySem.W.findIn K (.ref C) "__setattr__" = some (some (.builtin "object.__setattr__"))) (hp:overV K C=true) (ht:PySem.W.takerIn K C Xn=some none) (hh:PySem.W.hasDictIn K C=true)
  (hdb:(Xn == ("__debug__" : Str))=false) (hml:msg.length≤100):InitK P w K mg C fI Xn:=by
 have obj:∀{h:Heap},K.In h→h.Ns N (h.nsMap N):=fun X=>.of_isNs (PySem.W.isNs_of_in X no)
 refine ⟨fun {h} X=>⟨bm,N,nm,qn,bs,hd,sn,sub,ab,col,dd,k0,k1,k2,k3,k5,h.nsMap N,X _ _ lC,obj X,ns_some X (obj X) ni,PySem.W.tail_of_in X tl⟩,⟨_,lf,rfl⟩,?_⟩
 intro A s e v u y R vs sl v0 X hdp lim gN ⟨mb,bN,bb⟩ he hv0 lk r sh hy hq
 obtain ⟨cdx,hcd',hmx⟩:∃cdx,PySem.W.clsIn K C=some cdx∧cdx.mro = .ref C :: bm:=⟨_,by unfold PySem.W.clsIn; rw [lC],rfl⟩
 have heC:e≠C:=fun z=>by rw [z,lC] at lk; cases lk
 have heq:∀L,eval (.Call (.Attribute (.Call (.Name "super" p0) [] [] p1) "__init__" p2) [.JoinedStr [.Constant (.str msg) k pa,.FormattedValue (.Name Xn pb) (-1) none pc] pd] [] p3) (callEnv fd L fI)=(do
   let ov ← attributeBase (.Call (.Name "super" p0) [] [] p1) "__init__" (callEnv fd L fI) (eval (.Call (.Name "super" p0) [] [] p1) (callEnv fd L fI))
   standAt p2.atName
   let x ← holding [ov] (getMethod ov "__init__" (do return (← importBound (.Call (.Name "super" p0) [] [] p1) (callEnv fd L fI)).getD true))
   match x with
   | (f,first)=>callWith p3 f first (backTo p3 (starEach [.JoinedStr [.Constant (.str msg) k pa,.FormattedValue (.Name Xn pb) (-1) none pc] pd] (callEnv fd L fI))) []):=fun L=>by
  rw [arm_eval_Call]
  unfold methodCall calleeOf methodCallPos
  rw [hline]
  rfl
 refine init_run (cd:=cdx) (oC:=⟨.none,none,.plain,#[]⟩) (C:=C) (cc:=cc) (c2:=c2) (Xn:=Xn) (u:=u) X hdp (X _ _ lf) rfl lim (PySem.W.codeRec_of X cq) hb (hbi s e u) hXs hce h1 hX2 h3 h4 g1 g2 g3 hcl hpa har hcd (X _ _ lc2) rfl hc4 hfi hns (hgl ▸ gN) (PySem.W.ns_none_of X gN gs) (hbl ▸ bN) ((bb "super" (by decide)).trans super_boot)
  (fun h' k=>⟨_,k _ _ (X _ _ lcc),rfl⟩) (X _ _ lC) (PySem.W.tail_of_in X tl) he hv0 heC (fun h Y=>looks_isType Y (by rw [hcd']; rfl)) (fun h Y=>PySem.W.looks_mroIn Y m1) (fun h Y=>PySem.W.looks_mroIn Y m2) (fun h Y=>PySem.W.looks_opaque Y op) (fun h Y=>hmx ▸ (PySem.W.looks_clsIn Y hcd').andThen .now) (fun L=>rfl) _ heq hin hsw hs hp ht hh hdb
  (fun o z=>by rw [lk] at z; cases z) (fun h vs' z=>⟨z,rfl,rfl,trivial⟩) hq ?_
 intro L A1 s1 E1 Q1 hn hq1
 have len:∀z:Str,z.length≤800→z.length≤sizeLine:=fun z h=>Nat.le_trans h (by rw [sizeLine_eq]; decide)
 refine fstr_eval (v:=v) (u:=u) (y:=y) g3 hX2 hdb hn (by simp [List.lookup]) r sh ?_ ?_ hq1
 ·exact len _ (by rw [strLen]; show 0 + msg.length≤800; omega)
 ·exact len _ (by rw [strLen,strLen]; show 0 + msg.length + y.length≤800; omega)
structure FunG (K:PySem.W.Frag) (x qual:Str) (st:Stmt) (dV:Value) (f:Addr) (fd:FuncData):Prop where
 ex:∃(oc:Value) (od:Option Addr) (kV doc pm:Value) (an:Option Addr) (cdv ct:Value) (osl:Array (Option Value)),
  fd=PySem.W.fnOf x qual (defArgs st) (defBody st) (defScope st) dV kV doc pm an cdv ct∧K.lookup f=some ⟨oc,od,.func fd,osl⟩∧PySem.W.codeIn K cdv qual=true
 kp:PySem.W.keepIn K (.ref f)=true
section
variable {P:Program} {w:World} {K:PySem.W.Frag} {mg:Str→Option Value} {base:Heap} {x qual:Str} {st:Stmt} {dV:Value} {f:Addr} {fd:FuncData} {N ps:List Str} {k:Nat} {sp:Sp}
theorem FunG.okE (F:FunG K x qual st dV f fd) (S:FnScope N ps (defScope st)) (len:∀vs H Q E,sp vs H Q E→vs.length=ps.length)
  (hbody:∀(cdv:Value) (A:Around) (outer:List Env) (s:Shared) (H:Hp) (vs:List V) (Q:VK) (E:XK),Room k (A.deeper (envOfC qual (defScope st) s.heap.objs.size f cdv))→sp vs H Q E→
   ∃t,PSs (cxOf (CXE P w) P w K mg base N qual (defScope st) f cdv A outer s H E) (defBody st) t∧t {nx:=fun _ H'=>Q .non H',rt:=Q} (start N vs) H):FnOk P w K mg base (CXE P w) (k + 1) f fd ps sp:=by
 obtain ⟨oc,od,kV,doc,pm,an,cdv,ct,osl,rfl,lk,hcd⟩:=F.ex
 exact fn_of lk hcd S len fun A outer s H vs Q E hr hsp=>hbody cdv A outer s H vs Q E hr hsp
theorem FunG.okN (F:FunG K x qual st dV f fd) (S:FnScope N ps (defScope st)) (len:∀vs H Q E,sp vs H Q E→vs.length=ps.length)
  (hbody:∀(cdv:Value) (A:Around) (outer:List Env) (s:Shared) (H:Hp) (vs:List V) (Q:VK) (E:XK),Room k (A.deeper (envOfC qual (defScope st) s.heap.objs.size f cdv))→sp vs H Q E→
   ∃t,PSs (cxOf (CXE P w) P w K mg base N qual (defScope st) f cdv A outer s H E).nox (defBody st) t∧t {nx:=fun _ H'=>Q .non H',rt:=Q} (start N vs) H):FnOk P w K mg base (CXE P w) (k + 1) f fd ps sp:=
 F.okE S len fun cdv A outer s H vs Q E hr hsp=>by
  obtain ⟨t,h,q⟩:=hbody cdv A outer s H vs Q E hr hsp
  exact ⟨t,h.nox,q⟩
theorem FunG.binds (F:FunG K x qual st .none f fd)
  (h:∀(kV doc pm:Value) (an:Option Addr) (cdv ct:Value) (us:List Value),us.length=ps.length→bindArgs (PySem.W.fnOf x qual (defArgs st) (defBody st) (defScope st) .none kV doc pm an cdv ct) ⟨us,[]⟩=pure (ps.zip us)):Binds K fd ps []:=by
 obtain ⟨oc,od,kV,doc,pm,an,cdv,ct,osl,rfl,lk,hcd⟩:=F.ex
 exact .all (h kV doc pm an cdv ct)
theorem fung_mk {oc:Value} {od an:Option Addr} {osl:Array (Option Value)} {kV doc pm cdv ct:Value} (l:K.lookup f=some ⟨oc,od,.func (PySem.W.fnOf x qual (defArgs st) (defBody st) (defScope st) dV kV doc pm an cdv ct),osl⟩)
  (c:PySem.W.codeIn K cdv qual=true) (k:PySem.W.keepIn K (.ref f)=true):FunG K x qual st dV f (PySem.W.fnOf x qual (defArgs st) (defBody st) (defScope st) dV kV doc pm an cdv ct):=⟨⟨oc,od,kV,doc,pm,an,cdv,ct,osl,rfl,l,c⟩,k⟩
end
inductive Th (H:Hp):V→Prop where
 | non:Th H .non
 | bl (b:Bool):Th H (.bl b)
 | int (i:Int):Th H (.int i)
 | str (x:Str):Th H (.str x)
 | lst {a:Addr} {xs:List V} (h:H a=some (.lst xs)):Th H (.ref a)
 | tup {a:Addr} {xs:List V} (h:H a=some (.tup xs)):Th H (.ref a)
 | dK {a:Addr} {xs:List (Key × V)} (h:H a=some (.dK xs)):Th H (.ref a)
def isI:V→Bool
 | .int _=>true
 | .bl _=>true
 | _=>false
def isB:V→Bool
 | .bl _=>true
 | _=>false
def isW:V→Bool
 | .int _=>true
 | _=>false
theorem isW_eq (x:V):(if isI x=true then !isB x else false)=isW x:=by cases x <;> rfl
theorem ki1 {K:PySem.W.Frag}:PySem.W.kitOne K (.type "int") (.type "int")=some true:=by kernel_rfl
theorem ki2 {K:PySem.W.Frag}:PySem.W.kitOne K (.type "bool") (.type "int")=some true:=by kernel_rfl
theorem ki3 {K:PySem.W.Frag}:PySem.W.kitOne K (.type "NoneType") (.type "int")=some false:=by kernel_rfl
theorem ki4 {K:PySem.W.Frag}:PySem.W.kitOne K (.type "str") (.type "int")=some false:=by kernel_rfl
theorem ki5 {K:PySem.W.Frag}:PySem.W.kitOne K (.type "list") (.type "int")=some false:=by kernel_rfl
theorem ki6 {K:PySem.W.Frag}:PySem.W.kitOne K (.type "tuple") (.type "int")=some false:=by kernel_rfl
theorem ki7 {K:PySem.W.Frag}:PySem.W.kitOne K (.type "dict") (.type "int")=some false:=by kernel_rfl
theorem kb1 {K:PySem.W.Frag}:PySem.W.kitOne K (.type "int") (.type "bool")=some false:=by kernel_rfl
theorem kb2 {K:PySem.W.Frag}:PySem.W.kitOne K (.type "bool") (.type "bool")=some true:=by kernel_rfl
theorem kt1 {K:PySem.W.Frag}:PySem.W.kitOne K (.type "tuple") (.type "tuple")=some true:=by kernel_rfl
theorem boot_int:bootBuiltins "int" = some (.type "int"):=by decide +kernel
theorem boot_bool:bootBuiltins "bool" = some (.type "bool"):=by decide +kernel
theorem boot_tuple:bootBuiltins "tuple" = some (.type "tuple"):=by decide +kernel
theorem Th.ty {K:PySem.W.Frag} {H:Hp} {x:V} (h:Th H x):∃t,TyX K H x t∧PySem.W.kitOne K t (.type "int")=some (isI x)∧(isI x=true→PySem.W.kitOne K t (.type "bool")=some (isB x)):=by
 cases h with
 | non=>exact ⟨_,.of .non,ki3,fun z=>nomatch z⟩
 | bl b=>exact ⟨_,.of (.bl b),ki2,fun _=>kb2⟩
 | int i=>exact ⟨_,.of (.int i),ki1,fun _=>kb1⟩
 | str x=>exact ⟨_,.of (.str x),ki4,fun z=>nomatch z⟩
 | lst h=>exact ⟨_,.of (.lst h),ki5,fun z=>nomatch z⟩
 | tup h=>exact ⟨_,.of (.tup h),ki6,fun z=>nomatch z⟩
 | dK h=>exact ⟨_,.of (.dK h),ki7,fun z=>nomatch z⟩
end L2
namespace G1
open PySem L2
def top (i:Nat):Stmt:=PySem.Challenge.pw_dearsigns_k57_letters.main.body.getD i (.Pass ⟨0,0,0,0⟩)
abbrev sWhole:Stmt:=top 19
abbrev sWithin:Stmt:=top 20
abbrev sIsF:Stmt:=top 21
abbrev sAbove:Stmt:=top 22
abbrev sName:Stmt:=top 23
abbrev sLetter:Stmt:=top 24
abbrev sGcd:Stmt:=top 25
abbrev sLook:Stmt:=top 30
abbrev sSigns:Stmt:=top 31
abbrev sRow:Stmt:=top 32
abbrev sUnlike:Stmt:=top 33
abbrev sSignsOf:Stmt:=top 34
abbrev sTTongue:Stmt:=top 36
abbrev sTText:Stmt:=top 37
abbrev sTBook:Stmt:=top 38
abbrev sCalls:Stmt:=top 39
abbrev sCalled:Stmt:=top 40
abbrev sCell:Stmt:=top 42
abbrev sDraws:Stmt:=top 43
abbrev sLow:Stmt:=top 44
abbrev sLetters:Stmt:=top 45
abbrev sSign:Stmt:=top 46
abbrev sTongue:Stmt:=top 47
abbrev sNoTurn:Stmt:=top 52
abbrev sCopy:Stmt:=top 53
abbrev sLCalled:Stmt:=top 54
abbrev sDText:Stmt:=top 55
abbrev sDLetters:Stmt:=top 56
abbrev sNoLet:Stmt:=top 57
abbrev sRefused:Stmt:=top 58
abbrev sNoTgs:Stmt:=top 59
abbrev sPart:Stmt:=top 60
abbrev sLTurned:Stmt:=top 61
abbrev sBRight:Stmt:=top 62
abbrev sLaw:Stmt:=top 63
structure Bl (mg:Str→Option Value):Prop where
 isi:mg "isinstance" = none
 int:mg "int" = none
 bool:mg "bool" = none
 tuple:mg "tuple" = none
 abs:mg "abs" = none
 len:mg "len" = none
 enum:mg "enumerate" = none
 str:mg "str" = none
 range:mg "range" = none
 max:mg "max" = none
 all:mg "all" = none
 set:mg "set" = none
 list:mg "list" = none
 min:mg "min" = none
section
variable {P:Program} {w:World} {K:PySem.W.Frag} {mg:Str→Option Value} {base:Heap}
def spWhole:Sp:=fun vs H Q _=>∃x,vs=[x]∧Th H x∧Q (.bl (isW x)) H
theorem scW:FnScope ["thing"] ["thing"] (defScope sWhole):=⟨rfl,rfl,rfl,by decide +kernel,rfl,by decide +kernel,by decide +kernel⟩
theorem ok_whole {f:Addr} {fd:FuncData} (F:FunG K "is_whole" "is_whole" sWhole .none f fd) (B:Bl mg):FnOk P w K mg base (CXE P w) 1 f fd ["thing"] spWhole:=by
 refine F.okN scW (fun vs H Q E h=>?_) (fun cdv A outer s H vs Q E hr h=>?_)
 ·obtain ⟨x,rfl,_⟩:=h
  rfl
 ·obtain ⟨x,rfl,hx,q⟩:=h
  obtain ⟨t,ty,e1,e2⟩:=hx.ty (K:=K)
  refine ⟨_,pss_one (ps_ret (pe_and (pe_callB call_isi (by rfl) B.isi boot_isi (pa_cons (pv 0) (pa_cons (pe_bltn (by rfl) B.int boot_int (v:=.ty "int") rfl) pa_nil)))
   (pe_one (pe_not (pe_callB call_isi (by rfl) B.isi boot_isi (pa_cons (pv 0) (pa_cons (pe_bltn (by rfl) B.bool boot_bool (v:=.ty "bool") rfl) pa_nil))))))),?_⟩
  refine ⟨x,rfl,x,_,t,isI x,rfl,ty,.inl ⟨_,rfl,e1⟩,_,rfl,?_⟩
  rw [← isW_eq x] at q
  by_cases hi:isI x=true
  ·rw [if_pos hi] at q ⊢
   exact ⟨x,rfl,x,_,t,isB x,rfl,ty,.inl ⟨_,rfl,e2 hi⟩,_,rfl,q⟩
  ·rw [if_neg hi] at q ⊢
   exact q
end
end G1
namespace GM
theorem gcd_step (m n:Nat):Nat.gcd n (m % n)=Nat.gcd m n:=by
 rw [Nat.gcd_comm n,Nat.gcd_comm m,Nat.gcd_rec n m]
theorem abs_nat (i:Int):(if i < 0 then -i else i)=(i.natAbs:Int):=by split <;> omega
def gd (a b:Int):Int:=((Nat.gcd a.natAbs b.natAbs:Nat):Int)
theorem gd_pos {a b:Int} (h:b≠0):0 < gd a b:=by
 unfold gd
 have:0 < Nat.gcd a.natAbs b.natAbs:=Nat.gcd_pos_of_pos_right _ (by omega)
 omega
theorem gd_dvd1 (a b:Int):gd a b ∣ a:=by
 unfold gd
 have h:(Nat.gcd a.natAbs b.natAbs) ∣ a.natAbs:=Nat.gcd_dvd_left _ _
 exact Int.dvd_natAbs.mp (Int.natCast_dvd_natCast.mpr h)
theorem gd_dvd2 (a b:Int):gd a b ∣ b:=by
 unfold gd
 have h:(Nat.gcd a.natAbs b.natAbs) ∣ b.natAbs:=Nat.gcd_dvd_right _ _
 exact Int.dvd_natAbs.mp (Int.natCast_dvd_natCast.mpr h)
theorem gd_le {a b:Int} (h:b≠0):(gd a b).natAbs≤b.natAbs:=by
 unfold gd
 have:Nat.gcd a.natAbs b.natAbs≤b.natAbs:=Nat.le_of_dvd (by omega) (Nat.gcd_dvd_right _ _)
 omega
theorem parted {a b g:Int} (hb:b≠0) (hg:g=gd a b∨g = -gd a b) (hs:0 < b↔0 < g) :
  ∃c d,a.fdiv g=c∧b.fdiv g=d∧a=g * c∧b=g * d∧0 < d∧Nat.gcd c.natAbs d.natAbs=1∧c.natAbs≤a.natAbs∧d.natAbs≤b.natAbs:=by
 have h0:=gd_pos (a:=a) hb
 have g0:g≠0:=by omega
 have d1:g ∣ a:=by
  rcases hg with e | e
  ·rw [e]; exact gd_dvd1 a b
  ·rw [e]; exact (Int.neg_dvd).mpr (gd_dvd1 a b)
 have d2:g ∣ b:=by
  rcases hg with e | e
  ·rw [e]; exact gd_dvd2 a b
  ·rw [e]; exact (Int.neg_dvd).mpr (gd_dvd2 a b)
 obtain ⟨c,rfl⟩:=d1
 obtain ⟨d,rfl⟩:=d2
 have na:g.natAbs=Nat.gcd (g * c).natAbs (g * d).natAbs:=by
  have e:gd (g * c) (g * d)=((Nat.gcd (g * c).natAbs (g * d).natAbs:Nat):Int):=rfl
  rcases hg with z | z <;> omega
 refine ⟨c,d,Int.mul_fdiv_cancel_left _ g0,Int.mul_fdiv_cancel_left _ g0,rfl,rfl,?_,?_,?_,?_⟩
 ·by_cases hp:0 < g
  ·have z:=hs.mpr hp
   rw [Int.mul_comm] at z
   exact Int.pos_of_mul_pos_left z hp
  ·have gn:g < 0:=by omega
   have bn:¬0 < g * d:=fun z=>hp (hs.mp z)
   have bn2:g * d < 0:=by omega
   rcases Int.lt_trichotomy d 0 with z | z | z
   ·have:=Int.mul_pos_of_neg_of_neg gn z
    omega
   ·rw [z] at hb; simp at hb
   ·exact z
 ·rw [Int.natAbs_mul,Int.natAbs_mul,Nat.gcd_mul_left] at na
  have gp:0 < g.natAbs:=by omega
  have:g.natAbs * 1=g.natAbs * Nat.gcd c.natAbs d.natAbs:=by rw [Nat.mul_one]; exact na
  exact (Nat.eq_of_mul_eq_mul_left gp this).symm
 ·rw [Int.natAbs_mul]; exact Nat.le_mul_of_pos_left _ (by omega)
 ·rw [Int.natAbs_mul]; exact Nat.le_mul_of_pos_left _ (by omega)
end GM
theorem boot_abs:PySem.bootBuiltins "abs" = some (.builtin "abs"):=by decide +kernel
namespace G1
open PySem L2 GM
section
variable {P:Program} {w:World} {K:PySem.W.Frag} {mg:Str→Option Value} {base:Heap}
def spGcd:Sp:=fun vs H Q _=>∃a b:Int,vs=[.int a,.int b]∧Q (.int (gd a b)) H
theorem scG:FnScope ["one","other"] ["one","other"] (defScope sGcd):=⟨rfl,rfl,rfl,by decide +kernel,rfl,by decide +kernel,by decide +kernel⟩
theorem ok_gcd {f:Addr} {fd:FuncData} (F:FunG K "common_divisor" "common_divisor" sGcd .none f fd) (B:Bl mg):FnOk P w K mg base (CXE P w) 1 f fd ["one","other"] spGcd:=by
 refine F.okN scG (fun vs H Q E h=>?_) (fun cdv A outer s H vs Q E hr h=>?_)
 ·obtain ⟨a,b,rfl,_⟩:=h
  rfl
 ·obtain ⟨a,b,rfl,q⟩:=h
  refine ⟨_,pss_cons (ps_set (i:=0) scG.nd rfl (Or.inl rfl) (pe_callB call_abs (by rfl) B.abs boot_abs (pa_cons (pv 0) pa_nil)))
   (pss_cons (ps_set (i:=1) scG.nd rfl (Or.inl rfl) (pe_callB call_abs (by rfl) B.abs boot_abs (pa_cons (pv 1) pa_nil)))
   (pss_cons (ps_while PassesOwn.never (pt_cmpR op_gt (pv 1) pe_int (nomark _))
    (pss_one (ps_par (i:=0) (j:=1) rfl scG.nd rfl rfl (by decide) rfl rfl (pa_cons (pv 1) (pa_cons (pe_op op_mod (pv 0) (pv 1)) pa_nil)) rfl)))
   (pss_one (ps_ret (pv 0))))),?_⟩
  refine ⟨_,rfl,a,rfl,_,rfl,b,rfl,?_⟩
  refine while_by (fun σ H'=>H'=H∧∃m n:Nat,σ=[some (.int m),some (.int n)]∧Nat.gcd m n=Nat.gcd a.natAbs b.natAbs) (fun σ _=>match σ with | [_,some (.int n)]=>n.toNat | _=>0)
   ⟨rfl,a.natAbs,b.natAbs,by simp only [abs_nat]; rfl,rfl⟩ ?_ ?_
  ·rintro σ H' ⟨rfl,m,n,rfl,hg⟩
   refine ⟨_,rfl,_,_,rfl,rfl,_,rfl,?_⟩
   refine ite2 (fun hn=>?_) (fun hn=>?_)
   ·have hn':(0:Int) < n:=of_decide_eq_true hn
    refine ⟨_,rfl,_,rfl,_,rfl,_,_,rfl,rfl,hn',_,_,rfl,⟨rfl,n,m % n,?_,?_⟩,?_⟩
    ·show [some (V.int n),some (V.int ((m:Int) % n))]=_
     rw [← Int.natCast_emod]
    ·rw [gcd_step]; exact hg
    ·show ((m:Int) % n).toNat < (n:Int).toNat
     have:=Int.emod_lt_of_pos (m:Int) hn'
     have:=Int.emod_nonneg (m:Int) (show (n:Int)≠0 by omega)
     omega
   ·have hn':¬(0:Int) < n:=fun z=>hn (decide_eq_true z)
    refine ⟨_,rfl,?_⟩
    have n0:n=0:=by omega
    rw [n0,Nat.gcd_zero_right] at hg
    rw [hg]
    exact q
  ·rintro σ H' Q1 Q2 h ⟨v,e,i,j,e1,e2,x,e3,z⟩
   exact ⟨v,e,i,j,e1,e2,x,e3,h _ _ z⟩
end
structure FracOf (a b c d:Int):Prop where
 g:∃g:Int,g≠0∧a=g * c∧b=g * d
 pos:0 < d
 low:Nat.gcd c.natAbs d.natAbs=1
 top:c.natAbs≤a.natAbs
 bot:d.natAbs≤b.natAbs
section
variable {P:Program} {w:World} {K:PySem.W.Frag} {mg:Str→Option Value} {base:Heap}
end
section
variable {P:Program} {w:World} {K:PySem.W.Frag} {mg:Str→Option Value} {base:Heap} {c:List Addr}
theorem same_upd {H:Hp} {p:Addr} {o:HO} (h:H p=none):Same H (upd H p o):=fun b u e=>by rw [upd_ne (ne_of_none e h)]; exact e
end
end G1
namespace L2
open PySem PySem.Spec PyProof.Rows
def tCut (t:TS):TS:=fun D σ H=>∃J:St→Hp→Prop,t {D with nx:=J} σ H∧∀σ' H',J σ' H'→D.nx σ' H'
theorem ps_cut {X:Cx} {st:Stmt} {t:TS} (h:PS X st t):PS X st (tCut t):=by
 intro pins s σ H D I hw
 obtain ⟨J,h1,h2⟩:=hw
 refine thn (h pins s σ H _ I h1) fun f s1 q=>?_
 cases f with
 | next=>
  obtain ⟨σ',H',I',q⟩:=q
  exact ⟨σ',H',I',h2 σ' H' q⟩
 | ret v=>exact q
 | brk=>exact q
 | cont=>exact q
section
variable {X:Cx} {es:List Expr} {t:TA} {te:TE} {pos:Pos} {l r:List Expr} {k:Nat} {o:Operator} {a b:Expr} {cst:Const} {x:Str} {u:UnaryOp} {kw:List Keyword} {f:Expr}
theorem pac_c (ha:PE X (.Constant cst k pos) te) (hr:PA X es t):PA X (.Constant cst k pos :: es) (tCons te t):=pa_cons ha hr rfl
theorem pac_n (ha:PE X (.Name x pos) te) (hr:PA X es t):PA X (.Name x pos :: es) (tCons te t):=pa_cons ha hr rfl
theorem pac_l (ha:PE X (.List l pos) te) (hr:PA X es t):PA X (.List l pos :: es) (tCons te t):=pa_cons ha hr rfl
theorem pac_t (ha:PE X (.Tuple l k pos) te) (hr:PA X es t):PA X (.Tuple l k pos :: es) (tCons te t):=pa_cons ha hr rfl
theorem pac_d {ks:List (Option Expr)} {vs:List Expr} (ha:PE X (.Dict ks vs pos) te) (hr:PA X es t):PA X (.Dict ks vs pos :: es) (tCons te t):=pa_cons ha hr rfl
theorem pac_b (ha:PE X (.BinOp a o b pos) te) (hr:PA X es t):PA X (.BinOp a o b pos :: es) (tCons te t):=pa_cons ha hr rfl
theorem pac_f (ha:PE X (.Call f l kw pos) te) (hr:PA X es t):PA X (.Call f l kw pos :: es) (tCons te t):=pa_cons ha hr rfl
theorem pac_s (ha:PE X (.Subscript a b pos) te) (hr:PA X es t):PA X (.Subscript a b pos :: es) (tCons te t):=pa_cons ha hr rfl
end
end L2
namespace G1
open PySem L2 GM
end G1
namespace L2
open PySem PySem.Spec PyProof.Rows
structure SPE (X:Cx) (e:Expr) (t:TE):Prop where
 out:PE X e t
structure SPT (X:Cx) (e:Expr) (t:TT):Prop where
 out:PT X e t
structure SPW (X:Cx) (e:Expr) (t:TT):Prop where
 out:PW X e t
structure SPA (X:Cx) (es:List Expr) (t:TA):Prop where
 out:PA X es t
structure SPS (X:Cx) (st:Stmt) (t:TS):Prop where
 out:PS X st t
structure SPSs (X:Cx) (st:List Stmt) (t:TS):Prop where
 out:PSs X st t
structure SPG (X:Cx) (e:Expr) (t:TG):Prop where
 out:PG X e t
structure SPGs (X:Cx) (es:List Expr) (t:TGs):Prop where
 out:PGs X es t
structure SPI (X:Cx) (tg e:Expr) (t:TI):Prop where
 out:PI X tg e t
structure SPEX (X:Cx) (e:Expr) (t:TEX):Prop where
 out:PEX X e t
structure SPSX (X:Cx) (st:List Stmt) (t:TSX):Prop where
 out:PSX X st t
structure SPO (X:Cx) (e:Option Expr) (t:TO):Prop where
 out:PO X e t
theorem SPW.pt {X:Cx} {e:Expr} {t:TT} (h:SPW X e t):SPT X e t:=⟨h.out.pt⟩
section
variable {X:Cx}
theorem zpv (i:Nat) {x:Str} {pos:Pos} (hN:X.N[i]? = some x:=by rfl) (hv:Vis X.env.scope x:=by first | exact Or.inl rfl | exact Or.inr (Or.inl rfl) | exact Or.inr (Or.inr rfl)) (hd:(x == ("__debug__" : Str))=false:=by decide) (hcd:(x == ("__classdict__" : Str))=false:=by decide):SPE X (.Name x pos) (tVar i):=⟨pv i hN hv hd hcd⟩
theorem zpe_int {i j pos}:SPE X (.Constant (.int i) j pos) (tC (.int i)):=⟨pe_int ⟩
theorem zpe_bl {b j pos}:SPE X (.Constant (.bool b) j pos) (tC (.bl b)):=⟨pe_bl ⟩
theorem zpe_non {j pos}:SPE X (.Constant .none j pos) (tC .non):=⟨pe_non ⟩
theorem zpe_str {x j pos}:SPE X (.Constant (.str x) j pos) (tC (.str x)):=⟨pe_str ⟩
theorem zpe_glob {x:Str} {v:V} {u:Value} {pos:Pos} (hg:Gl X x) (hm:X.mg x=some u) (r:RelV v u) (hd:(x == ("__debug__" : Str))=false:=by decide):SPE X (.Name x pos) (tC v):=⟨pe_glob hg hm r hd⟩
theorem zpe_bltn {x:Str} {v:V} {u:Value} {pos:Pos} (hg:Gl X x) (hm:X.mg x=none) (hv:bootBuiltins x=some u) (r:RelV v u) (hn:x≠"__name__":=by decide) (hd:(x == ("__debug__" : Str))=false:=by decide):SPE X (.Name x pos) (tC v):=⟨pe_bltn hg hm hv r hn hd⟩
end
section
variable {X:Cx} {a b:Expr} {ta tb:TE} {pos:Pos} {tA tB':TT} {rest:List Expr}
theorem zpe_one {op} {t:TE} (h:SPE X a t):SPE X (.BoolOp op [a] pos) t:=⟨pe_one h.out⟩
theorem zpe_and (ha:SPE X a ta) (hb:SPE X (.BoolOp .And (b :: rest) pos) tb):SPE X (.BoolOp .And (a :: b :: rest) pos) (tAndV ta tb):=⟨pe_and ha.out hb.out⟩
theorem zpe_or (ha:SPE X a ta) (hb:SPE X (.BoolOp .Or (b :: rest) pos) tb):SPE X (.BoolOp .Or (a :: b :: rest) pos) (tOrV ta tb):=⟨pe_or ha.out hb.out⟩
theorem zpe_not (ha:SPE X a ta):SPE X (.UnaryOp .Not a pos) (tNotV ta):=⟨pe_not ha.out⟩
end
section
variable {X:Cx} {a b:Expr} {ta tb:TE} {pos:Pos}
theorem zpt_val {e:Expr} {t:TE} (h:SPE X e t) (he:∀whole,isTrue e X.env whole=(do let v ← whole; standAt e.pos; holding [v] (truthy v)):=by intro _; rfl):SPT X e (tB t):=⟨pt_val h.out he⟩
end
section
variable {X:Cx} {a b:Expr} {ta tb:TE} {pos:Pos} {tA tB':TT} {rest:List Expr}
theorem zpw_or1 (ha:SPT X a tA):SPW X (.BoolOp .Or [a] pos) tA:=⟨pw_or1 ha.out⟩
theorem zpw_or (ha:SPT X a tA) (hb:SPW X (.BoolOp .Or (b :: rest) pos) tB'):SPW X (.BoolOp .Or (a :: b :: rest) pos) (tOr tA tB'):=⟨pw_or ha.out hb.out⟩
theorem zpt_not (ha:SPT X a tA):SPT X (.UnaryOp .Not a pos) (tNot tA):=⟨pt_not ha.out⟩
end
section
variable {X:Cx} {st:Stmt} {rest:List Stmt} {t u:TS} {e:Expr} {te:TE} {pos:Pos}
theorem zpss_nil  : SPSs X [] tNext:=⟨pss_nil ⟩
theorem zpss_cons (h1:SPS X st t) (h2:SPSs X rest u):SPSs X (st :: rest) (tSeq t u):=⟨pss_cons h1.out h2.out⟩
theorem zpss_one (h1:SPS X st t):SPSs X [st] t:=⟨pss_one h1.out⟩
theorem zps_expr (he:SPE X e te) (hs:swapsWith e none pos.line X.env=pure false:=by rfl):SPS X (.Expr e pos) (tDrop te):=⟨ps_expr he.out hs⟩
theorem zps_ret (he:SPE X e te):SPS X (.Return (some e) pos) (tRet te):=⟨ps_ret he.out⟩
theorem zps_if {c:Expr} {a b:List Stmt} {tc:TT} (hc:SPT X c tc) (ha:SPSs X a t) (hb:SPSs X b u):SPS X (.If c a b pos) (tIfS tc t u):=⟨ps_if hc.out ha.out hb.out⟩
end
section
variable {X:Cx} {pos:Pos}
theorem zpg_name {i:Nat} {x:Str} (hN:X.N.Nodup) (hi:X.N[i]? = some x) (hx:Loc X.env.scope x) (hf:X.fn x=true∨X.env.scope.names.lookup x=some .local:=by first | exact .inl rfl | exact .inr rfl | assumption):SPG X (.Name x pos) (gName i):=⟨pg_name hN hi hx hf⟩
theorem zpgs_nil  : SPGs X [] gNil:=⟨pgs_nil ⟩
theorem zpgs_cons {e:Expr} {es:List Expr} {t:TG} {u:TGs} (h1:SPG X e t) (h2:SPGs X es u) (hs:(assignEach (e :: es) X.env).map (·.2)=assign e X.env :: (assignEach es X.env).map (·.2):=by rfl):SPGs X (e :: es) (gCons t u):=⟨pgs_cons h1.out h2.out hs⟩
theorem zpg_tup {es:List Expr} {k:Nat} {t:TGs} {n:Nat} (hc:X.calm=true) (h:SPGs X es t) (hn:(assignEach es X.env).length=n:=by rfl) (hst:(assignEach es X.env).findIdx? (·.1)=none:=by rfl):SPG X (.Tuple es k pos) (gTup X.K n t):=⟨pg_tup hc h.out hn hst⟩
theorem zps_asg {tg e:Expr} {te:TE} {g:TG} (he:SPE X e te) (hg:SPG X tg g) (hs:swapsWithSole [tg] e pos.line X.env=pure false:=by rfl) (hw:swappedStores [tg] e X.env=pure none:=by rfl) (h1:(assignEach [tg] X.env).map (·.2)=[assign tg X.env]:=by rfl):SPS X (.Assign [tg] e pos) (tAsg te g):=⟨ps_asg he.out hg.out hs hw h1⟩
theorem zps_set {i:Nat} {x:Str} {e:Expr} {te:TE} {pos':Pos} (hN:X.N.Nodup) (hi:X.N[i]? = some x) (hx:Loc X.env.scope x) (he:SPE X e te) (hs:swapsWith e (some (.Name x pos')) pos.line X.env=pure false:=by rfl) (hf:X.fn x=true∨X.env.scope.names.lookup x=some .local:=by first | exact .inl rfl | exact .inr rfl | assumption):SPS X (.Assign [.Name x pos'] e pos) (tAsg te (gName i)):=⟨ps_set hN hi hx he.out hs hf⟩
theorem zps_par {i j:Nat} {x y:Str} {a b:Expr} {ta:TA} {px py pt:Pos} {kt k2 pt2} (hc:X.calm=true) (hN:X.N.Nodup) (hi:X.N[i]? = some x) (hj:X.N[j]? = some y) (hij:i≠j) (hx:X.env.scope.names.lookup x=some .local) (hy:X.env.scope.names.lookup y=some .local) (ha:SPA X [a,b] ta) (hw:swappedStores [.Tuple [.Name x px,.Name y py] kt pt] (.Tuple [a,b] k2 pt2) X.env=pure (some [x,y])) (hs:swapsWithSole [.Tuple [.Name x px,.Name y py] kt pt] (.Tuple [a,b] k2 pt2) pos.line X.env=pure false:=by rfl):SPS X (.Assign [.Tuple [.Name x px,.Name y py] kt pt] (.Tuple [a,b] k2 pt2) pos) (tPar i j ta):=⟨ps_par hc hN hi hj hij hx hy ha.out hw hs⟩
theorem zps_while {c:Expr} {body:List Stmt} {tc:TT} {tb:TS} (hp:PassesOwn (model X.prog X.w) X.A X.env X.xe) (hc:SPT X c tc) (hb:SPSs X body tb):SPS X (.While c body [] pos) (tWhile tc tb):=⟨ps_while hp hc.out hb.out⟩
end
section
variable {X:Cx} {tg:Expr}
theorem zpi_list {l:Expr} {tl:TE} (hl:SPE X l tl):SPI X tg l (iList X.K tl):=⟨pi_list hl.out⟩
theorem zpi_range1 {a:Expr} {ta:TA} {p pos:Pos} (hg:Gl X "range") (hm:X.mg "range" = none) (ha:SPA X [a] ta) (hs:starEach [a] X.env=[(false,eval a X.env)]:=by rfl):SPI X tg (.Call (.Name "range" p) [a] [] pos) (iRng1 ta):=⟨pi_range1 hg hm ha.out hs⟩
end
section
variable {X:Cx} {es:List Expr} {tk:Nat} {tpos:Pos}
theorem zpi_enum {l:Expr} {ta:TA} {p pos:Pos} (hg:Gl X "enumerate") (hm:X.mg "enumerate" = none) (ha:SPA X [l] ta) (hs:starEach [l] X.env=[(false,eval l X.env)]:=by rfl):SPI X (.Tuple es tk tpos) (.Call (.Name "enumerate" p) [l] [] pos) (iEnum X.K ta):=⟨pi_enum hg hm ha.out hs⟩
end
section
variable {X:Cx} {tg:Expr}
theorem zps_for {iter:Expr} {body:List Stmt} {wi:TI} {g:TG} {tb:TS} {pos:Pos} (hp:PassesOwn (model X.prog X.w) X.A X.env X.xe) (hc:X.calm=true) (hi:SPI X tg iter wi) (hg:SPG X tg g) (hb:SPSs X body tb) (hs:∀x,foldedSetIterable iter X.env x=pure x:=by intro _; rfl):SPS X (.For tg iter body [] pos) (tFor wi g tb):=⟨ps_for hp hc hi.out hg.out hb.out hs⟩
end
section
variable {X:Cx} {a b c:Expr} {ta tb tc:TE} {pos:Pos}
theorem zpe_op {op:Operator} {r:R2} (ho:OpR X (binaryOp op) r) (ha:SPE X a ta) (hb:SPE X b tb):SPE X (.BinOp a op b pos) (tOp r ta tb):=⟨pe_op ho ha.out hb.out⟩
theorem zpe_un {op:UnaryOp} {r:V→Hp→VK→Prop} (ho:UnR X (unaryOp op) r) (ha:SPE X a ta):SPE X (.UnaryOp op a pos) (tUn r ta):=⟨pe_un ho ha.out⟩
theorem zpe_cmpR {op:CmpOp} {r:R2} (ho:OpR X (compareOp op) r) (ha:SPE X a ta) (hb:SPE X b tb) (hm:behindInMarks op b=false):SPE X (.Compare a [op] [b] pos) (tOp r ta tb):=⟨pe_cmpR ho ha.out hb.out hm⟩
theorem zpt_cmpR {op:CmpOp} {r:R2} (ho:OpR X (compareOp op) r) (ha:SPE X a ta) (hb:SPE X b tb) (hm:behindInMarks op b=false):SPT X (.Compare a [op] [b] pos) (tTest (tOp r ta tb)):=⟨pt_cmpR ho ha.out hb.out hm⟩
end
section
variable {X:Cx} {e:Expr} {es:List Expr} {te:TE} {t:TA} {pos:Pos}
theorem zpe_tup {x1} (h:SPA X es t):SPE X (.Tuple es x1 pos) (tTup t):=⟨pe_tup h.out⟩
theorem zpe_lst (h:SPA X es t):SPE X (.List es pos) (tLst t):=⟨pe_lst h.out⟩
end
section
variable {X:Cx} {CX:CXT} {k:Nat} {f C:Addr} {fd:FuncData} {ps:List Str} {sp:Sp} {dvs:List V} {ds:List Value} {E:XK} {x m:Str} {p pos apos:Pos} {e o:Expr} {es:List Expr} {ta:TE} {t:TA}
theorem zpe_call (F:FnOk X.prog X.w X.K X.mg X.base CX k f fd ps sp) (hr:Room k X.A) (hg:Gl X x) (hm:X.mg x=some (.ref f)) (hk:PySem.W.keepIn X.K (.ref f)=true) (hb:Binds X.K fd ps ds) (hd:Vals dvs ds) (hx:Passes CX X E) (ha:SPA X (e :: es) t) (hdb:(x == ("__debug__" : Str))=false:=by decide) (he:starEach (e :: es) X.env=(false,eval e X.env) :: starEach es X.env:=by rfl) (hpl:(backTo pos (starEach es X.env)).any (·.1)=false:=by rfl):SPE X (.Call (.Name x p) (e :: es) [] pos) (tCall sp dvs E t):=⟨pe_call F hr hg hm hk hb hd hx ha.out hdb he hpl⟩
end
section
variable {X:Cx} {x:Str} {p pos:Pos} {e:Expr} {es:List Expr} {t:TA} {id T:String} {r:List V→Hp→VK→Prop}
theorem zpe_callB (hc:CallR X (.builtin id) r) (hg:Gl X x) (hm:X.mg x=none) (hv:bootBuiltins x=some (.builtin id)) (ha:SPA X (e :: es) t) (hn:x≠"__name__":=by decide) (hdb:(x == ("__debug__" : Str))=false:=by decide) (he:starEach (e :: es) X.env=(false,eval e X.env) :: starEach es X.env:=by rfl) (hpl:(backTo pos (starEach es X.env)).any (·.1)=false:=by rfl):SPE X (.Call (.Name x p) (e :: es) [] pos) (tCB r t):=⟨pe_callB hc hg hm hv ha.out hn hdb he hpl⟩
theorem zpe_callTy (hc:CallR X (.type T) r) (hg:Gl X x) (hm:X.mg x=none) (hv:bootBuiltins x=some (.type T)) (ha:SPA X (e :: es) t) (hn:x≠"__name__":=by decide) (hdb:(x == ("__debug__" : Str))=false:=by decide) (he:starEach (e :: es) X.env=(false,eval e X.env) :: starEach es X.env:=by rfl) (hpl:(backTo pos (starEach es X.env)).any (·.1)=false:=by rfl):SPE X (.Call (.Name x p) (e :: es) [] pos) (tCB r t):=⟨pe_callTy hc hg hm hv ha.out hn hdb he hpl⟩
theorem zpe_callTy0 (hc:CallR X (.type T) r) (hg:Gl X x) (hm:X.mg x=none) (hv:bootBuiltins x=some (.type T)) (hn:x≠"__name__":=by decide) (hdb:(x == ("__debug__" : Str))=false:=by decide):SPE X (.Call (.Name x p) [] [] pos) (tCB r tNil):=⟨pe_callTy0 hc hg hm hv hn hdb⟩
end
section
variable {X:Cx} {e:Expr} {te:TE} {lo hi:Option Expr} {tl th:TO} {pos p2:Pos}
theorem zpe_slice {r:V→Option Int→Option Int→Hp→VK→Prop} (hr:SlR X r) (he:SPE X e te) (hl:SPO X lo tl) (hu:SPO X hi th):SPE X (.Subscript e (.Slice lo hi none p2) pos) (tSl r te tl th):=⟨pe_slice hr he.out hl.out hu.out⟩
theorem zpo_none  : SPO X none tNoPart:=⟨po_none ⟩
theorem zpo_some (h:SPE X e te):SPO X (some e) (tPart te):=⟨po_some h.out⟩
end
section
variable {X:Cx} {a b:Expr} {ta tb:TE} {pos:Pos}
theorem zpe_ix {r:R2} (hr:IxR X r) (ha:SPE X a ta) (hb:SPE X b tb) (hs:PlainIx b):SPE X (.Subscript a b pos) (tOp r ta tb):=⟨pe_ix hr ha.out hb.out hs⟩
end
section
variable {X:Cx} {a b:Expr} {ta tb:TE} {pos:Pos} {o e:Expr} {es:List Expr} {to:TE} {t:TA} {name:Str} {apos cpos:Pos} {T id:String} {r:V→List V→Hp→VK→Prop}
theorem zpe_bm0 (pa:PlainAttrs T) (slot:Slot T name id) (hty:typeOf (.builtin id)=pure (.type "method_descriptor")) (hm:MtR X id r) (ho:SPE X o to) (hbase:attributeBase o name X.env (eval o X.env)=eval o X.env:=by rfl) (hline:(apos.endLine == cpos.line)=true:=by rfl):SPE X (.Call (.Attribute o name apos) [] [] cpos) (tBM0 X.K T r to):=⟨pe_bm0 pa slot hty hm ho.out hbase hline⟩
theorem zpe_bm (pa:PlainAttrs T) (slot:Slot T name id) (hty:typeOf (.builtin id)=pure (.type "method_descriptor")) (hm:MtR X id r) (ho:SPE X o to) (ha:SPA X (e :: es) t) (hbase:attributeBase o name X.env (eval o X.env)=eval o X.env:=by rfl) (hfew:((backTo cpos (starEach (e :: es) X.env)).all (fun x=>!x.1) && (backToKw cpos (keywordEach [] X.env)).all (fun x=>x.1.isSome)
   && decide ((e :: es).length + ([]:List Keyword).length + (if ([]:List Keyword).isEmpty then 0 else 1) < 30))=true:=by rfl) (hline:(apos.endLine == cpos.line)=true:=by rfl) (hs:starEach (e :: es) X.env=(false,eval e X.env) :: starEach es X.env:=by rfl) (hplain:(backTo cpos (starEach es X.env)).any (·.1)=false:=by rfl):SPE X (.Call (.Attribute o name apos) (e :: es) [] cpos) (tBM X.K T r to t):=⟨pe_bm pa slot hty hm ho.out ha.out hbase hfew hline hs hplain⟩
end
section
variable {X:Cx} {e:Expr} {es:List Expr} {te:TE} {t:TA} {pos:Pos}
theorem zpa_nil  : SPA X [] tNil:=⟨pa_nil ⟩
end
section
theorem zpe_dict0 {X:Cx} {pos:Pos}:SPE X (.Dict [] [] pos) tDict0:=⟨pe_dict0 ⟩
end
section
theorem zps_raise {X:Cx} {x:Str} {C:Addr} {e0:Expr} {es:List Expr} {t:TA} {E:XK} {np cpos pos:Pos} (hth:∀(pins:List (Addr × Obj)) (σ:St) (H:Hp) (s:Shared) (h1:Heap) (e:Addr) (args:List Value),Inv X pins σ H s→Heap.MadeExcOf s.heap h1 e (.ref C) args→E (.ref C) none H→X.xe (.ref e) {s with heap:=h1}) (hc:X.calm=true) (hg:Gl X x) (hm:X.mg x=some (.ref C)) (q:ExcK X.K C) (ha:SPA X (e0 :: es) t) (hd:(x == ("__debug__" : Str))=false:=by decide) (he:starEach (e0 :: es) X.env=(false,eval e0 X.env) :: starEach es X.env:=by rfl) (hp:(backTo cpos (starEach es X.env)).any (·.1)=false:=by rfl):SPS X (.Raise (some (.Call (.Name x np) (e0 :: es) [] cpos)) none pos) (tRaise C E t):=⟨ps_raise hth hc hg hm q ha.out hd he hp⟩
end
section
variable {X:Cx} {k:Nat} {f:Addr} {fd:FuncData} {ps:List Str} {sp:Sp} {dvs:List V} {ds:List Value} {x:Str} {p pos:Pos} {e:Expr} {es:List Expr} {t:TA}
theorem zpex_call (F:FnOk X.prog X.w X.K X.mg X.base (CXE X.prog X.w) k f fd ps sp) (hr:Room k X.A) (hg:Gl X x) (hm:X.mg x=some (.ref f)) (hk:PySem.W.keepIn X.K (.ref f)=true) (hb:Binds X.K fd ps ds) (hd:Vals dvs ds) (ha:SPA X.nox (e :: es) t) (hdb:(x == ("__debug__" : Str))=false:=by decide) (he:starEach (e :: es) X.env=(false,eval e X.env) :: starEach es X.env:=by rfl) (hpl:(backTo pos (starEach es X.env)).any (·.1)=false:=by rfl):SPEX X (.Call (.Name x p) (e :: es) [] pos) (tCallX sp dvs t):=⟨pex_call F hr hg hm hk hb hd ha.out hdb he hpl⟩
theorem zpsx_expr {te:TEX} (he:SPEX X e te) (hs:swapsWith e none pos.line X.env=pure false:=by rfl):SPSX X [.Expr e pos] (fun D E σ H=>te σ H (fun _ H1=>D.nx σ H1) E):=⟨psx_expr he.out hs⟩
end
section
theorem zps_cut {X:Cx} {st:Stmt} {t:TS} (h:SPS X st t):SPS X st (tCut t):=⟨ps_cut h.out⟩
end
section
variable {X:Cx} {es:List Expr} {t:TA} {te:TE} {pos:Pos} {l r:List Expr} {k:Nat} {o:Operator} {a b:Expr} {cst:Const} {x:Str} {u:UnaryOp} {kw:List Keyword} {f:Expr}
theorem zpac_c (ha:SPE X (.Constant cst k pos) te) (hr:SPA X es t):SPA X (.Constant cst k pos :: es) (tCons te t):=⟨pac_c ha.out hr.out⟩
theorem zpac_n (ha:SPE X (.Name x pos) te) (hr:SPA X es t):SPA X (.Name x pos :: es) (tCons te t):=⟨pac_n ha.out hr.out⟩
theorem zpac_l (ha:SPE X (.List l pos) te) (hr:SPA X es t):SPA X (.List l pos :: es) (tCons te t):=⟨pac_l ha.out hr.out⟩
theorem zpac_t (ha:SPE X (.Tuple l k pos) te) (hr:SPA X es t):SPA X (.Tuple l k pos :: es) (tCons te t):=⟨pac_t ha.out hr.out⟩
theorem zpac_d {ks:List (Option Expr)} {vs:List Expr} (ha:SPE X (.Dict ks vs pos) te) (hr:SPA X es t):SPA X (.Dict ks vs pos :: es) (tCons te t):=⟨pac_d ha.out hr.out⟩
theorem zpac_b (ha:SPE X (.BinOp a o b pos) te) (hr:SPA X es t):SPA X (.BinOp a o b pos :: es) (tCons te t):=⟨pac_b ha.out hr.out⟩
theorem zpac_f (ha:SPE X (.Call f l kw pos) te) (hr:SPA X es t):SPA X (.Call f l kw pos :: es) (tCons te t):=⟨pac_f ha.out hr.out⟩
theorem zpac_s (ha:SPE X (.Subscript a b pos) te) (hr:SPA X es t):SPA X (.Subscript a b pos :: es) (tCons te t):=⟨pac_s ha.out hr.out⟩
end
theorem zps_try_as {X:Cx} {body:List Stmt} {tb:TSX} {th:TS} {d n:Str} {D:Addr} {j:Nat} {b0:Stmt} {suite:List Stmt} {pd hpos pos:Pos} (hb:SPSX X body tb) (hN:X.N.Nodup) (hj:X.N[j]? = some n) (hx:X.env.scope.names.lookup n=some .local)
  (hst:X.stack=X.env :: X.outer) (hL:X.env.frame=some X.env.locals) (hg:Gl X d) (hm:X.mg d=some (.ref D)) (c:CatchK X.K D) (hs:∀e,SPSs (X.held e) (b0 :: suite) th) (hd:(d == ("__debug__" : Str))=false:=by decide) :
  SPS X (.Try body [.ExceptHandler (some (.Name d pd)) (some n) (b0 :: suite) hpos] [] [] pos) (tTryAs X.K D j tb th):=⟨ps_try_as hb.out hN hj hx hst hL hg hm c (fun e=>(hs e).out) hd⟩
structure SPTs (X:Cx) (ifs:List Expr) (t:TT):Prop where
 out:PTs X ifs t
theorem zpts_nil {X:Cx}:SPTs X [] (fun _ H Q=>Q true H):=⟨pts_nil⟩
theorem zpts_one {X:Cx} {e:Expr} {t:TT} (h:SPT X e t):SPTs X [e] t:=⟨pts_one h.out⟩
section
variable {X:Cx} {tg iter elt:Expr} {ifs:List Expr} {scope esc:Scope} {pos gpos p:Pos} {N os:List Str} {fi:List Nat} {wi:TI} {g:TG} {tt:TT} {te:TE} {c P:Addr} {k:Nat}
theorem zpi_str {l:Expr} {tl:TE} (hl:SPE X l tl):SPI X tg l (iStr tl):=⟨pi_str hl.out⟩
theorem zpe_all (N os:List Str) (fi:List Nat) (esc:Scope) (hc:X.calm=true) (hr:Room k X.A) (hgl:Gl X "all") (hm:X.mg "all" = none) (hcd:X.env.code = .ref c) (CK:CodeK X.K c P) (BM:BmK X) (hN:X.N=N) (he:X.env.scope=esc) (B:BlkOk esc scope N fi) (hco:scope.isCoroutine=false) (h0:scope.names.lookup (".0" : Str)=some NameKind.local) (hi:SPI X tg iter wi)
  (hg:∀code s H fp,SPG (gblk X scope (nB N os fi) code s H fp) tg g) (hel:∀code s H fp,SPE (gblk X scope (nB N os fi) code s H fp) elt te)
  (hs:∀x,genFold iter X.env x=pure x:=by intro _; rfl):SPE X (.Call (.Name "all" p) [.GeneratorExp elt [⟨tg,iter,[],0⟩] scope gpos] [] pos) (tAll P os fi wi g te):=
 ⟨pe_all hc hr hgl hm hcd CK BM hN he B hco h0 hi.out (fun code s H fp=>(hg code s H fp).out) (fun code s H fp=>(hel code s H fp).out) hs⟩
end
section
variable {X:Cx} {elt tg iter tg2 iter2:Expr} {ifs ifs2:List Expr} {scope esc:Scope} {pos p:Pos} {N os:List Str} {fi:List Nat} {wi wi2:TI} {g g2:TG} {tt tt2:TT} {te:TE}
theorem zpe_comp2 (N os:List Str) (fi:List Nat) (esc:Scope) (hc:X.calm=true) (hN:X.N=N) (he:X.env.scope=esc) (B:BlkOk esc scope N fi) (hi:SPI X tg iter wi)
  (hg:∀s H fp,SPG (blk X scope (nB N os fi) s H fp) tg g) (ht:∀s H fp,SPTs (blk X scope (nB N os fi) s H fp) ifs tt)
  (hi2:∀s H fp,SPI (blk X scope (nB N os fi) s H fp) tg2 iter2 wi2) (hg2:∀s H fp,SPG (blk X scope (nB N os fi) s H fp) tg2 g2) (ht2:∀s H fp,SPTs (blk X scope (nB N os fi) s H fp) ifs2 tt2)
  (hel:∀s H fp,SPE (blk X scope (nB N os fi) s H fp) elt te)
  (hs:∀x,foldedSetIterable iter X.env x=pure x:=by intro _; rfl) (hs2:∀env x,foldedSetIterable iter2 env x=pure x:=by intro _ _; rfl) :
  SPE X (.ListComp elt [⟨tg,iter,ifs,0⟩,⟨tg2,iter2,ifs2,0⟩] scope pos) (tCG (fun _=>.lst []) os fi wi g tt fun D=>tIn wi2 g2 tt2 (tEmL D te)):=
 ⟨pe_comp2 hc hN he B hi.out (fun s H fp=>(hg s H fp).out) (fun s H fp=>(ht s H fp).out) (fun s H fp=>(hi2 s H fp).out) (fun s H fp=>(hg2 s H fp).out) (fun s H fp=>(ht2 s H fp).out) (fun s H fp=>(hel s H fp).out) hs hs2⟩
theorem zpe_setcomp (N os:List Str) (fi:List Nat) (esc:Scope) (hc:X.calm=true) (hN:X.N=N) (he:X.env.scope=esc) (B:BlkOk esc scope N fi) (hi:SPI X tg iter wi)
  (hg:∀s H fp,SPG (blk X scope (nB N os fi) s H fp) tg g) (ht:∀s H fp,SPTs (blk X scope (nB N os fi) s H fp) ifs tt)
  (hel:∀s H fp,SPE (blk X scope (nB N os fi) s H fp) elt te)
  (hs:∀x,foldedSetIterable iter X.env x=pure x:=by intro _; rfl) :
  SPE X (.SetComp elt [⟨tg,iter,ifs,0⟩] scope pos) (tCG (fun a=>SetT X.prog X.w a []) os fi wi g tt fun D=>tEmS X.prog X.w D te):=
 ⟨pe_setcomp hc hN he B hi.out (fun s H fp=>(hg s H fp).out) (fun s H fp=>(ht s H fp).out) (fun s H fp=>(hel s H fp).out) hs⟩
theorem zpe_rev {e:Expr} {te:TE} {k:Nat} {p1 p2 p3 pos:Pos} (he:SPE X e te):SPE X (.Subscript e (.Slice none none (some (.UnaryOp .USub (.Constant (.int 1) k p1) p3)) p2) pos) (tRev X.K te):=⟨pe_rev he.out⟩
theorem zpe_setadd {o e:Expr} {to:TE} {t:TA} {apos cpos:Pos} (ho:SPE X o to) (ha:SPA X [e] t)
  (hbase:attributeBase o "add" X.env (eval o X.env)=eval o X.env:=by rfl)
  (hfew:((backTo cpos (starEach [e] X.env)).all (fun x=>!x.1) && (backToKw cpos (keywordEach [] X.env)).all (fun x=>x.1.isSome)
   && decide ([e].length + ([]:List Keyword).length + (if ([]:List Keyword).isEmpty then 0 else 1) < 30))=true:=by rfl)
  (hline:(apos.endLine == cpos.line)=true:=by rfl) (hs:starEach [e] X.env=(false,eval e X.env) :: starEach [] X.env:=by rfl) (hplain:(backTo cpos (starEach [] X.env)).any (·.1)=false:=by rfl) :
  SPE X (.Call (.Attribute o "add" apos) [e] [] cpos) (tAddS X.prog X.w to t):=⟨pe_setadd ho.out ha.out hbase hfew hline hs hplain⟩
theorem pac_x {e:Expr} {te:TE} {es:List Expr} {t:TA} (ha:PE X e te) (hr:PA X es t) (hs:starEach (e :: es) X.env=(false,eval e X.env) :: starEach es X.env:=by rfl):PA X (e :: es) (tCons te t):=pa_cons ha hr hs
theorem zpac_x {e:Expr} {te:TE} {es:List Expr} {t:TA} (ha:SPE X e te) (hr:SPA X es t) (hs:starEach (e :: es) X.env=(false,eval e X.env) :: starEach es X.env:=by rfl):SPA X (e :: es) (tCons te t):=⟨pac_x ha.out hr.out hs⟩
end
theorem zpg_tupK {X:Cx} {es:List Expr} {k:Nat} {pos:Pos} {t:TGs} (K:PySem.W.Frag) (n:Nat) (hK:X.K=K) (hc:X.calm=true) (h:SPGs X es t) (hn:(assignEach es X.env).length=n:=by rfl) (hst:(assignEach es X.env).findIdx? (·.1)=none:=by rfl):SPG X (.Tuple es k pos) (gTup K n t):=hK ▸ zpg_tup hc h hn hst
section
variable {X:Cx} {kx vx tg iter:Expr} {ifs:List Expr} {scope esc:Scope} {pos p:Pos} {N os:List Str} {fi:List Nat} {wi:TI} {g:TG} {tt:TT} {tk tv:TE}
theorem zpe_dictcomp (N os:List Str) (fi:List Nat) (esc:Scope) (hc:X.calm=true) (hN:X.N=N) (he:X.env.scope=esc) (B:BlkOk esc scope N fi) (hi:SPI X tg iter wi)
  (hg:∀s H fp,SPG (blk X scope (nB N os fi) s H fp) tg g) (ht:∀s H fp,SPTs (blk X scope (nB N os fi) s H fp) ifs tt)
  (hk:∀s H fp,SPE (blk X scope (nB N os fi) s H fp) kx tk) (hv:∀s H fp,SPE (blk X scope (nB N os fi) s H fp) vx tv)
  (hs:∀x,foldedSetIterable iter X.env x=pure x:=by intro _; rfl) :
  SPE X (.DictComp kx vx [⟨tg,iter,ifs,0⟩] scope pos) (tCG (fun _=>.dK []) os fi wi g tt fun D=>tEmD D tk tv):=
 ⟨pe_dictcomp hc hN he B hi.out (fun s H fp=>(hg s H fp).out) (fun s H fp=>(ht s H fp).out) (fun s H fp=>(hk s H fp).out) (fun s H fp=>(hv s H fp).out) hs⟩
theorem zpe_dget {o i:Expr} {td ty:TE} (hu:X.A.units + 1 < cLine) (ho:SPE X o td) (hi:SPE X i ty) (hs:NoSl i):SPE X (.Subscript o i pos) (tDGet td ty):=⟨pe_dget hu ho.out hi.out hs⟩
end
theorem Room.units1 {k:Nat} {A:Around} (r:Room k A):A.units + 1 < cLine:=by have:=r.un; omega
section
variable {X:Cx} {elt kx vx tg iter tg2 iter2:Expr} {ifs ifs2:List Expr} {scope esc:Scope} {pos p:Pos} {N os:List Str} {fi:List Nat} {wi wi2:TI} {g g2:TG} {tt tt2:TT} {te tk tv:TE}
theorem zpe_compL (N os:List Str) (fi:List Nat) (esc:Scope) (hc:X.calm=true) (hN:X.N=N) (he:X.env.scope=esc) (B:BlkOk esc scope N fi) (hi:SPI X tg iter wi)
  (hg:∀s H fp,SPG (blk X scope (nB N os fi) s H fp) tg g) (ht:∀s H fp,SPTs (blk X scope (nB N os fi) s H fp) ifs tt) (hel:∀s H fp,SPE (blk X scope (nB N os fi) s H fp) elt te)
  (hs:∀x,foldedSetIterable iter X.env x=pure x:=by intro _; rfl):SPE X (.ListComp elt [⟨tg,iter,ifs,0⟩] scope pos) (tCG (fun _=>.lst []) os fi wi g tt fun D=>tEmL D te):=
 ⟨pe_compL hc hN he B hi.out (fun s H fp=>(hg s H fp).out) (fun s H fp=>(ht s H fp).out) (fun s H fp=>(hel s H fp).out) hs⟩
theorem zps_compL (N os:List Str) (fi:List Nat) (esc:Scope) {i:Nat} {y:Str} {py spos:Pos} (hc:X.calm=true) (hN:X.N=N) (he:X.env.scope=esc) (B:BlkOk esc scope N fi) (hnd:X.N.Nodup) (hy:X.N[i]? = some y) (hl:Loc X.env.scope y) (hi:SPI X tg iter wi)
  (hg:∀s H fp,SPG (blk X scope (nB N os fi) s H fp) tg g) (ht:∀s H fp,SPTs (blk X scope (nB N os fi) s H fp) ifs tt) (hel:∀s H fp,SPE (blk X scope (nB N os fi) s H fp) elt te)
  (hsw:swapsWith (.ListComp elt [⟨tg,iter,ifs,0⟩] scope pos) (some (.Name y py)) spos.line X.env=pure true:=by rfl)
  (hfn:X.fn y=true∨X.env.scope.names.lookup y=some .local:=by first | exact .inl rfl | exact .inr rfl | assumption)
  (hs:∀x,foldedSetIterable iter X.env x=pure x:=by intro _; rfl):SPS X (.Assign [.Name y py] (.ListComp elt [⟨tg,iter,ifs,0⟩] scope pos) spos) (fun D σ H=>tCG (fun _=>.lst []) os fi wi g tt (fun D=>tEmL D te) σ H fun v H'=>D.nx (σ.set i (some v)) H'):=
 ⟨ps_compL hc hN he B hnd hy hl hi.out (fun s H fp=>(hg s H fp).out) (fun s H fp=>(ht s H fp).out) (fun s H fp=>(hel s H fp).out) hsw hfn hs⟩
end
theorem zpe_xd {X:Cx} {o:Expr} {f:Str} {pos:Pos} {ta:TE} (he:SPE X o ta) (hb:attributeBase o f X.env (eval o X.env)=eval o X.env:=by rfl):SPE X (.Attribute o f pos) (tXd X.K ta f):=⟨pe_xd he.out hb⟩
theorem zps_raiseI {P:Program} {w:World} {K:PySem.W.Frag} {mg:Str→Option Value} {base:Heap} {N:List Str} {qual:Str} {scope:Scope} {f:Addr} {cd:Value} {A:Around} {outer:List Env} {s:Shared} {H:Hp} {E:XK}
  {x Xn:Str} {C fI:Addr} {e0:Expr} {t:TA} {k:Nat} {np cpos pos:Pos} (hA:Room (k + 1) (cxOf (CXE P w) P w K mg base N qual scope f cd A outer s H E).A)
  (hg:Gl (cxOf (CXE P w) P w K mg base N qual scope f cd A outer s H E) x) (hm:mg x=some (.ref C)) (q:InitK P w K mg C fI Xn) (ha:SPA (cxOf (CXE P w) P w K mg base N qual scope f cd A outer s H E) [e0] t) (hd:(x == ("__debug__" : Str))=false:=by decide)
  (he:starEach [e0] (cxOf (CXE P w) P w K mg base N qual scope f cd A outer s H E).env=[(false,eval e0 (cxOf (CXE P w) P w K mg base N qual scope f cd A outer s H E).env)]:=by rfl) :
  SPS (cxOf (CXE P w) P w K mg base N qual scope f cd A outer s H E) (.Raise (some (.Call (.Name x np) [e0] [] cpos)) none pos) (tRaiseI C Xn E t):=⟨ps_raiseI hA rfl hg hm q ha.out hd he⟩
section
variable {P:Program} {w:World} {K:PySem.W.Frag} {mg:Str→Option Value} {base:Heap} {x qual:Str} {st:Stmt} {dV:Value} {f:Addr} {fd:FuncData} {N ps:List Str} {k:Nat} {sp:Sp}
theorem FunG.zokE (F:FunG K x qual st dV f fd) (S:FnScope N ps (defScope st)) (len:∀vs H Q E,sp vs H Q E→vs.length=ps.length)
  (hbody:∀(cdv:Value) (A:Around) (outer:List Env) (s:Shared) (H:Hp) (vs:List V) (Q:VK) (E:XK),Room k (A.deeper (envOfC qual (defScope st) s.heap.objs.size f cdv))→sp vs H Q E→
   ∃t,SPSs (cxOf (CXE P w) P w K mg base N qual (defScope st) f cdv A outer s H E) (defBody st) t∧t {nx:=fun _ H'=>Q .non H',rt:=Q} (start N vs) H):FnOk P w K mg base (CXE P w) (k + 1) f fd ps sp:=
 F.okE S len fun cdv A outer s H vs Q E hr hsp=>by
  obtain ⟨t,h,q⟩:=hbody cdv A outer s H vs Q E hr hsp
  exact ⟨t,h.out,q⟩
theorem FunG.zokN (F:FunG K x qual st dV f fd) (S:FnScope N ps (defScope st)) (len:∀vs H Q E,sp vs H Q E→vs.length=ps.length)
  (hbody:∀(cdv:Value) (A:Around) (outer:List Env) (s:Shared) (H:Hp) (vs:List V) (Q:VK) (E:XK),Room k (A.deeper (envOfC qual (defScope st) s.heap.objs.size f cdv))→sp vs H Q E→
   ∃t,SPSs (cxOf (CXE P w) P w K mg base N qual (defScope st) f cdv A outer s H E).nox (defBody st) t∧t {nx:=fun _ H'=>Q .non H',rt:=Q} (start N vs) H):FnOk P w K mg base (CXE P w) (k + 1) f fd ps sp:=
 F.okN S len fun cdv A outer s H vs Q E hr hsp=>by
  obtain ⟨t,h,q⟩:=hbody cdv A outer s H vs Q E hr hsp
  exact ⟨t,h.out,q⟩
end
section
variable {P:Program} {w:World} {K:PySem.W.Frag} {mg:Str→Option Value} {base:Heap} {x qual:Str} {st:Stmt} {dV kV doc pm ct oc:Value} {an od:Option Addr} {osl:Array (Option Value)} {f c:Addr} {N ps:List Str} {k:Nat} {sp:Sp}
theorem okC (lk:K.lookup f=some ⟨oc,od,.func (PySem.W.fnOf x qual (defArgs st) (defBody st) (defScope st) dV kV doc pm an (.ref c) ct),osl⟩) (hcd:PySem.W.codeIn K (.ref c) qual=true) (S:FnScope N ps (defScope st)) (len:∀vs H Q E,sp vs H Q E→vs.length=ps.length)
  (hbody:∀(A:Around) (outer:List Env) (s:Shared) (H:Hp) (vs:List V) (Q:VK) (E:XK),Room k (A.deeper (envOfC qual (defScope st) s.heap.objs.size f (.ref c)))→sp vs H Q E→
   ∃t,SPSs (cxOf (CXE P w) P w K mg base N qual (defScope st) f (.ref c) A outer s H E).nox (defBody st) t∧t {nx:=fun _ H'=>Q .non H',rt:=Q} (start N vs) H) :
  FnOk P w K mg base (CXE P w) (k + 1) f (PySem.W.fnOf x qual (defArgs st) (defBody st) (defScope st) dV kV doc pm an (.ref c) ct) ps sp:=
 fn_of lk hcd S len fun A outer s H vs Q E hr h=>by
  obtain ⟨t,h1,h2⟩:=hbody A outer s H vs Q E hr h
  exact ⟨t,h1.out.nox,h2⟩
end
theorem boot_str:bootBuiltins "str" = some (.type "str"):=by decide +kernel
end L2
namespace G1
open PySem L2 GM
def letters:Str:="abcdefghijklmnopqrstuvwxyz"
def occ (c:Nat):Bool:=!(Builtin.Str.occurrences letters ⟨#[c]⟩ 0 letters.length 1).isEmpty
def nameB:V→Bool
 | .str z=>decide (z≠"") && (decide (z.length≤8) && z.cps.toList.all occ)
 | _=>false
def isS:V→Bool
 | .str _=>true
 | _=>false
section
variable {P:Program} {w:World} {K:PySem.W.Frag} {mg:Str→Option Value} {base:Heap}
theorem ks1:PySem.W.kitOne K (.type "int") (.type "str")=some false:=by kernel_rfl
theorem ks2:PySem.W.kitOne K (.type "bool") (.type "str")=some false:=by kernel_rfl
theorem ks3:PySem.W.kitOne K (.type "NoneType") (.type "str")=some false:=by kernel_rfl
theorem ks4:PySem.W.kitOne K (.type "str") (.type "str")=some true:=by kernel_rfl
theorem ks5:PySem.W.kitOne K (.type "list") (.type "str")=some false:=by kernel_rfl
theorem ks6:PySem.W.kitOne K (.type "tuple") (.type "str")=some false:=by kernel_rfl
theorem ks7:PySem.W.kitOne K (.type "dict") (.type "str")=some false:=by kernel_rfl
theorem _root_.L2.Th.tyS {H:Hp} {x:V} (h:Th H x):∃t,TyX K H x t∧PySem.W.kitOne K t (.type "str")=some (isS x):=by
 cases h with
 | non=>exact ⟨_,.of .non,ks3⟩
 | bl b=>exact ⟨_,.of (.bl b),ks2⟩
 | int i=>exact ⟨_,.of (.int i),ks1⟩
 | str x=>exact ⟨_,.of (.str x),ks4⟩
 | lst h=>exact ⟨_,.of (.lst h),ks5⟩
 | tup h=>exact ⟨_,.of (.tup h),ks6⟩
 | dK h=>exact ⟨_,.of (.dK h),ks7⟩
def spName (T:Addr):Sp:=fun vs H Q _=>∃x ps,vs=[x]∧Th H x∧(∀z,x = .str z→z.length≤sizeLine)∧H T=some (.tbl ps)∧TriplesOk ps.toList∧∀ps',TriplesOk ps'.toList→Q (.bl (nameB x)) (upd H T (.tbl ps'))
theorem scN:FnScope ["thing"] ["thing"] (defScope sName):=⟨rfl,rfl,rfl,by decide +kernel,rfl,by decide +kernel,by decide +kernel⟩
theorem ok_name {f c T:Addr} {kV doc pm ct oc:Value} {an od:Option Addr} {osl:Array (Option Value)} {t1 t2:Tok}
  (lk:K.lookup f=some ⟨oc,od,.func (PySem.W.fnOf "is_name" "is_name" (defArgs sName) (defBody sName) (defScope sName) .none kV doc pm an (.ref c) ct),osl⟩) (hcd:PySem.W.codeIn K (.ref c) "is_name" = true)
  (B:Bl mg) (CK:CodeK K c T) (hbm:BmOf mg base) (mL:mg "LETTERS" = some (.str letters t1)) (mM:mg "LONGEST_NAME" = some (.int 8 t2)) :
  FnOk P w K mg base (CXE P w) 2 f (PySem.W.fnOf "is_name" "is_name" (defArgs sName) (defBody sName) (defScope sName) .none kV doc pm an (.ref c) ct) ["thing"] (spName T):=by
 refine okC lk hcd scN (fun vs H Q E h=>?_) (fun A outer s H vs Q E hr h=>?_)
 ·obtain ⟨x,ps,rfl,_⟩:=h
  rfl
 ·obtain ⟨x,ps,rfl,hx,len,hT,tr,q⟩:=h
  refine ⟨_,zpss_cons (zps_if (zpw_or (zpt_not (zpt_val (zpe_callB call_isi (by rfl) B.isi boot_isi (zpac_n (zpv 0) (zpac_n (zpe_bltn (by rfl) B.str boot_str (v:=.ty "str") rfl) zpa_nil)))))
    (zpw_or (zpt_cmpR op_eq (zpv 0) zpe_str (nomark _)) (zpw_or1 (zpt_cmpR op_gt (zpe_callB call_len_str (by rfl) B.len PySem.boot_len (zpac_n (zpv 0) zpa_nil)) (zpe_glob (by rfl) mM (v:=.int 8) ⟨_,rfl⟩) (nomark _))))).pt (zpss_one (zps_ret zpe_bl)) zpss_nil)
   (zpss_one (zps_ret (zpe_all ["thing"] ["sign"] [] (defScope sName) rfl hr (by rfl) B.all rfl CK ⟨hbm⟩ rfl rfl ⟨by decide +kernel,by decide +kernel,by decide +kernel,by decide +kernel,by decide +kernel⟩ (by decide +kernel) (by decide +kernel) (zpi_str (zpv 0))
    (fun code s H fp=>zpg_name (i:=0) (show List.Nodup [("sign" : Str)] by decide +kernel) rfl (Or.inl rfl)) (fun code s H fp=>zpe_cmpR op_in_str (zpv 0) (zpe_glob (by rfl) mL (v:=.str letters) ⟨_,rfl⟩) rfl)))),?_⟩
  obtain ⟨t,ty,e1⟩:=hx.tyS (K:=K)
  refine ⟨_,rfl,_,_,t,isS x,rfl,ty,.inl ⟨_,rfl,e1⟩,_,rfl,?_⟩
  have self:∀{b:Bool},nameB x=b→Q (.bl b) H:=fun {b} e=>by
   have:=q ps tr
   rw [upd_self hT,e] at this
   exact this
  cases x with
  | str z=>
   refine iteF ⟨_,rfl,rfl,_,rfl,?_⟩
   refine ite2 (fun e=>?_) (fun e=>?_)
   ·have e':V.str z=V.str "":=of_decide_eq_true e
    injection e' with e'
    refine iteT (self ?_)
    simp [nameB,e']
   ·have ne:z≠"":=fun y=>e (decide_eq_true (by rw [y]))
    refine ⟨_,rfl,z,rfl,len z rfl,_,_,rfl,rfl,_,rfl,?_⟩
    refine ite2 (fun e8=>?_) (fun e8=>?_)
    ·have g8:(8:Int) < (z.length:Int):=of_decide_eq_true e8
     refine self ?_
     have:decide (z.length≤8)=false:=decide_eq_false (by omega)
     simp [nameB,this]
    ·have l8:z.length≤8:=by
      have:¬(8:Int) < (z.length:Int):=fun y=>e8 (decide_eq_true y)
      omega
     refine ⟨_,rfl,z,rfl,ps,hT,tr,fun ps' tr'=>?_⟩
     refine ⟨fun i m σ2 H2=>H2=upd H T (.tbl ps')∧i≤z.cps.size∧m=z.cps.size - i∧(∃v,σ2=[v])∧(∀j c,j < i→z.cps[j]? = some c→occ c=true),⟨_,rfl,Nat.zero_le _,rfl,⟨_,rfl⟩,fun j c hj=>absurd hj (Nat.not_lt_zero _)⟩,?_⟩
     rintro i m σ2 H2 ⟨rfl,hi,rfl,⟨v,rfl⟩,ok⟩
     by_cases hlt:i < z.cps.size
     ·refine .inr ⟨hlt,?_⟩
      rintro y H3 ⟨rfl,c,hc,rfl⟩
      refine ⟨_,rfl,⟨#[c]⟩,letters,rfl,rfl,_,rfl,?_⟩
      cases ho:occ c with
      | true=>
       rw [if_pos (show (!(Builtin.Str.occurrences letters ⟨#[c]⟩ 0 letters.length 1).isEmpty)=true from ho)]
       refine ⟨z.cps.size - (i + 1),by omega,rfl,hlt,rfl,⟨_,rfl⟩,fun j d hj hd=>?_⟩
       rcases Nat.lt_or_ge j i with h | h
       ·exact ok j d h hd
       ·have e:j=i:=by omega
        subst e
        rw [hc] at hd; cases hd
        exact ho
      | false=>
       rw [if_neg (by rw [show (!(Builtin.Str.occurrences letters ⟨#[c]⟩ 0 letters.length 1).isEmpty)=false from ho]; decide)]
       have e:nameB (.str z)=false:=by
        have a:z.cps.toList.all occ=false:=by
         rw [List.all_eq_false]
         exact ⟨c,by
          have:z.cps.toList[i]? = some c:=by simpa using hc
          exact List.mem_of_getElem? this,by rw [ho]; decide⟩
        simp [nameB,a]
       rw [← e,← show (!(Builtin.Str.occurrences letters ⟨#[c]⟩ 0 letters.length 1).isEmpty)=nameB (.str z) from by rw [e]; exact ho]
       have:=q ps' tr'
       rw [e] at this
       rw [show (!(Builtin.Str.occurrences letters ⟨#[c]⟩ 0 letters.length 1).isEmpty)=false from ho]
       exact this
     ·have e:i=z.cps.size:=by omega
      subst e
      refine .inl ⟨rfl,?_⟩
      have a:z.cps.toList.all occ=true:=by
       rw [List.all_eq_true]
       intro c hc
       obtain ⟨j,hj⟩:=List.getElem?_of_mem hc
       have hj':z.cps[j]? = some c:=by simpa using hj
       exact ok j c (Array.getElem?_eq_some_iff.mp hj').1 hj'
      have n1:nameB (.str z)=true:=by
       simp [nameB,ne,l8]
       simpa using a
      have:=q ps' tr'
      rw [n1] at this
      exact this
  | _=>exact iteT (self rfl)
end
def FrP (H:Hp) (x:V):Prop:=∃a n d,x = .ref a∧H a=some (.tup [.int n,.int d])∧0 < d∧Nat.gcd n.natAbs d.natAbs=1
noncomputable def frB (H:Hp) (x:V):Bool:=@decide (FrP H x) (Classical.propDecidable _)
theorem frB_t {H:Hp} {x:V} (h:FrP H x):frB H x=true:=by unfold frB; exact @decide_eq_true _ (Classical.propDecidable _) h
theorem frB_f {H:Hp} {x:V} (h:¬FrP H x):frB H x=false:=by unfold frB; exact @decide_eq_false _ (Classical.propDecidable _) h
structure ThD (H:Hp) (x:V):Prop where
 th:Th H x
 parts:∀a xs,x = .ref a→H a=some (.tup xs)→∀y∈xs,Th H y
 few:∀a n d,x = .ref a→H a=some (.tup [.int n,.int d])→d.natAbs < big
 str:∀z,x = .str z→z.length≤sizeLine
section
variable {P:Program} {w:World} {K:PySem.W.Frag} {mg:Str→Option Value} {base:Heap}
theorem kq1:PySem.W.kitOne K (.type "int") (.type "tuple")=some false:=by kernel_rfl
theorem kq2:PySem.W.kitOne K (.type "bool") (.type "tuple")=some false:=by kernel_rfl
theorem kq3:PySem.W.kitOne K (.type "NoneType") (.type "tuple")=some false:=by kernel_rfl
theorem kq4:PySem.W.kitOne K (.type "str") (.type "tuple")=some false:=by kernel_rfl
theorem kq5:PySem.W.kitOne K (.type "list") (.type "tuple")=some false:=by kernel_rfl
theorem kq7:PySem.W.kitOne K (.type "dict") (.type "tuple")=some false:=by kernel_rfl
theorem _root_.L2.Th.tyT {H:Hp} {x:V} (h:Th H x):∃t b,TyX K H x t∧PySem.W.kitOne K t (.type "tuple")=some b∧((b=true∧∃a xs,x = .ref a∧H a=some (.tup xs))∨(b=false∧∀a xs,x = .ref a→H a≠some (.tup xs))):=by
 cases h with
 | non=>exact ⟨_,_,.of .non,kq3,.inr ⟨rfl,nofun⟩⟩
 | bl b=>exact ⟨_,_,.of (.bl b),kq2,.inr ⟨rfl,nofun⟩⟩
 | int i=>exact ⟨_,_,.of (.int i),kq1,.inr ⟨rfl,nofun⟩⟩
 | str x=>exact ⟨_,_,.of (.str x),kq4,.inr ⟨rfl,nofun⟩⟩
 | lst h=>exact ⟨_,_,.of (.lst h),kq5,.inr ⟨rfl,fun a xs e z=>by cases e; rw [h] at z; cases z⟩⟩
 | tup h=>exact ⟨_,_,.of (.tup h),kt1,.inl ⟨rfl,_,_,rfl,h⟩⟩
 | dK h=>exact ⟨_,_,.of (.dK h),kq7,.inr ⟨rfl,fun a xs e z=>by cases e; rw [h] at z; cases z⟩⟩
def spIsF:Sp:=fun vs H Q _=>∃x,vs=[x]∧ThD H x∧Q (.bl (frB H x)) H
theorem scIF:FnScope ["thing","top","bottom"] ["thing"] (defScope sIsF):=⟨rfl,rfl,rfl,by decide +kernel,rfl,by decide +kernel,by decide +kernel⟩
theorem two_of {xs:List V} (h:xs.length=2):∃y z,xs=[y,z]:=by
 match xs,h with
 | [y,z],_=>exact ⟨y,z,rfl⟩
theorem ok_isF {f fW fG:Addr} {fd fdW fdG:FuncData} (F:FunG K "is_fraction" "is_fraction" sIsF .none f fd) (B:Bl mg)
  (GW:FnOk P w K mg base (CXE P w) 1 fW fdW ["thing"] spWhole) (mW:mg "is_whole" = some (.ref fW)) (kW:PySem.W.keepIn K (.ref fW)=true) (bW:Binds K fdW ["thing"] [])
  (GG:FnOk P w K mg base (CXE P w) 1 fG fdG ["one","other"] spGcd) (mG:mg "common_divisor" = some (.ref fG)) (kG:PySem.W.keepIn K (.ref fG)=true) (bG:Binds K fdG ["one","other"] []) :
  FnOk P w K mg base (CXE P w) 2 f fd ["thing"] spIsF:=by
 refine F.zokN scIF (fun vs H Q E h=>?_) (fun cdv A outer s H vs Q E hr h=>?_)
 ·obtain ⟨x,rfl,_⟩:=h
  rfl
 ·obtain ⟨x,rfl,hx,q⟩:=h
  refine ⟨_,zpss_cons (zps_if (zpw_or (zpt_not (zpt_val (zpe_callB call_isi (by rfl) B.isi boot_isi (zpac_n (zpv 0) (zpac_n (zpe_bltn (by rfl) B.tuple boot_tuple (v:=.ty "tuple") rfl) zpa_nil)))))
    (zpw_or1 (zpt_cmpR op_ne (zpe_callB call_len_seq (by rfl) B.len PySem.boot_len (zpac_n (zpv 0) zpa_nil)) zpe_int (nomark _)))).pt (zpss_one (zps_ret zpe_bl)) zpss_nil)
   (zpss_cons (zps_asg (zpv 0) (zpg_tup rfl (zpgs_cons (zpg_name (i:=1) scIF.nd rfl (Or.inl rfl)) (zpgs_cons (zpg_name (i:=2) scIF.nd rfl (Or.inl rfl)) zpgs_nil))))
   (zpss_cons (zps_if (zpw_or (zpt_not (zpt_val (zpe_call GW hr (by rfl) mW kW bW .nil passE0 (zpac_n (zpv 1) zpa_nil)))) (zpw_or (zpt_not (zpt_val (zpe_call GW hr (by rfl) mW kW bW .nil passE0 (zpac_n (zpv 2) zpa_nil))))
    (zpw_or1 (zpt_cmpR op_lt (zpv 2) zpe_int (nomark _))))).pt (zpss_one (zps_ret zpe_bl)) zpss_nil)
   (zpss_one (zps_ret (zpe_cmpR op_eq (zpe_call GG hr (by rfl) mG kG bG .nil passE0 (zpac_n (zpv 1) (zpac_n (zpv 2) zpa_nil))) zpe_int (nomark _)))))),?_⟩
  obtain ⟨t,b,ty,e1,hb⟩:=hx.th.tyT (K:=K)
  refine ⟨_,rfl,_,_,t,b,rfl,ty,.inl ⟨_,rfl,e1⟩,_,rfl,?_⟩
  rcases hb with ⟨rfl,a,xs,rfl,ha⟩ | ⟨rfl,no⟩
  ·refine iteF ⟨_,rfl,a,xs,rfl,.inr (SqT.of ha),rfl,_,rfl,?_⟩
   refine ite2 (fun e=>?_) (fun e=>?_)
   ·rw [frB_f (by
     rintro ⟨a',n,d,e',h',_⟩
     cases e'
     rw [ha] at h'; cases h'
     simp at e)] at q
    exact q
   ·have l2:xs.length=2:=by
     by_cases z:xs.length=2
     ·exact z
     ·exfalso
      apply e
      simp
      omega
    obtain ⟨y,z,rfl⟩:=two_of l2
    have ty:=hx.parts a _ rfl ha y (by simp)
    have tz:=hx.parts a _ rfl ha z (by simp)
    refine ⟨_,rfl,a,_,rfl,SqT.of ha,rfl,_,_,rfl,_,_,rfl,rfl,?_⟩
    refine ⟨_,rfl,y,rfl,ty,_,rfl,?_⟩
    cases hy:isW y with
    | false=>
     refine iteT (iteT ?_)
     rw [frB_f (by
      rintro ⟨a',n,d,e',h',_⟩
      cases e'
      rw [ha] at h'; cases h'
      cases hy)] at q
     exact q
    | true=>
     refine iteF ⟨_,rfl,z,rfl,tz,_,rfl,?_⟩
     cases hz:isW z with
     | false=>
      refine iteT (iteT ?_)
      rw [frB_f (by
       rintro ⟨a',n,d,e',h',_⟩
       cases e'
       rw [ha] at h'; cases h'
       cases hz)] at q
      exact q
     | true=>
      obtain ⟨n,rfl⟩:∃n,y = .int n:=by cases y <;> first | exact ⟨_,rfl⟩ | cases hy
      obtain ⟨d,rfl⟩:∃d,z = .int d:=by cases z <;> first | exact ⟨_,rfl⟩ | cases hz
      refine iteF ⟨_,rfl,_,_,rfl,rfl,_,rfl,?_⟩
      refine ite2 (fun e1=>?_) (fun e1=>?_)
      ·have d1:d < 1:=of_decide_eq_true e1
       rw [frB_f (by
        rintro ⟨a',n',d',e',h',p,_⟩
        cases e'
        rw [ha] at h'; cases h'
        omega)] at q
       exact q
      ·have d1:¬d < 1:=fun z=>e1 (decide_eq_true z)
       refine ⟨_,rfl,_,rfl,n,d,rfl,rfl,?_⟩
       by_cases g1:Nat.gcd n.natAbs d.natAbs=1
       ·rw [frB_t ⟨a,n,d,rfl,ha,by omega,g1⟩] at q
        rw [show decide (V.int (gd n d)=V.int 1)=true from decide_eq_true (by unfold gd; rw [g1]; rfl)]
        exact q
       ·rw [frB_f (by
         rintro ⟨a',n',d',e',h',p,g⟩
         cases e'
         rw [ha] at h'; cases h'
         exact g1 g)] at q
        rw [show decide (V.int (gd n d)=V.int 1)=false from decide_eq_false (by
         unfold gd
         intro z
         injection z with z
         omega)]
        exact q
  ·refine iteT (iteT ?_)
   rw [frB_f (by
    rintro ⟨a,n,d,e,h,_⟩
    exact no a _ e h)] at q
   exact q
end
def Kp (H H':Hp):Prop:=∀b o,H b=some o→(∀ps,o≠.tbl ps)→H' b=some o
theorem Kp.refl {H:Hp}:Kp H H:=fun _ _ h _=>h
theorem Kp.trans {H H1 H2:Hp} (a:Kp H H1) (b:Kp H1 H2):Kp H H2:=fun c o h n=>b c o (a c o h n) n
theorem Kp.same {H H':Hp} (s:Same H H'):Kp H H':=fun b o h _=>s b o h
theorem Kp.new {H:Hp} {p:Addr} {o:HO} (h:H p=none):Kp H (upd H p o):=Kp.same (same_upd h)
theorem Kp.lst {H H':Hp} {a:Addr} {xs:List V} (k:Kp H H') (h:H a=some (.lst xs)):H' a=some (.lst xs):=k a _ h nofun
theorem Kp.tup {H H':Hp} {a:Addr} {xs:List V} (k:Kp H H') (h:H a=some (.tup xs)):H' a=some (.tup xs):=k a _ h nofun
def Tab (T:Addr) (H:Hp):Prop:=∃ps,H T=some (.tbl ps)∧TriplesOk ps.toList
theorem Kp.tab {H:Hp} {T:Addr} {ps':Array Value} (h:Tab T H):Kp H (upd H T (.tbl ps')):=fun b o e n=>by
 obtain ⟨ps,hp,_⟩:=h
 rw [upd_ne (fun z=>by rw [z,hp] at e; cases e; exact n _ rfl)]; exact e
theorem Tab.new {H:Hp} {T p:Addr} {o:HO} (h:Tab T H) (n:H p=none):Tab T (upd H p o):=by
 obtain ⟨ps,hp,t⟩:=h
 exact ⟨ps,by rw [upd_ne (ne_of_none hp n)]; exact hp,t⟩
theorem Tab.put {H:Hp} {T T':Addr} {ps':Array Value} (h:Tab T H) (t:TriplesOk ps'.toList):Tab T (upd H T' (.tbl ps')):=by
 obtain ⟨ps,hp,t0⟩:=h
 by_cases e:T=T'
 ·subst e; exact ⟨ps',upd_same,t⟩
 ·exact ⟨ps,by rw [upd_ne e]; exact hp,t0⟩
theorem Tab.set {H:Hp} {T p:Addr} {o o':HO} (h:Tab T H) (n:H p=some o') (no:∀ps,o'≠.tbl ps):Tab T (upd H p o):=by
 obtain ⟨ps,hp,t⟩:=h
 exact ⟨ps,by rw [upd_ne (fun z=>by rw [z,n] at hp; cases hp; exact no _ rfl)]; exact hp,t⟩
theorem Tab.same {H H':Hp} {T:Addr} (h:Tab T H) (s:Same H H'):Tab T H':=by
 obtain ⟨ps,hp,t⟩:=h
 exact ⟨ps,s _ _ hp,t⟩
section
variable {T:Addr} {Ts:List Addr} {H H':Hp}
end
structure PrA (H:Hp) (x:V):Prop where
 ex:∃a n d,x = .ref a∧H a=some (.tup [.int n,.int d])∧0 < n∧0 < d∧Nat.gcd n.natAbs d.natAbs=1∧n≤1000000000∧d≤1000000000
theorem PrA.kp {H H':Hp} {x:V} (h:PrA H x) (k:Kp H H'):PrA H' x:=by
 obtain ⟨a,n,d,e,ha,r⟩:=h.ex
 exact ⟨a,n,d,e,k.tup ha,r⟩
theorem small_big {d:Int} (h0:0 < d) (h:d≤1000000000):d.natAbs < big:=Nat.lt_of_le_of_lt (show d.natAbs≤1000000000 by omega) (by decide +kernel)
theorem PrA.thd {H:Hp} {x:V} (h:PrA H x):ThD H x:=by
 obtain ⟨a,n,d,rfl,ha,n0,d0,g,n1,d1⟩:=h.ex
 refine ⟨.tup ha,fun b xs e hb y hy=>?_,fun b n' d' e hb=>?_,nofun⟩
 ·cases e
  rw [ha] at hb; cases hb
  rcases List.mem_cons.mp hy with rfl | hy
  ·exact .int _
  ·rw [List.mem_singleton.mp hy]; exact .int _
 ·cases e
  rw [ha] at hb; cases hb
  exact small_big d0 d1
section
variable {P:Program} {w:World} {K:PySem.W.Frag} {mg:Str→Option Value} {base:Heap}
def inB:V→Int→Int→Bool
 | .int i,lo,hi=>decide (lo≤i) && decide (i≤hi)
 | _,_,_=>false
def spWithin:Sp:=fun vs H Q _=>∃(x:V) (lo hi:Int),vs=[x,.int lo,.int hi]∧Th H x∧Q (.bl (inB x lo hi)) H
theorem scWi:FnScope ["thing","least","most"] ["thing","least","most"] (defScope sWithin):=⟨rfl,rfl,rfl,by decide +kernel,rfl,by decide +kernel,by decide +kernel⟩
theorem ok_within {f fW:Addr} {fd fdW:FuncData} (F:FunG K "is_whole_within" "is_whole_within" sWithin .none f fd)
  (GW:FnOk P w K mg base (CXE P w) 1 fW fdW ["thing"] spWhole) (mW:mg "is_whole" = some (.ref fW)) (kW:PySem.W.keepIn K (.ref fW)=true) (bW:Binds K fdW ["thing"] []) :
  FnOk P w K mg base (CXE P w) 2 f fd ["thing","least","most"] spWithin:=by
 refine F.zokN scWi (fun vs H Q E h=>?_) (fun cdv A outer s H vs Q E hr h=>?_)
 ·obtain ⟨x,lo,hi,rfl,_⟩:=h
  rfl
 ·obtain ⟨x,lo,hi,rfl,hx,q⟩:=h
  refine ⟨_,zpss_one (zps_ret (zpe_and (zpe_call GW hr (by rfl) mW kW bW .nil passE0 (zpac_n (zpv 0) zpa_nil)) (zpe_and (zpe_cmpR op_le (zpv 1) (zpv 0) (nomark _)) (zpe_one (zpe_cmpR op_le (zpv 0) (zpv 2) (nomark _)))))),?_⟩
  refine ⟨_,rfl,x,rfl,hx,_,rfl,?_⟩
  cases x with
  | int i=>
   refine iteT ⟨_,rfl,_,rfl,_,_,rfl,rfl,_,rfl,?_⟩
   refine ite2 (fun e=>?_) (fun e=>?_)
   ·refine ⟨_,rfl,_,rfl,_,_,rfl,rfl,?_⟩
    have:inB (.int i) lo hi=decide (i≤hi):=by simp [inB,of_decide_eq_true e]
    rw [this] at q
    exact q
   ·have:inB (.int i) lo hi=false:=by
     have:decide (lo≤i)=false:=by simpa using e
     simp [inB,this]
    rw [this] at q
    exact q
  | _=>exact iteF q
def sg1 (c:Nat):Str:=⟨#[c]⟩
structure Row (H:Hp) (x:V) (c:Nat):Prop where
 ex:∃a p l,x = .ref a∧H a=some (.tup [.str (sg1 c),p,l])∧PrA H p∧(l = .non∨PrA H l)
 oc:occ c=true
theorem Row.kp {H H':Hp} {x:V} {c:Nat} (h:Row H x c) (k:Kp H H'):Row H' x c:=by
 obtain ⟨a,p,l,e,ha,hp,hl⟩:=h.ex
 exact ⟨⟨a,p,l,e,k.tup ha,hp.kp k,hl.imp id fun z=>z.kp k⟩,h.oc⟩
theorem name1 {c:Nat} (h:occ c=true):nameB (.str (sg1 c))=true:=by
 have:sg1 c≠"":=fun z=>by
  have:(sg1 c).length=("" : Str).length:=by rw [z]
  exact absurd this (by show (1:Nat)≠0; decide)
 have l:(sg1 c).length≤8:=by show (1:Nat)≤8; decide
 have a:(sg1 c).cps.toList.all occ=true:=by
  show [c].all occ=true
  simp [h]
 simp only [nameB,decide_eq_true this,decide_eq_true l,a,Bool.and_self]
end
end G1
namespace L2
open PySem
theorem boot_list:bootBuiltins "list" = some (.type "list"):=by decide +kernel
theorem ix_tupK {X:Cx} (K:PySem.W.Frag) (h:X.K=K):IxR X (rIxT K):=h ▸ ix_tup
end L2
namespace G1
open PySem L2 GM
theorem Kp.upd_new {H H1 H2:Hp} {l:Addr} {o:HO} (k1:Kp H H1) (n:H1 l=none) (k2:Kp H H2):Kp H (upd H2 l o):=fun b u h hn=>by
 rw [upd_ne (ne_of_none (k1 b u h hn) n)]; exact k2 b u h hn
structure Rows (H:Hp) (xs:List V) (cs:List Nat):Prop where
 len:xs.length=cs.length
 row:∀(i:Nat) (x:V) (c:Nat),xs[i]? = some x→cs[i]? = some c→Row H x c
theorem Rows.kp {H H':Hp} {xs:List V} {cs:List Nat} (h:Rows H xs cs) (k:Kp H H'):Rows H' xs cs:=⟨h.len,fun i x c e1 e2=>(h.row i x c e1 e2).kp k⟩
theorem Rows.at {H:Hp} {xs:List V} {cs:List Nat} {i:Nat} {x:V} (h:Rows H xs cs) (e:xs[i]? = some x):∃c,cs[i]? = some c∧Row H x c:=by
 have hi:i < cs.length:=by rw [← h.len]; exact (List.getElem?_eq_some_iff.mp e).1
 exact ⟨cs[i],List.getElem?_eq_getElem hi,h.row i x _ e (List.getElem?_eq_getElem hi)⟩
theorem sg1_inj {a b:Nat} (h:sg1 a=sg1 b):a=b:=by
 unfold sg1 at h
 injection h with h
 injection h with h
 injection h
section
variable {P:Program} {w:World} {K:PySem.W.Frag} {mg:Str→Option Value} {base:Heap}
theorem scSi:FnScope ["thing"] ["thing"] (defScope sSigns):=⟨rfl,rfl,rfl,by decide +kernel,rfl,by decide +kernel,by decide +kernel⟩
end
def txs (ts:List Str):List V:=ts.map V.str
theorem txs_flat (ts:List Str):(txs ts).all flatV=true:=by
 unfold txs
 rw [List.all_map]
 exact List.all_eq_true.mpr fun _ _=>rfl
theorem inV_txs (t:Str) (ts:List Str):inV (.str t) (txs ts)=decide (t∈ts):=by
 unfold inV txs
 rw [List.any_map,Bool.eq_iff_iff,List.any_eq_true,decide_eq_true_iff]
 constructor
 ·rintro ⟨y,hy,e⟩
  have:(y == t)=true:=e
  rw [← eq_of_beq this]; exact hy
 ·intro h
  exact ⟨t,h,by show (t == t)=true; exact beq_self_eq_true t⟩
def sgs (cs:List Nat):List Str:=cs.map sg1
section
variable {P:Program} {w:World} {K:PySem.W.Frag} {mg:Str→Option Value} {base:Heap}
theorem take_freshT {ts:List Str} (h:ts.Nodup) {i:Nat} {t:Str} (e:ts[i]? = some t):t∉ts.take i:=fun m=>by
 obtain ⟨j,hj⟩:=List.getElem?_of_mem m
 have hj':j < i:=by
  have:=(List.getElem?_eq_some_iff.mp hj).1
  rw [List.length_take] at this; omega
 rw [List.getElem?_take_of_lt hj'] at hj
 obtain ⟨hi1,hi2⟩:=List.getElem?_eq_some_iff.mp e
 obtain ⟨hj1,hj2⟩:=List.getElem?_eq_some_iff.mp hj
 have:=(List.getElem_inj (h₀:=hj1) (h₁:=hi1) h).mp (by rw [hi2,hj2])
 omega
end
end G1
namespace L2
theorem zpi_listK {X:Cx} {tg l:PySem.Expr} {tl:TE} (K:PySem.W.Frag) (h:X.K=K) (hl:SPE X l tl):SPI X tg l (iList K tl):=h ▸ zpi_list hl
end L2
namespace G1
open PySem L2 GM
def prs (ks:List Str):List Str:=ks.flatMap fun a=>ks.map fun b=>a ++ b
structure Tg (H:Hp) (t:Addr) (cs:List Nat) (fs ps:List Str) (lg:Int):Prop where
 ex:∃S F Pp xs,H t=some (.tup [.ref S,.ref F,.ref Pp,.int lg])∧H S=some (.lst xs)∧Rows H xs cs∧H F=some (.lst (txs fs))∧H Pp=some (.lst (txs ps))
 nd:cs.Nodup
 c2:2≤cs.length
 c6:cs.length≤6
 fnd:fs.Nodup
 fsub:∀f∈fs,f∈sgs cs
 pnd:ps.Nodup
 psub:∀p∈ps,p∈prs (sgs cs)
 l1:1≤lg
 l8:lg≤8
theorem Tg.kp {H H':Hp} {t:Addr} {cs:List Nat} {fs ps:List Str} {lg:Int} (h:Tg H t cs fs ps lg) (k:Kp H H'):Tg H' t cs fs ps lg:=by
 obtain ⟨S,F,Pp,xs,h1,h2,h3,h4,h5⟩:=h.ex
 exact {h with ex:=⟨S,F,Pp,xs,k.tup h1,k.lst h2,h3.kp k,k.lst h4,k.lst h5⟩}
theorem nodup_le:∀{fs ks:List Str},fs.Nodup→(∀f∈fs,f∈ks)→fs.length≤ks.length
 | [],_,_,_=>Nat.zero_le _
 | f :: fs,ks,h,s=>by
  have hf:=s f List.mem_cons_self
  obtain ⟨a,b,rfl⟩:=List.append_of_mem hf
  have:=nodup_le (fs:=fs) (ks:=a ++ b) (List.nodup_cons.mp h).2 fun g hg=>by
   have:=s g (List.mem_cons_of_mem _ hg)
   rcases List.mem_append.mp this with z | z
   ·exact List.mem_append_left _ z
   ·rcases List.mem_cons.mp z with rfl | z
    ·exact absurd hg (List.nodup_cons.mp h).1
    ·exact List.mem_append_right _ z
  simp only [List.length_append,List.length_cons] at this ⊢
  omega
theorem flat_len (ks:List Str) (f:Str→List Str) (n:Nat) (h:∀a,(f a).length=n):(ks.flatMap f).length=ks.length * n:=by
 induction ks with
 | nil=>simp
 | cons k ks ih=>rw [List.flatMap_cons,List.length_append,ih,h,List.length_cons,Nat.succ_mul,Nat.add_comm]
theorem prs_len (ks:List Str):(prs ks).length=ks.length * ks.length:=flat_len ks _ _ fun a=>by rw [List.length_map]
theorem Tg.flen {H:Hp} {t:Addr} {cs:List Nat} {fs ps:List Str} {lg:Int} (h:Tg H t cs fs ps lg):fs.length≤6:=by
 have:=nodup_le h.fnd h.fsub
 have:=h.c6
 unfold sgs at *
 rw [List.length_map] at *
 omega
theorem Tg.plen {H:Hp} {t:Addr} {cs:List Nat} {fs ps:List Str} {lg:Int} (h:Tg H t cs fs ps lg):ps.length≤36:=by
 have e:=nodup_le h.pnd h.psub
 have c6:=h.c6
 rw [prs_len] at e
 have:(sgs cs).length=cs.length:=List.length_map ..
 rw [this] at e
 exact Nat.le_trans e (Nat.mul_le_mul c6 c6)
theorem prs_snoc {ks:List Str} {i:Nat} {a:Str} (e:ks[i]? = some a):(ks.take (i + 1)).flatMap (fun a=>ks.map fun b=>a ++ b)=(ks.take i).flatMap (fun a=>ks.map fun b=>a ++ b) ++ ks.map fun b=>a ++ b:=by
 rw [List.take_add_one,e,List.flatMap_append]
 simp
section
variable {P:Program} {w:World} {K:PySem.W.Frag} {mg:Str→Option Value} {base:Heap}
end
end G1
namespace L2
open PySem PySem.Spec PyProof.Rows
section
variable {X:Cx} {e tg iter:Expr} {ifs:List Expr} {scope esc:Scope} {pos:Pos} {N os:List Str} {fi:List Nat} {wi:TI} {g:TG} {tt:TT} {tb:Addr→TB} {body:Addr→Env→Sem Fi→Sem Fi} {o0:Addr→HO} {mk:Sem Value} {p:Pos} {elt:Expr} {te:TE}
end
theorem call_len_seqK {X:Cx} (K:PySem.W.Frag) (h:X.K=K):CallR X (.builtin "len") (fun xs H Q=>∃p ys,xs=[.ref p]∧(SqL K H p ys∨SqT K H p ys)∧Q (.int ys.length) H):=h ▸ call_len_seq
theorem mt_indexK {X:Cx} (K:PySem.W.Frag) (h:X.K=K):MtR X "list.index" (fun x vs H Q=>∃(l:Addr) (xs:List V) (y:V) (j:Nat),x = .ref l∧vs=[y]∧SqL K H l xs∧xs.all flatV=true∧flatV y=true∧(∃z,xs[j]? = some z∧eqV z y=true)∧(∀(m:Nat) (z:V),m < j→xs[m]? = some z→eqV z y=false)∧Q (.int j) H):=h ▸ mt_index
end L2
namespace G1
open PySem L2 GM
section
variable {P:Program} {w:World} {K:PySem.W.Frag} {mg:Str→Option Value} {base:Heap}
def spCell (K:PySem.W.Frag):Sp:=fun vs H Q _=>∃(a:Addr) (ns:List Int) (k:Int),vs=[.ref a,.int k]∧SqL K H a (ns.map V.int)∧0≤k∧∀z:Int,Q (.int z) H
theorem scCe:FnScope ["_law_script","_law_k"] ["_law_script","_law_k"] (defScope sCell):=⟨rfl,rfl,rfl,by decide +kernel,rfl,by decide +kernel,by decide +kernel⟩
theorem ok_cell {f:Addr} {fd:FuncData} (F:FunG K "_law_cell" "_law_cell" sCell .none f fd) (B:Bl mg):FnOk P w K mg base (CXE P w) 1 f fd ["_law_script","_law_k"] (spCell K):=by
 refine F.zokN scCe (fun vs H Q E h=>?_) (fun cdv A outer s H vs Q E hr h=>?_)
 ·obtain ⟨a,ns,k,rfl,_⟩:=h
  rfl
 ·obtain ⟨a,ns,k,rfl,ha,k0,q⟩:=h
  refine ⟨_,zpss_cons (zps_if (zpt_cmpR op_lt (zpv 1) (zpe_callB call_len_seq (by rfl) B.len PySem.boot_len (zpac_n (zpv 0) zpa_nil)) (nomark _)) (zpss_one (zps_ret (zpe_ix ix_list (zpv 0) (zpv 1) (fun _ _=>rfl)))) zpss_nil)
   (zpss_one (zps_ret zpe_int)),?_⟩
  refine ⟨_,rfl,_,rfl,a,_,rfl,.inl ha,_,_,rfl,rfl,_,rfl,?_⟩
  refine ite2 (fun e=>?_) (fun _=>q 0)
  have lt:=of_decide_eq_true e
  obtain ⟨n,rfl⟩:=Int.eq_ofNat_of_zero_le k0
  rw [List.length_map] at lt
  have hn:n < ns.length:=by omega
  refine ⟨_,rfl,_,rfl,a,_,_,_,rfl,rfl,ha,atI_nat (v:=.int ns[n]) (by simp [hn]),q _⟩
end
def Below (ds ss:List Int):Prop:=ds.length=ss.length∧∀(i:Nat) (d s:Int),ds[i]? = some d→ss[i]? = some s→0≤d∧d < s
section
variable {P:Program} {w:World} {K:PySem.W.Frag} {mg:Str→Option Value} {base:Heap}
def spDraws:Sp:=fun vs H Q _=>∃(z k:Int) (S:Addr) (ss:List Int),vs=[.int z,.int k,.ref S]∧0≤k∧k≤1000∧H S=some (.lst (ss.map V.int))∧ss.length≤1000∧(∀s∈ss,0 < s∧s.natAbs < big)∧
 ∀l ds H',Same H H'→H l=none→H' l=some (.lst (ds.map V.int))→Below ds ss→Q (.ref l) H'
theorem scDr:FnScope ["_law_cell_here","_law_k","_law_sizes","_law_number","_law_great","_law_mixed","_law_found","_law_turn","_law_size"] ["_law_cell_here","_law_k","_law_sizes"] (defScope sDraws):=⟨rfl,rfl,rfl,by decide +kernel,rfl,by decide +kernel,by decide +kernel⟩
theorem ok_draws {f:Addr} {fd:FuncData} (F:FunG K "_law_draws" "_law_draws" sDraws .none f fd) (B:Bl mg):FnOk P w K mg base (CXE P w) 1 f fd ["_law_cell_here","_law_k","_law_sizes"] spDraws:=by
 refine F.zokN scDr (fun vs H Q E h=>?_) (fun cdv A outer s H vs Q E hr h=>?_)
 ·obtain ⟨z,k,S,ss,rfl,_⟩:=h
  rfl
 ·obtain ⟨z,k,S,ss,rfl,k0,k1,hS,s1,spos,q⟩:=h
  refine ⟨_,(zpss_cons (zps_set (i:=3) scDr.nd rfl (Or.inl rfl) (zpe_callB call_abs (by rfl) B.abs boot_abs (zpac_n (zpv 0) zpa_nil)))
   (zpss_cons (zps_set (i:=4) scDr.nd rfl (Or.inl rfl) (zpe_cmpR op_ge (zpv 3) (zpe_op op_pow zpe_int zpe_int) (nomark _)))
   (zpss_cons (zps_set (i:=5) scDr.nd rfl (Or.inl rfl) (zpe_op op_mod (zpe_op op_mul (zpe_op op_add (zpe_op op_add (zpe_op op_mod (zpv 3) zpe_int) (zpe_op op_mul zpe_int (zpv 1))) zpe_int) zpe_int) zpe_int))
   (zpss_cons (zps_set (i:=6) scDr.nd rfl (Or.inl rfl) (zpe_lst zpa_nil))
   (zpss_cons (zps_for PassesOwn.never rfl (zpi_enum (by rfl) B.enum (zpac_n (zpv 2) zpa_nil)) (zpg_tup rfl (zpgs_cons (zpg_name (i:=7) scDr.nd rfl (Or.inl rfl)) (zpgs_cons (zpg_name (i:=8) scDr.nd rfl (Or.inl rfl)) zpgs_nil)))
     (zpss_one (zps_if (zpt_val (zpv 4)) (zpss_cons (zps_expr (zpe_bm PySem.F.plainAttrs_list PySem.F.slot_list_append PySem.F.type_list_append mt_append (zpv 6) (zpac_b (zpe_op op_mod (zpv 3) (zpv 8)) zpa_nil)))
   (zpss_one (zps_set (i:=3) scDr.nd rfl (Or.inl rfl) (zpe_op op_fdivP (zpv 3) (zpv 8))))) (zpss_cons (zps_set (i:=5) scDr.nd rfl (Or.inl rfl) (zpe_op op_mod (zpe_op op_add (zpe_op op_add (zpe_op op_mul (zpv 5) (zpv 5)) (zpe_op op_mul zpe_int (zpe_op op_add (zpv 1) (zpv 7)))) zpe_int) zpe_int))
   (zpss_one (zps_expr (zpe_bm PySem.F.plainAttrs_list PySem.F.slot_list_append PySem.F.type_list_append mt_append (zpv 6) (zpac_b (zpe_op op_mod (zpe_op op_fdiv (zpv 5) zpe_int) (zpv 8)) zpa_nil))))))))
   (zpss_one (zps_ret (zpv 6)))))))),?_⟩
  have p1:∀y:Int,(0:Int)≤y % 2147483629∧y % 2147483629 < 2147483629:=fun y=>⟨Int.emod_nonneg _ (by decide),Int.emod_lt_of_pos _ (by decide)⟩
  have p2:∀y:Int,(0:Int)≤y % 2147483587∧y % 2147483587 < 2147483629:=fun y=>⟨Int.emod_nonneg _ (by decide),by have:=Int.emod_lt_of_pos y (show (0:Int) < 2147483587 by decide); omega⟩
  refine ⟨_,rfl,_,rfl,?_⟩
  refine ⟨_,rfl,_,_,rfl,rfl,⟨by decide,by decide,by decide⟩,_,_,rfl,rfl,?_⟩
  refine ⟨_,rfl,_,_,rfl,rfl,(by show (0:Int) < 1000000007; decide),_,rfl,_,_,rfl,rfl,.inl ⟨by decide,by decide⟩,_,_,rfl,rfl,_,_,rfl,rfl,_,_,rfl,rfl,.inr ⟨by decide,by decide⟩,_,_,rfl,rfl,(by show (0:Int) < 2147483629; decide),?_⟩
  refine ⟨Nat.zero_le _,?_⟩
  (intro l gl; generalize hEq:upd _ l _=H1; refine newC hEq gl ?_; clear hEq; intro S1 e1 o1)
  refine ⟨_,rfl,S,rfl,⟨_,SqL.of (S1 _ _ hS)⟩,?_⟩
  refine for_enum (K:=K) (a:=S) (xs:=ss.map V.int) (fun i σ H'=>(∃g n m v7 v8,σ=[some (.int z),some (.int k),some (.ref S),some (.int n),some (.bl g),some (.int m),some (.ref l),v7,v8]∧0≤m∧m < 2147483629)∧Same H H'∧∃ds:List Int,H' l=some (.lst (ds.map V.int))∧ds.length=i∧∀(j:Nat) (d s:Int),ds[j]? = some d→ss[j]? = some s→0≤d∧d < s)
   ⟨⟨_,_,_,_,_,rfl,(p1 _).1,(p1 _).2⟩,S1,[],e1,rfl,fun j d s h=>by simp at h⟩ (fun i σ H' _ p=>SqL.of (p.2.1 _ _ hS)) ?_ ?_
  ·rintro i x t σ H2 hi ⟨⟨g,n,m,v7,v8,rfl,m0,m1⟩,S2,ds,hl,dl,db⟩ ht
   rw [List.getElem?_map] at hi
   obtain ⟨sz,hsz,rfl⟩:=Option.map_eq_some_iff.mp hi
   obtain ⟨sp,sb⟩:=spos sz (List.mem_of_getElem? hsz)
   have il:=(List.getElem?_eq_some_iff.mp hsz).1
   have lt:l≠t:=fun z=>by rw [z,ht] at hl; cases hl
   have S3:Same H (upd H2 t (.tup [.int i,.int sz])):=S2.trans (same_upd ht)
   have hl3:upd H2 t (.tup [.int i,.int sz]) l=some (.lst (ds.map V.int)):=by rw [upd_ne lt]; exact hl
   have ht3:upd H2 t (.tup [.int i,.int sz]) t=some (.tup [.int i,.int sz]):=upd_same
   generalize upd H2 t (.tup [.int i,.int sz])=H3 at S3 hl3 ht3
   have put:∀d:Int,0≤d→d < sz→Same H (upd H3 l (.lst (ds.map V.int ++ [V.int d])))∧∃ds':List Int,upd H3 l (.lst (ds.map V.int ++ [V.int d])) l=some (.lst (ds'.map V.int))∧ds'.length=i + 1∧∀(j:Nat) (d s:Int),ds'[j]? = some d→ss[j]? = some s→0≤d∧d < s:=fun d d0 d1=>by
    refine ⟨fun b o e=>?_,ds ++ [d],by rw [List.map_append]; exact upd_same,by rw [List.length_append,dl]; rfl,fun j e s hj hs=>?_⟩
    ·rw [upd_ne (ne_of_none e gl)]; exact S3 _ _ e
    ·by_cases jl:j < ds.length
     ·rw [List.getElem?_append_left jl] at hj
      exact db j e s hj hs
     ·have jlt:=(List.getElem?_eq_some_iff.mp hj).1
      rw [List.length_append] at jlt
      have je:j=ds.length:=by simp at jlt; omega
      subst je
      rw [List.getElem?_append_right (Nat.le_refl _)] at hj
      simp at hj
      subst hj
      rw [dl,hsz] at hs
      cases hs
      exact ⟨d0,d1⟩
   have md:∀y:Int,0≤y % sz∧y % sz < sz:=fun y=>⟨Int.emod_nonneg _ (by omega),Int.emod_lt_of_pos _ sp⟩
   have ll:(ds.map V.int).length < sizeLine:=by rw [List.length_map,dl]; exact Nat.lt_of_lt_of_le (show i < 1001 by omega) (by decide)
   refine ⟨t,_,rfl,SqT.of ht3,rfl,_,_,rfl,_,_,rfl,rfl,?_⟩
   cases g with
   | true=>
    refine ⟨_,rfl,_,rfl,_,rfl,.inl ⟨rfl,_,SqL.of hl3⟩,_,rfl,_,rfl,_,_,rfl,rfl,sp,l,_,_,rfl,rfl,hl3,ll,?_⟩
    obtain ⟨S4,ds',hl4,dl4,db4⟩:=put (n % sz) (md n).1 (md n).2
    exact ⟨_,rfl,_,rfl,_,_,rfl,rfl,⟨sp,sb⟩,⟨_,_,_,_,_,rfl,m0,m1⟩,S4,ds',hl4,dl4,db4⟩
   | false=>
    refine ⟨_,rfl,_,rfl,_,rfl,_,rfl,_,_,rfl,rfl,.inl ⟨by omega,by omega⟩,_,rfl,_,rfl,_,_,rfl,rfl,_,_,rfl,rfl,.inl ⟨by decide,by decide⟩,_,_,rfl,rfl,_,_,rfl,rfl,_,_,rfl,rfl,(by show (0:Int) < 2147483587; decide),?_⟩
    refine ⟨_,rfl,.inl ⟨rfl,_,SqL.of hl3⟩,_,rfl,_,_,rfl,rfl,⟨by decide,by decide⟩,_,rfl,_,_,rfl,rfl,sp,l,_,_,rfl,rfl,hl3,ll,?_⟩
    obtain ⟨S4,ds',hl4,dl4,db4⟩:=put _ (md _).1 (md _).2
    exact ⟨⟨_,_,_,_,_,rfl,(p2 _).1,(p2 _).2⟩,S4,ds',hl4,dl4,db4⟩
  ·rintro σ H2 ⟨⟨g,n,m,v7,v8,rfl,_,_⟩,S2,ds,hl,dl,db⟩
   rw [List.length_map] at dl
   exact ⟨_,rfl,q l ds H2 S2 gl hl ⟨dl,db⟩⟩
end
end G1
namespace L2
open PySem PySem.Spec PyProof.Rows
def repS (c n:Nat):Str:=⟨(List.replicate n c).toArray⟩
theorem repS_len (c n:Nat):(repS c n).length=n:=by simp [repS,Str.length]
theorem fold_rep (c:Nat):∀(n:Nat) (a:Array Nat),(List.replicate n #[c]).foldl (· ++ ·) a=a ++ (List.replicate n c).toArray
 | 0,a=>by simp
 | n + 1,a=>by
  rw [List.replicate_succ,List.foldl_cons,fold_rep c n,List.replicate_succ]
  apply Array.ext'
  simp
theorem op_mulS {X:Cx}:OpR X (binaryOp .Mult) (fun x y H Q=>∃(c:Nat) (n:Nat),x = .str ⟨#[c]⟩∧y = .int n∧n≤1000∧Q (.str (repS c n)) H):=by
 intro pins s σ H x y v u Q I rx ry h
 obtain ⟨c,n,rfl,rfl,hn,q⟩:=h
 obtain ⟨t,rfl⟩:=rx
 obtain ⟨t',rfl⟩:=ry
 have len:∀m:Nat,m≤1000→m≤sizeLine:=fun m h=>Nat.le_trans h (by rw [sizeLine_eq]; decide)
 refine PySem.P.mul_str ?_ ?_ ?_ ?_
 ·have h1:¬((n:Int) < -(2 ^ 63:Int)):=by omega
  have h2:¬((n:Int) ≥ 2 ^ 63):=by omega
  rw [decide_eq_false h1,decide_eq_false h2]; rfl
 ·intro h1 _
  show ¬((1:Int) > (2 ^ 63 - 1) / (n:Int))
  have:(1:Int)≤(2 ^ 63 - 1) / (n:Int):=by
   apply Int.le_ediv_of_mul_le
   ·omega
   ·omega
  omega
 ·intro _ _
  have:=len (1 * n) (by omega)
  show decide (1 * ((n:Int).toNat) > sizeLine)=false
  exact decide_eq_false (by omega)
 ·split
  ·have e:n=0:=by omega
   subst e
   exact ⟨by decide,.str (repS c 0),H,I.tok _,⟨_,rfl⟩,q⟩
  ·split
   ·rename_i h1 h2
    have e:n=1:=by
     rcases Bool.or_eq_true_iff.mp h2 with z | z
     ·have:=eq_of_beq z; omega
     ·cases z
    subst e
    exact ⟨.str (repS c 1),H,I,⟨_,rfl⟩,q⟩
   ·have e:(⟨(List.replicate (n:Int).toNat (#[c]:Array Nat)).foldl (· ++ ·) #[]⟩:Str)=repS c n:=by
     unfold repS
     rw [fold_rep]
     simp
    rw [e]
    exact ⟨by rw [repS_len]; exact len n hn,.str (repS c n),H,I.tok _,⟨_,rfl⟩,q⟩
end L2
namespace G1
open PySem L2 GM
def ltr (j:Nat):Nat:=letters.cps.toList.getD j 97
theorem ltr_occ:∀j:Fin 26,occ (ltr j.val)=true:=by decide +kernel
theorem app_list (a b:Str):(a ++ b).cps.toList=a.cps.toList ++ b.cps.toList:=by
 show (a.cps ++ b.cps).toList=_
 simp
theorem ltr_at {j:Nat} (h:j < 26):atI letters.cps.toList (j:Int)=some (ltr j):=by
 have l:letters.cps.toList.length=26:=by decide +kernel
 refine atI_nat (v:=ltr j) ?_
 unfold ltr
 rw [List.getD_eq_getElem?_getD,List.getElem?_eq_getElem (by omega)]; rfl
end G1
namespace L2
open PySem PySem.Spec PyProof.Rows
theorem str_ext {x y:Str} (h:x.cps.toList=y.cps.toList):x=y:=by
 cases x; cases y
 simp only at h
 rw [Array.ext' h]
def catT (ts:List Str):Str:=⟨(ts.map fun t=>t.cps.toList).flatten.toArray⟩
theorem fold_cat (g:Array Nat) (hg:g = #[]):∀(ts:List Str) (a:Array Nat),(ts.foldl (fun acc p=>acc ++ g ++ p.cps) a)=a ++ ((ts.map fun t=>t.cps.toList).flatten).toArray
 | [],a=>by simp
 | t :: ts,a=>by
  rw [List.foldl_cons,fold_cat g hg ts,hg]
  apply Array.ext'
  simp
theorem join_cat (ts:List Str):Txt.join "" ts=catT ts:=by
 apply str_ext
 show (List.foldl _ _ _:Array Nat).toList=_
 rw [fold_cat (Str.ofString "").cps (by decide)]
 cases ts with
 | nil=>simp [catT,Str.empty]
 | cons t ts=>simp [catT]
theorem gl_list {K:PySem.W.Frag} {S:Addr} {xs:List V} {g:TG} {te:TE} {σ:St} {H:Hp} {Q:VK} (Pv:Nat→St→Hp→Prop) (h0:Pv 0 σ H) (hS:∀i σ H,Pv i σ H→SqL K H S xs)
  (step:∀(i:Nat) (x:V) (σ:St) (H:Hp) (C:St→Hp→Prop),xs[i]? = some x→Pv i σ H→(∀σ' H',Pv (i + 1) σ' H'→C σ' H')→g x σ H fun σ4 H4=>te σ4 H4 fun v H5=>∃b,v = .bl b∧if b=true then C σ4 H5 else Q (.bl false) H5)
  (fin:∀σ H,Pv xs.length σ H→Q (.bl true) H):GLr (Itl K S) g te σ H Q:=by
 refine ⟨fun i m σ H=>m=xs.length - i∧i≤xs.length∧Pv i σ H,⟨_,rfl,Nat.zero_le _,h0⟩,?_⟩
 rintro i m σ2 H2 ⟨rfl,hi,p⟩
 have sq:=hS i σ2 H2 p
 by_cases hlt:i < xs.length
 ·refine .inr ⟨⟨xs,_,sq,List.getElem?_eq_getElem hlt⟩,?_⟩
  rintro x H3 ⟨rfl,hx⟩
  exact step i x σ2 H3 _ (hx _ sq) p fun σ' H' p'=>⟨xs.length - (i + 1),by omega,rfl,hlt,p'⟩
 ·have e:i=xs.length:=by omega
  subst e
  exact .inl ⟨⟨_,sq,Nat.le_refl _⟩,fin _ _ p⟩
def tyN (H:Hp):V→String
 | .non=>"NoneType"
 | .bl _=>"bool"
 | .int _=>"int"
 | .str _=>"str"
 | .ref a=>match H a with
  | some (.lst _)=>"list"
  | some (.tup _)=>"tuple"
  | some (.dK _)=>"dict"
  | _=>""
 | _=>""
theorem tyN_lst {H:Hp} {a:Addr} {xs:List V} (h:H a=some (.lst xs)):tyN H (.ref a) = "list":=by simp [tyN,h]
theorem tyN_tup {H:Hp} {a:Addr} {xs:List V} (h:H a=some (.tup xs)):tyN H (.ref a) = "tuple":=by simp [tyN,h]
theorem tyN_dK {H:Hp} {a:Addr} {xs:List (Key × V)} (h:H a=some (.dK xs)):tyN H (.ref a) = "dict":=by simp [tyN,h]
theorem Th.tyQ {K:PySem.W.Frag} {H:Hp} {x:V} (h:Th H x):TyX K H x (.type (tyN H x)):=by
 cases h with
 | non=>exact .of .non
 | bl b=>exact .of (.bl b)
 | int i=>exact .of (.int i)
 | str x=>exact .of (.str x)
 | lst h=>rw [tyN_lst h]; exact .of (.lst h)
 | tup h=>rw [tyN_tup h]; exact .of (.tup h)
 | dK h=>rw [tyN_dK h]; exact .of (.dK h)
theorem kit_tup {K:PySem.W.Frag} {H:Hp} {x:V} (h:Th H x):PySem.W.kitOne K (.type (tyN H x)) (.type "tuple")=some (decide (tyN H x = "tuple")):=by
 cases h with
 | lst h=>rw [tyN_lst h]; kernel_rfl
 | tup h=>rw [tyN_tup h]; kernel_rfl
 | dK h=>rw [tyN_dK h]; kernel_rfl
 | _=>kernel_rfl
theorem kit_lst {K:PySem.W.Frag} {H:Hp} {x:V} (h:Th H x):PySem.W.kitOne K (.type (tyN H x)) (.type "list")=some (decide (tyN H x = "list")):=by
 cases h with
 | lst h=>rw [tyN_lst h]; kernel_rfl
 | tup h=>rw [tyN_tup h]; kernel_rfl
 | dK h=>rw [tyN_dK h]; kernel_rfl
 | _=>kernel_rfl
theorem Th.isTup {H:Hp} {x:V} (h:Th H x) (e:tyN H x = "tuple"):∃a xs,x = .ref a∧H a=some (.tup xs):=by
 cases h with
 | tup h=>exact ⟨_,_,rfl,h⟩
 | lst h=>rw [tyN_lst h] at e; exact absurd e (by decide)
 | dK h=>rw [tyN_dK h] at e; exact absurd e (by decide)
 | _=>exact absurd e (by simp [tyN])
theorem Th.isLst {H:Hp} {x:V} (h:Th H x) (e:tyN H x = "list"):∃a xs,x = .ref a∧H a=some (.lst xs):=by
 cases h with
 | lst h=>exact ⟨_,_,rfl,h⟩
 | tup h=>rw [tyN_tup h] at e; exact absurd e (by decide)
 | dK h=>rw [tyN_dK h] at e; exact absurd e (by decide)
 | _=>exact absurd e (by simp [tyN])
end L2
namespace G1
open PySem L2 GM
theorem _root_.L2.Th.kp {H H':Hp} {x:V} (h:Th H x) (s:Kp H H'):Th H' x:=by
 cases h with
 | non=>exact .non
 | bl b=>exact .bl b
 | int i=>exact .int i
 | str x=>exact .str x
 | lst h=>exact .lst (s _ _ h nofun)
 | tup h=>exact .tup (s _ _ h nofun)
 | dK h=>exact .dK (s _ _ h nofun)
theorem back {H H':Hp} {y:V} {a:Addr} {o:HO} (h:Th H y) (k:Kp H H') (e:y = .ref a) (e':H' a=some o):H a=some o:=by
 subst e
 cases h with
 | lst h=>rw [k _ _ h nofun] at e'; cases e'; exact h
 | tup h=>rw [k _ _ h nofun] at e'; cases e'; exact h
 | dK h=>rw [k _ _ h nofun] at e'; cases e'; exact h
end G1
namespace L2
open PySem
end L2
namespace G1
open PySem L2 GM
section
variable {P:Program} {w:World} {K:PySem.W.Frag} {mg:Str→Option Value} {base:Heap}
def _root_.G1.TbK (H H':Hp):Prop:=∀U,Tab U H→Tab U H'
theorem _root_.G1.TbK.refl {H:Hp}:TbK H H:=fun _ h=>h
theorem _root_.G1.TbK.trans {H H1 H2:Hp} (a:TbK H H1) (b:TbK H1 H2):TbK H H2:=fun U h=>b U (a U h)
theorem _root_.G1.TbK.new {H H':Hp} {p:Addr} {o:HO} (a:TbK H H') (n:H' p=none):TbK H (upd H' p o):=fun U h=>(a U h).new n
theorem _root_.G1.TbK.set {H H':Hp} {p:Addr} {o o':HO} (a:TbK H H') (n:H' p=some o') (no:∀ps,o'≠.tbl ps):TbK H (upd H' p o):=fun U h=>(a U h).set n no
theorem _root_.G1.TbK.same {H H' H2:Hp} (a:TbK H H') (s:Same H' H2):TbK H H2:=fun U h=>(a U h).same s
end
theorem TbK.tab {T:Addr} {H:Hp} {ps':Array Value} (t:TriplesOk ps'.toList):TbK H (upd H T (.tbl ps')):=fun U h=>h.put t
def letB (x:V):Bool:=nameB x && match x with
 | .str z=>decide (z.length=1)
 | _=>false
theorem letB_str {x:V} (h:letB x=true):∃c,x = .str (sg1 c)∧occ c=true:=by
 unfold letB at h
 obtain ⟨h1,h2⟩:=Bool.and_eq_true_iff.mp h
 cases x with
 | str z=>
  have l1:z.length=1:=of_decide_eq_true h2
  have ex:∃c,z=sg1 c:=by
   have l:z.cps.toList.length=1:=by rw [Array.length_toList]; exact l1
   match e:z.cps.toList,l with
   | [c],_=>exact ⟨c,PyProof.Rows.ext_toList (by rw [e]; rfl)⟩
  obtain ⟨c,rfl⟩:=ex
  refine ⟨c,rfl,?_⟩
  simp only [nameB,Bool.and_eq_true] at h1
  have a:=h1.2.2
  have a:([c]:List Nat).all occ=true:=a
  simpa using a
 | _=>cases h2
theorem letB_sg1 {c:Nat} (h:occ c=true):letB (.str (sg1 c))=true:=by
 unfold letB
 rw [name1 h]; rfl
def AbP (H:Hp) (x:V):Prop:=∃a n d,x = .ref a∧H a=some (.tup [.int n,.int d])∧0 < n∧0 < d∧Nat.gcd n.natAbs d.natAbs=1
noncomputable def abB (H:Hp) (x:V):Bool:=@decide (AbP H x) (Classical.propDecidable _)
theorem abB_t {H:Hp} {x:V} (h:AbP H x):abB H x=true:=by unfold abB; exact @decide_eq_true _ (Classical.propDecidable _) h
theorem abB_f {H:Hp} {x:V} (h:¬AbP H x):abB H x=false:=by unfold abB; exact @decide_eq_false _ (Classical.propDecidable _) h
theorem AbP.kp {H H':Hp} {x:V} (h:AbP H x) (k:Kp H H'):AbP H' x:=by
 obtain ⟨a,n,d,e,ha,r⟩:=h
 exact ⟨a,n,d,e,k.tup ha,r⟩
theorem AbP.back {H H':Hp} {x:V} (t:Th H x) (k:Kp H H') (h:AbP H' x):AbP H x:=by
 obtain ⟨a,n,d,e,ha,r⟩:=h
 exact ⟨a,n,d,e,G1.back t k e ha,r⟩
theorem abB_kp {H H':Hp} {x:V} (t:Th H x) (k:Kp H H'):abB H' x=abB H x:=by
 by_cases h:AbP H x
 ·rw [abB_t h,abB_t (h.kp k)]
 ·rw [abB_f h,abB_f fun z=>h (z.back t k)]
theorem ThD.kp {H H':Hp} {x:V} (h:ThD H x) (k:Kp H H'):ThD H' x:=
 ⟨h.th.kp k,fun a xs e e' y hy=>(h.parts a xs e (G1.back h.th k e e') y hy).kp k,fun a n d e e'=>h.few a n d e (G1.back h.th k e e'),h.str⟩
def RowP (H:Hp) (y:V) (c:Nat):Prop:=∃a p l,y = .ref a∧H a=some (.tup [.str (sg1 c),p,l])∧occ c=true∧AbP H p∧(l = .non∨AbP H l)
noncomputable def rowB (H:Hp) (y:V):Bool:=@decide (∃c,RowP H y c) (Classical.propDecidable _)
theorem rowB_t {H:Hp} {y:V} {c:Nat} (h:RowP H y c):rowB H y=true:=by unfold rowB; exact @decide_eq_true _ (Classical.propDecidable _) ⟨c,h⟩
theorem rowB_f {H:Hp} {y:V} (h:∀c,¬RowP H y c):rowB H y=false:=by unfold rowB; exact @decide_eq_false _ (Classical.propDecidable _) fun ⟨c,z⟩=>h c z
theorem rowB_of {H:Hp} {y:V} (h:rowB H y=true):∃c,RowP H y c:=by unfold rowB at h; exact @of_decide_eq_true _ (Classical.propDecidable _) h
structure ThR (H:Hp) (y:V):Prop where
 th:Th H y
 parts:∀a xs,y = .ref a→H a=some (.tup xs)→∀z∈xs,ThD H z
theorem ThR.kp {H H':Hp} {x:V} (h:ThR H x) (k:Kp H H'):ThR H' x:=
 ⟨h.th.kp k,fun a xs e e' y hy=>(h.parts a xs e (G1.back h.th k e e') y hy).kp k⟩
theorem RowP.kp {H H':Hp} {y:V} {c:Nat} (h:RowP H y c) (k:Kp H H'):RowP H' y c:=by
 obtain ⟨a,p,l,e,ha,oc,hp,hl⟩:=h
 exact ⟨a,p,l,e,k.tup ha,oc,hp.kp k,hl.imp id fun z=>z.kp k⟩
theorem RowP.back {H H':Hp} {y:V} {c:Nat} (t:ThR H y) (k:Kp H H') (h:RowP H' y c):RowP H y c:=by
 obtain ⟨a,p,l,e,ha,oc,hp,hl⟩:=h
 have ha':=G1.back t.th k e ha
 have tp:=t.parts a _ e ha' p (by simp)
 have tl:=t.parts a _ e ha' l (by simp)
 exact ⟨a,p,l,e,ha',oc,hp.back tp.th k,hl.imp id fun z=>z.back tl.th k⟩
theorem rowB_kp {H H':Hp} {x:V} (t:ThR H x) (k:Kp H H'):rowB H' x=rowB H x:=by
 by_cases h:∃c,RowP H x c
 ·obtain ⟨c,h⟩:=h
  rw [rowB_t h,rowB_t (h.kp k)]
 ·rw [rowB_f fun c z=>h ⟨c,z⟩,rowB_f fun c z=>h ⟨c,z.back t k⟩]
structure RowsP (H:Hp) (xs:List V) (cs:List Nat):Prop where
 len:xs.length=cs.length
 row:∀(i:Nat) (x:V) (c:Nat),xs[i]? = some x→cs[i]? = some c→RowP H x c
theorem RowsP.kp {H H':Hp} {xs:List V} {cs:List Nat} (h:RowsP H xs cs) (k:Kp H H'):RowsP H' xs cs:=⟨h.len,fun i x c e1 e2=>(h.row i x c e1 e2).kp k⟩
theorem RowsP.at {H:Hp} {xs:List V} {cs:List Nat} {i:Nat} {x:V} (h:RowsP H xs cs) (e:xs[i]? = some x):∃c,cs[i]? = some c∧RowP H x c:=by
 have hi:i < cs.length:=by rw [← h.len]; exact (List.getElem?_eq_some_iff.mp e).1
 exact ⟨cs[i],List.getElem?_eq_getElem hi,h.row i x _ e (List.getElem?_eq_getElem hi)⟩
structure ThU (H:Hp) (x:V):Prop where
 th:Th H x
 els:∀a xs,x = .ref a→H a=some (.lst xs)→∀y∈xs,Th H y
theorem ThU.kp {H H':Hp} {x:V} (h:ThU H x) (k:Kp H H'):ThU H' x:=
 ⟨h.th.kp k,fun a xs e e' y hy=>(h.els a xs e (G1.back h.th k e e') y hy).kp k⟩
def UnlP (H:Hp) (x:V) (ks ts:List Str):Prop:=∃L,x = .ref L∧H L=some (.lst (txs ts))∧ts.Nodup∧∀t∈ts,t∈ks
noncomputable def unlB (H:Hp) (x:V) (ks:List Str):Bool:=@decide (∃ts,UnlP H x ks ts) (Classical.propDecidable _)
theorem unlB_t {H:Hp} {x:V} {ks ts:List Str} (h:UnlP H x ks ts):unlB H x ks=true:=by unfold unlB; exact @decide_eq_true _ (Classical.propDecidable _) ⟨ts,h⟩
theorem unlB_f {H:Hp} {x:V} {ks:List Str} (h:∀ts,¬UnlP H x ks ts):unlB H x ks=false:=by unfold unlB; exact @decide_eq_false _ (Classical.propDecidable _) fun ⟨c,z⟩=>h c z
theorem UnlP.kp {H H':Hp} {x:V} {ks ts:List Str} (h:UnlP H x ks ts) (k:Kp H H'):UnlP H' x ks ts:=by
 obtain ⟨L,e,hL,r⟩:=h
 exact ⟨L,e,k.lst hL,r⟩
theorem txs_inj:∀{a b:List Str},txs a=txs b→a=b
 | [],[],_=>rfl
 | x :: a,y :: b,h=>by
  have h:V.str x :: txs a=V.str y :: txs b:=h
  injection h with h1 h2
  injection h1 with h1
  rw [h1,txs_inj h2]
 | [],_ :: _,h=>by cases h
 | _ :: _,[],h=>by cases h
section
variable {P:Program} {w:World} {K:PySem.W.Frag} {mg:Str→Option Value} {base:Heap}
def spLetterG (T:Addr):Sp:=fun vs H Q _=>∃x,vs=[x]∧Th H x∧(∀z,x = .str z→z.length≤sizeLine)∧Tab T H∧∀H',Kp H H'→TbK H H'→Q (.bl (letB x)) H'
theorem scLeG:FnScope ["thing"] ["thing"] (defScope sLetter):=⟨rfl,rfl,rfl,by decide +kernel,rfl,by decide +kernel,by decide +kernel⟩
theorem ok_letterG {T:Addr} {f fN:Addr} {fd fdN:FuncData} (F:FunG K "is_letter" "is_letter" sLetter .none f fd) (B:Bl mg)
  (GN:FnOk P w K mg base (CXE P w) 2 fN fdN ["thing"] (spName T)) (mN:mg "is_name" = some (.ref fN)) (kN:PySem.W.keepIn K (.ref fN)=true) (bN:Binds K fdN ["thing"] []):FnOk P w K mg base (CXE P w) 3 f fd ["thing"] (spLetterG T):=by
 refine F.zokN scLeG (fun vs H Q E h=>?_) (fun cdv A outer s H vs Q E hr h=>?_)
 ·obtain ⟨x,rfl,_⟩:=h
  rfl
 ·obtain ⟨x,rfl,hx,sl,ht,q⟩:=h
  refine ⟨_,(zpss_one (zps_ret (zpe_and (zpe_call GN hr (by rfl) mN kN bN .nil passE0 (zpac_n (zpv 0) zpa_nil)) (zpe_one (zpe_cmpR op_eq (zpe_callB call_len_str (by rfl) B.len PySem.boot_len (zpac_n (zpv 0) zpa_nil)) zpe_int (nomark _)))))),?_⟩
  obtain ⟨ps,hT,tr⟩:=id ht
  refine ⟨_,rfl,x,ps,rfl,hx,sl,hT,tr,fun ps' tr'=>⟨_,rfl,?_⟩⟩
  have q':=q _ (Kp.tab ht) (TbK.tab tr')
  by_cases hn:nameB x=true
  ·rw [hn]
   cases x with
   | str z=>
    refine iteT ⟨_,rfl,z,rfl,sl z rfl,rfl,?_⟩
    have e:letB (.str z)=decide (V.int (z.length:Nat)=V.int 1):=by
     unfold letB
     rw [hn,dec_int]
     simp only [Bool.true_and]
     by_cases l:z.length=1
     ·rw [decide_eq_true l]; rw [l]; rfl
     ·rw [decide_eq_false l]
      have:((z.length:Nat):Int)≠1:=by omega
      exact (beq_eq_false_iff_ne.mpr this).symm
    rw [e] at q'
    exact q'
   | _=>cases hn
  ·have hn:nameB x=false:=by simpa using hn
   have e:letB x=false:=by unfold letB; rw [hn]; rfl
   rw [hn]
   rw [e] at q'
   exact iteF q'
def spAboveG:Sp:=fun vs H Q _=>∃x,vs=[x]∧ThD H x∧Q (.bl (abB H x)) H
theorem scAbG:FnScope ["thing"] ["thing"] (defScope sAbove):=⟨rfl,rfl,rfl,by decide +kernel,rfl,by decide +kernel,by decide +kernel⟩
theorem ok_aboveG {f fF:Addr} {fd fdF:FuncData} (F:FunG K "is_above_nought" "is_above_nought" sAbove .none f fd)
  (GF:FnOk P w K mg base (CXE P w) 2 fF fdF ["thing"] spIsF) (mF:mg "is_fraction" = some (.ref fF)) (kF:PySem.W.keepIn K (.ref fF)=true) (bF:Binds K fdF ["thing"] []):FnOk P w K mg base (CXE P w) 3 f fd ["thing"] spAboveG:=by
 refine F.zokN scAbG (fun vs H Q E h=>?_) (fun cdv A outer s H vs Q E hr h=>?_)
 ·obtain ⟨x,rfl,_⟩:=h
  rfl
 ·obtain ⟨x,rfl,hx,q⟩:=h
  refine ⟨_,(zpss_one (zps_ret (zpe_and (zpe_call GF hr (by rfl) mF kF bF .nil passE0 (zpac_n (zpv 0) zpa_nil)) (zpe_one (zpe_cmpR op_gt (zpe_ix ix_tup (zpv 0) zpe_int (fun _ _=>rfl)) zpe_int (nomark _)))))),?_⟩
  refine ⟨_,rfl,x,rfl,hx,_,rfl,?_⟩
  by_cases hf:FrP H x
  ·rw [frB_t hf]
   obtain ⟨a,n,d,rfl,ha,d0,g⟩:=id hf
   refine iteT ⟨_,rfl,a,_,_,_,rfl,rfl,SqT.of ha,rfl,_,_,rfl,rfl,?_⟩
   have e:abB H (.ref a)=decide ((0:Int) < n):=by
    by_cases n0:0 < n
    ·rw [decide_eq_true n0,abB_t ⟨a,n,d,rfl,ha,n0,d0,g⟩]
    ·rw [decide_eq_false n0,abB_f fun ⟨a',n',d',e,h',z,_⟩=>by
      cases e
      rw [ha] at h'; cases h'
      exact n0 z]
   rw [e] at q
   exact q
  ·rw [frB_f hf]
   rw [abB_f fun ⟨a,n,d,e,h,n0,d0,g⟩=>hf ⟨a,n,d,e,h,d0,g⟩] at q
   exact iteF q
def spRowG (T:Addr):Sp:=fun vs H Q _=>∃y,vs=[y]∧ThR H y∧Tab T H∧∀H',Kp H H'→TbK H H'→Q (.bl (rowB H y)) H'
theorem three_of {xs:List V} (h:xs.length=3):∃x y z,xs=[x,y,z]:=by
 match xs,h with
 | [x,y,z],_=>exact ⟨x,y,z,rfl⟩
theorem four_of {xs:List V} (h:xs.length=4):∃x y z u,xs=[x,y,z,u]:=by
 match xs,h with
 | [x,y,z,u],_=>exact ⟨x,y,z,u,rfl⟩
theorem scRoG:FnScope ["thing","sign","price","last"] ["thing"] (defScope sRow):=⟨rfl,rfl,rfl,by decide +kernel,rfl,by decide +kernel,by decide +kernel⟩
theorem ok_rowG {T:Addr} {f fL fA:Addr} {fd fdL fdA:FuncData} (F:FunG K "is_sign_row" "is_sign_row" sRow .none f fd) (B:Bl mg)
  (GL:FnOk P w K mg base (CXE P w) 3 fL fdL ["thing"] (spLetterG T)) (mL:mg "is_letter" = some (.ref fL)) (kL:PySem.W.keepIn K (.ref fL)=true) (bL:Binds K fdL ["thing"] [])
  (GA:FnOk P w K mg base (CXE P w) 3 fA fdA ["thing"] spAboveG) (mA:mg "is_above_nought" = some (.ref fA)) (kA:PySem.W.keepIn K (.ref fA)=true) (bA:Binds K fdA ["thing"] []):FnOk P w K mg base (CXE P w) 4 f fd ["thing"] (spRowG T):=by
 refine F.zokN scRoG (fun vs H Q E h=>?_) (fun cdv A outer s H vs Q E hr h=>?_)
 ·obtain ⟨x,rfl,_⟩:=h
  rfl
 ·obtain ⟨x,rfl,hx,ht,q⟩:=h
  refine ⟨_,(zpss_cons (zps_if (SPW.pt (zpw_or (zpt_not (zpt_val (zpe_callB call_isi (by rfl) B.isi boot_isi (zpac_n (zpv 0) (zpac_n (zpe_bltn (by rfl) B.tuple boot_tuple (v:=.ty "tuple") rfl) zpa_nil))))) (zpw_or1 (zpt_cmpR op_ne (zpe_callB call_len_seq (by rfl) B.len PySem.boot_len (zpac_n (zpv 0) zpa_nil)) zpe_int (nomark _))))) (zpss_one (zps_ret zpe_bl)) zpss_nil)
   (zpss_cons (zps_asg (zpv 0) (zpg_tup rfl (zpgs_cons (zpg_name (i:=1) scRoG.nd rfl (Or.inl rfl)) (zpgs_cons (zpg_name (i:=2) scRoG.nd rfl (Or.inl rfl)) (zpgs_cons (zpg_name (i:=3) scRoG.nd rfl (Or.inl rfl)) zpgs_nil)))))
   (zpss_one (zps_ret (zpe_and (zpe_call GL hr (by rfl) mL kL bL .nil passE0 (zpac_n (zpv 1) zpa_nil)) (zpe_and (zpe_call GA hr (by rfl) mA kA bA .nil passE0 (zpac_n (zpv 2) zpa_nil)) (zpe_one (zpe_or (zpe_cmpR op_isN (zpv 3) zpe_non (nomark _)) (zpe_one (zpe_call GA hr (by rfl) mA kA bA .nil passE0 (zpac_n (zpv 3) zpa_nil))))))))))),?_⟩
  have q0:=q _ Kp.refl TbK.refl
  refine ⟨_,rfl,_,_,_,_,rfl,hx.th.tyQ,.inl ⟨_,rfl,kit_tup hx.th⟩,_,rfl,?_⟩
  by_cases ty:tyN H x = "tuple"
  ·rw [decide_eq_true ty]
   obtain ⟨a,xs,rfl,ha⟩:=hx.th.isTup ty
   refine iteF ⟨_,rfl,a,_,rfl,.inr (SqT.of ha),rfl,_,rfl,?_⟩
   refine ite2 (fun e=>?_) (fun e=>?_)
   ·rw [rowB_f (by
     rintro c ⟨a',p,l,e',h',_⟩
     cases e'
     rw [ha] at h'; cases h'
     simp at e)] at q0
    exact q0
   ·have l3:xs.length=3:=by
     by_cases z:xs.length=3
     ·exact z
     ·exfalso
      apply e
      simp
      omega
    obtain ⟨sg,p,l,rfl⟩:=three_of l3
    have ts:=hx.parts a _ rfl ha sg (by simp)
    have tp:=hx.parts a _ rfl ha p (by simp)
    have tl:=hx.parts a _ rfl ha l (by simp)
    refine ⟨_,rfl,a,_,rfl,SqT.of ha,rfl,_,_,rfl,_,_,rfl,_,_,rfl,rfl,?_⟩
    refine ⟨_,rfl,sg,rfl,ts.th,ts.str,ht,fun H1 k1 t1=>⟨_,rfl,?_⟩⟩
    have q1:=q _ k1 t1
    by_cases hl:letB sg=true
    ·rw [hl]
     refine iteT ⟨_,rfl,p,rfl,tp.kp k1,_,rfl,?_⟩
     rw [abB_kp tp.th k1]
     obtain ⟨c,rfl,oc⟩:=letB_str hl
     by_cases hp:AbP H p
     ·rw [abB_t hp]
      refine iteT ⟨_,rfl,rfl,_,rfl,?_⟩
      by_cases ln:l = .non
      ·subst ln
       rw [rowB_t ⟨a,p,.non,rfl,ha,oc,hp,.inl rfl⟩] at q1
       exact iteT q1
      ·rw [decide_eq_false ln]
       refine iteF ⟨_,rfl,l,rfl,tl.kp k1,?_⟩
       rw [abB_kp tl.th k1]
       by_cases hl2:AbP H l
       ·rw [abB_t hl2]
        rw [rowB_t ⟨a,p,l,rfl,ha,oc,hp,.inr hl2⟩] at q1
        exact q1
       ·rw [abB_f hl2]
        rw [rowB_f (by
         rintro c' ⟨a',p',l',e',h',_,_,z⟩
         cases e'
         rw [ha] at h'; cases h'
         exact z.elim ln hl2)] at q1
        exact q1
     ·rw [abB_f hp]
      rw [rowB_f (by
       rintro c' ⟨a',p',l',e',h',_,z,_⟩
       cases e'
       rw [ha] at h'; cases h'
       exact hp z)] at q1
      exact iteF q1
    ·have hl':letB sg=false:=by simpa using hl
     rw [hl']
     rw [rowB_f (by
      rintro c' ⟨a',p',l',e',h',oc,_⟩
      cases e'
      rw [ha] at h'; cases h'
      exact hl (letB_sg1 oc))] at q1
     exact iteF q1
  ·rw [decide_eq_false ty]
   refine iteT (iteT ?_)
   rw [rowB_f (by
    rintro c ⟨a',p,l,e',h',_⟩
    subst e'
    exact ty (tyN_tup h'))] at q0
   exact q0
end
end G1
namespace L2
open PySem
def isS:V→Bool
 | .str _=>true
 | _=>false
theorem kit_str {K:PySem.W.Frag} {H:Hp} {x:V} (h:Th H x):PySem.W.kitOne K (.type (tyN H x)) (.type "str")=some (isS x):=by
 cases h with
 | lst h=>rw [tyN_lst h]; kernel_rfl
 | tup h=>rw [tyN_tup h]; kernel_rfl
 | dK h=>rw [tyN_dK h]; kernel_rfl
 | _=>kernel_rfl
end L2
namespace G1
open PySem L2 GM
theorem tk_same {H H':Hp} (s:Same H H'):TbK H H':=TbK.refl.same s
def insAll:List Str→List Str
 | ts=>ts.foldl (fun s t=>insT t s) []
theorem ins_nd {t:Str} {s:List Str} (h:t∉s):insT t s=s ++ [t]:=by unfold insT; rw [if_neg h]
theorem ins_in {t:Str} {s:List Str} (h:t∈s):insT t s=s:=by unfold insT; rw [if_pos h]
theorem fold_ins:∀(ts s:List Str),(ts.foldl (fun s t=>insT t s) s).length≤s.length + ts.length∧(s.Nodup→((ts.foldl (fun s t=>insT t s) s).length=s.length + ts.length↔(s ++ ts).Nodup))
 | [],s=>⟨by simp,fun h=>by simpa using h⟩
 | t :: ts,s=>by
  show (ts.foldl _ (insT t s)).length≤_∧(_→((ts.foldl _ (insT t s)).length=_↔_))
  by_cases h:t∈s
  ·rw [ins_in h]
   obtain ⟨a,_⟩:=fold_ins ts s
   refine ⟨by rw [List.length_cons]; omega,fun nd=>⟨fun e=>by rw [List.length_cons] at e; omega,fun n=>?_⟩⟩
   exact absurd h fun m=>(List.nodup_append.mp n).2.2 t m t (by simp) rfl
  ·rw [ins_nd h]
   obtain ⟨a,b⟩:=fold_ins ts (s ++ [t])
   rw [List.length_append] at a b
   refine ⟨by rw [List.length_cons]; simp at a; omega,fun nd=>?_⟩
   have nd':(s ++ [t]).Nodup:=List.nodup_append.mpr ⟨nd,by simp,fun x hx y hy e=>by rw [List.mem_singleton.mp hy] at e; rw [e] at hx; exact h hx⟩
   have:=b nd'
   have e1:s ++ t :: ts=s ++ [t] ++ ts:=by simp
   rw [e1,show s.length + (t :: ts).length=s.length + [t].length + ts.length by simp; omega]
   exact this
theorem ins_len {ts:List Str}:(insAll ts).length≤ts.length∧((insAll ts).length=ts.length↔ts.Nodup):=by
 obtain ⟨a,b⟩:=fold_ins ts []
 simp only [List.length_nil,Nat.zero_add,List.nil_append] at a b
 exact ⟨a,b List.nodup_nil⟩
theorem insAll_snoc {ts:List Str} {i:Nat} {t:Str} (e:ts[i]? = some t):insAll (ts.take (i + 1))=insT t (insAll (ts.take i)):=by
 unfold insAll
 rw [List.take_add_one,e,List.foldl_append]; rfl
theorem sgs_nodup {cs:List Nat}:(sgs cs).Nodup↔cs.Nodup:=by
 unfold sgs
 constructor
 ·intro h
  exact List.Pairwise.of_map _ (fun a b n e=>n (by rw [e])) h
 ·intro h
  exact List.Pairwise.map _ (fun a b n e=>n (sg1_inj e)) h
structure ThS (H:Hp) (x:V):Prop where
 th:Th H x
 rows:∀a xs,x = .ref a→H a=some (.lst xs)→∀y∈xs,ThR H y
theorem ThS.kp {H H':Hp} {x:V} (h:ThS H x) (k:Kp H H'):ThS H' x:=
 ⟨h.th.kp k,fun a xs e e' y hy=>(h.rows a xs e (G1.back h.th k e e') y hy).kp k⟩
def SigP (H:Hp) (x:V) (cs:List Nat):Prop:=∃S xs,x = .ref S∧H S=some (.lst xs)∧RowsP H xs cs∧cs.Nodup∧2≤cs.length∧cs.length≤6
noncomputable def sigB (H:Hp) (x:V):Bool:=@decide (∃cs,SigP H x cs) (Classical.propDecidable _)
theorem sigB_t {H:Hp} {x:V} {cs:List Nat} (h:SigP H x cs):sigB H x=true:=by unfold sigB; exact @decide_eq_true _ (Classical.propDecidable _) ⟨cs,h⟩
theorem sigB_f {H:Hp} {x:V} (h:∀cs,¬SigP H x cs):sigB H x=false:=by unfold sigB; exact @decide_eq_false _ (Classical.propDecidable _) fun ⟨c,z⟩=>h c z
theorem SigP.kp {H H':Hp} {x:V} {cs:List Nat} (h:SigP H x cs) (k:Kp H H'):SigP H' x cs:=by
 obtain ⟨S,xs,e,hS,r,z⟩:=h
 exact ⟨S,xs,e,k.lst hS,r.kp k,z⟩
theorem RowP.inj {H:Hp} {y:V} {c d:Nat} (h:RowP H y c) (h':RowP H y d):c=d:=by
 obtain ⟨a,p,l,rfl,ha,_⟩:=h
 obtain ⟨a',p',l',e,ha',_⟩:=h'
 cases e
 rw [ha] at ha'; cases ha'; rfl
theorem RowsP.inj {H:Hp} {xs:List V} {cs ds:List Nat} (h:RowsP H xs cs) (h':RowsP H xs ds):cs=ds:=by
 apply List.ext_getElem?
 intro i
 by_cases il:i < xs.length
 ·have e:=List.getElem?_eq_getElem il
  obtain ⟨c,e1,r1⟩:=h.at e
  obtain ⟨d,e2,r2⟩:=h'.at e
  rw [e1,e2,r1.inj r2]
 ·have:=h.len; have:=h'.len
  rw [List.getElem?_eq_none (by omega),List.getElem?_eq_none (by omega)]
theorem rows_of {H:Hp}:∀{xs:List V},(∀x∈xs,rowB H x=true)→∃cs,RowsP H xs cs
 | [],_=>⟨[],rfl,fun i x c e=>by simp at e⟩
 | x :: xs,h=>by
  obtain ⟨cs,r⟩:=rows_of (xs:=xs) fun y hy=>h y (List.mem_cons_of_mem _ hy)
  obtain ⟨c,rc⟩:=rowB_of (h x List.mem_cons_self)
  refine ⟨c :: cs,by rw [List.length_cons,List.length_cons,r.len],fun i y d e1 e2=>?_⟩
  cases i with
  | zero=>cases (Option.some.inj e1); cases (Option.some.inj e2); exact rc
  | succ i=>exact r.row i y d e1 e2
section
variable {P:Program} {w:World} {K:PySem.W.Frag} {mg:Str→Option Value} {base:Heap}
def spSignsOfG (K:PySem.W.Frag):Sp:=fun vs H Q _=>∃(t S:Addr) (f p lg:V) (xs:List V) (cs:List Nat),vs=[.ref t]∧SqT K H t [.ref S,f,p,lg]∧H S=some (.lst xs)∧RowsP H xs cs∧cs.length≤6∧∀l H',H l=none→Same H H'→H' l=some (.lst (txs (sgs cs)))→Q (.ref l) H'
theorem scSoG:FnScope ["tongue"] ["tongue"] (defScope sSignsOf):=⟨rfl,rfl,rfl,by decide +kernel,rfl,by decide +kernel,by decide +kernel⟩
theorem ok_signsOfG {f:Addr} {fd:FuncData} (F:FunG K "signs_of" "signs_of" sSignsOf .none f fd):FnOk P w K mg base (CXE P w) 1 f fd ["tongue"] (spSignsOfG K):=by
 refine F.zokN scSoG (fun vs H Q E h=>?_) (fun cdv A outer s H vs Q E hr h=>?_)
 ·obtain ⟨t,S,f,p,lg,xs,cs,rfl,_⟩:=h
  rfl
 ·obtain ⟨t,S,f,p,lg,xs,cs,rfl,ht,hS,rows,c6,q⟩:=h
  refine ⟨_,(zpss_one (zps_ret (zpe_compL ["tongue"] ["row"] [] (defScope sSignsOf) rfl rfl rfl ⟨by decide +kernel,by decide +kernel,by decide +kernel,by decide +kernel,by decide +kernel⟩ (zpi_list (zpe_ix ix_tup (zpv 0) zpe_int (fun _ _=>rfl))) (fun s H fp=>(zpg_name (i:=0) (show List.Nodup [("row" : Str)] by decide +kernel) rfl (Or.inl rfl))) (fun s H fp=>zpts_nil) (fun s H fp=>(zpe_ix (ix_tupK K rfl) (zpv 0) zpe_int (fun _ _=>rfl)))))),?_⟩
  refine ⟨_,rfl,t,_,_,_,rfl,rfl,ht,rfl,S,rfl,⟨_,SqL.of hS⟩,?_⟩
  (intro l hl; generalize hEq:upd _ l _=H1; refine newC hEq hl ?_; clear hEq; intro S1 e1 o1)
  refine lr_list (K:=K) (S:=S) (xs:=xs) (fun i σ H2=>(∃v,σ=[v])∧H2 l=some (.lst (txs (sgs (cs.take i))))∧Same H H2) ⟨⟨_,rfl⟩,e1,S1⟩ (fun i σ H2 p=>SqL.of (p.2.2 _ _ hS)) ?_ ?_
  ·rintro i x σ H2 C hi ⟨⟨v,rfl⟩,hl2,s2⟩ nx
   obtain ⟨cc,hc,row⟩:=rows.at hi
   obtain ⟨a,p,la,rfl,ha,_⟩:=row
   refine ⟨_,rfl,a,_,_,_,rfl,rfl,SqT.of (s2 _ _ ha),rfl,_,hl2,?_,nx _ _ ⟨⟨_,rfl⟩,?_,fun b o hb=>?_⟩⟩
   ·unfold txs sgs
    rw [List.length_map,List.length_map,List.length_take]
    exact Nat.lt_of_le_of_lt (show min i cs.length≤6 by omega) (by decide)
   ·have:txs (sgs (cs.take i)) ++ [V.str (sg1 cc)]=txs (sgs (cs.take (i + 1))):=by
     unfold txs sgs
     rw [List.take_add_one,hc,List.map_append,List.map_append]; rfl
    rw [← this]; exact upd_same
   ·rw [upd_ne (ne_of_none hb hl)]; exact s2 b o hb
  ·rintro σ H2 ⟨_,hl2,s2⟩
   rw [List.take_of_length_le (by rw [rows.len]; exact Nat.le_refl _)] at hl2
   exact q l H2 hl s2 hl2
def spUnlikeG:Sp:=fun vs H Q _=>∃(C:Addr) (x:V) (ks:List Str),vs=[.ref C,x]∧H C=some (.lst (txs ks))∧ks.length≤100∧ThU H x∧∀H',Same H H'→Q (.bl (unlB H x ks)) H'
theorem scUlG:FnScope ["choices","thing","seen","text"] ["choices","thing"] (defScope sUnlike):=⟨rfl,rfl,rfl,by decide +kernel,rfl,by decide +kernel,by decide +kernel⟩
theorem ok_unlikeG {f:Addr} {fd:FuncData} (F:FunG K "are_unlike_texts_of" "are_unlike_texts_of" sUnlike .none f fd) (B:Bl mg):FnOk P w K mg base (CXE P w) 1 f fd ["choices","thing"] spUnlikeG:=by
 refine F.zokN scUlG (fun vs H Q E h=>?_) (fun cdv A outer s H vs Q E hr h=>?_)
 ·obtain ⟨C,x,ks,rfl,_⟩:=h
  rfl
 ·obtain ⟨C,x,ks,rfl,hC,kl,hx,q⟩:=h
  refine ⟨_,(zpss_cons (zps_if (zpt_not (zpt_val (zpe_callB call_isi (by rfl) B.isi boot_isi (zpac_n (zpv 1) (zpac_n (zpe_bltn (by rfl) B.list boot_list (v:=.ty "list") rfl) zpa_nil))))) (zpss_one (zps_ret zpe_bl)) zpss_nil)
   (zpss_cons (zps_set (i:=2) scUlG.nd rfl (Or.inl rfl) (zpe_callTy0 call_set0 (by rfl) B.set boot_set))
   (zpss_cons (zps_for PassesOwn.never rfl (zpi_list (zpv 1)) (zpg_name (i:=3) scUlG.nd rfl (Or.inl rfl))
     (zpss_cons (zps_if (SPW.pt (zpw_or (zpt_not (zpt_val (zpe_callB call_isi (by rfl) B.isi boot_isi (zpac_n (zpv 3) (zpac_n (zpe_bltn (by rfl) B.str boot_str (v:=.ty "str") rfl) zpa_nil))))) (zpw_or (zpt_cmpR op_notIn_seq (zpv 3) (zpv 0) rfl) (zpw_or1 (zpt_cmpR op_in_set (zpv 3) (zpv 2) rfl))))) (zpss_one (zps_ret zpe_bl)) zpss_nil)
   (zpss_one (zps_expr (zpe_setadd (zpv 2) (zpac_n (zpv 3) zpa_nil))))))
   (zpss_one (zps_ret zpe_bl))))),?_⟩
  refine ⟨_,rfl,_,_,_,_,rfl,hx.th.tyQ,.inl ⟨_,rfl,kit_lst hx.th⟩,_,rfl,?_⟩
  by_cases ty:tyN H x = "list"
  ·rw [decide_eq_true ty]
   obtain ⟨L,xs,rfl,hL⟩:=hx.th.isLst ty
   refine iteF ⟨rfl,fun p hp=>?_⟩
   refine ⟨_,rfl,L,rfl,⟨_,SqL.of (same_upd hp _ _ hL)⟩,for_list (K:=K) (a:=L) (xs:=xs)
    (fun i σ H2=>(∃v,σ=[some (.ref C),some (.ref L),some (.ref p),v])∧Same H H2∧∃ts,H2 p=some (SetT P w p ts)∧xs.take i=txs ts∧ts.Nodup∧∀t∈ts,t∈ks) ⟨⟨_,rfl⟩,same_upd hp,[],upd_same,rfl,List.nodup_nil,nofun⟩ ?_ ?_ ?_⟩
   ·rintro i σ H2 _ ⟨_,s2,_⟩
    exact SqL.of (s2 _ _ hL)
   ·rintro i y σ H2 hy ⟨⟨v,rfl⟩,s2,ts,hp2,etk,nd,sub⟩
    have hty:=(hx.els L xs rfl hL y (List.mem_of_getElem? hy))
    have ilt:=(List.getElem?_eq_some_iff.mp hy).1
    have tl:ts.length≤ks.length:=nodup_le nd sub
    have bad:(∀t,y = .str t→t∉ks∨t∈ts)→Q (V.bl false) H2:=fun h=>by
     have e:unlB H (.ref L) ks=false:=unlB_f fun us ⟨L',eL,hL',nd',sub'⟩=>by
      cases eL
      rw [hL] at hL'; cases hL'
      unfold txs at hy
      rw [List.getElem?_map] at hy
      obtain ⟨u,hu,rfl⟩:=Option.map_eq_some_iff.mp hy
      have et:us.take i=ts:=txs_inj (by rw [← etk]; unfold txs; rw [List.map_take])
      rcases h u rfl with z | z
      ·exact z (sub' u (List.mem_of_getElem? hu))
      ·rw [← et] at z
       exact take_freshT nd' hu z
     have:=q H2 s2
     rw [e] at this
     exact this
    refine ⟨_,rfl,_,_,_,_,rfl,(hty.kp (Kp.same s2)).tyQ,.inl ⟨_,rfl,kit_str (hty.kp (Kp.same s2))⟩,_,rfl,?_⟩
    cases y with
    | str t=>
     refine iteF ?_
     refine ⟨_,rfl,_,rfl,C,_,rfl,.inl (SqL.of (s2 _ _ hC)),rfl,txs_flat ks,_,rfl,?_⟩
     rw [inV_txs]
     by_cases m1:t∈ks
     ·rw [decide_eq_true m1]
      refine iteF ⟨_,rfl,_,rfl,t,p,_,rfl,rfl,hp2,_,rfl,?_⟩
      by_cases m2:t∈ts
      ·rw [decide_eq_true m2]
       exact iteT (bad fun z e=>by injection e with e; exact .inr (e ▸ m2))
      ·rw [decide_eq_false m2]
       refine iteF ⟨_,rfl,⟨p,_,rfl,hp2⟩,_,rfl,p,t,_,rfl,rfl,hp2,by omega,?_⟩
       refine ⟨⟨_,rfl⟩,fun b o hb=>?_,ts ++ [t],?_,?_,?_,?_⟩
       ·rw [upd_ne (ne_of_none hb hp)]; exact s2 b o hb
       ·rw [ins_nd m2]; exact upd_same
       ·rw [List.take_add_one,hy,etk]; unfold txs; rw [List.map_append]; rfl
       ·exact List.nodup_append.mpr ⟨nd,by simp,fun a ha b hb e=>by rw [List.mem_singleton.mp hb] at e; rw [e] at ha; exact m2 ha⟩
       ·intro z hz
        rcases List.mem_append.mp hz with z1 | z1
        ·exact sub z z1
        ·rw [List.mem_singleton.mp z1]; exact m1
     ·rw [decide_eq_false m1]
      exact iteT (iteT (bad fun z e=>by injection e with e; exact .inl (e ▸ m1)))
    | _=>exact iteT (iteT (bad nofun))
   ·rintro σ H2 ⟨⟨v,rfl⟩,s2,ts,_,etk,nd,sub⟩
    rw [List.take_length] at etk
    have:=q H2 s2
    rw [unlB_t ⟨L,rfl,etk ▸ hL,nd,sub⟩] at this
    exact this
  ·rw [decide_eq_false ty]
   have:=q H (Same.refl _)
   rw [unlB_f fun ts ⟨L,e,h,_⟩=>ty (by rw [e]; exact tyN_lst h)] at this
   exact iteT this
def spSignsG (T1 T2:Addr):Sp:=fun vs H Q _=>∃x,vs=[x]∧ThS H x∧Tab T1 H∧Tab T2 H∧∀H',Kp H H'→TbK H H'→Q (.bl (sigB H x)) H'
theorem ok_signsG {T1 T2 f c fR:Addr} {fdR:FuncData} {kV doc pm ct oc:Value} {an od:Option Addr} {osl:Array (Option Value)} {t1 t2:Tok}
  (lk:K.lookup f=some ⟨oc,od,.func (PySem.W.fnOf "are_signs" "are_signs" (defArgs sSigns) (defBody sSigns) (defScope sSigns) .none kV doc pm an (.ref c) ct),osl⟩) (hcd:PySem.W.codeIn K (.ref c) "are_signs" = true)
  (B:Bl mg) (CK:CodeK K c T2) (hbm:BmOf mg base) (mF:mg "FEWEST_SIGNS" = some (.int 2 t1)) (mM:mg "MOST_SIGNS" = some (.int 6 t2))
  (GR:FnOk P w K mg base (CXE P w) 4 fR fdR ["thing"] (spRowG T1)) (mR:mg "is_sign_row" = some (.ref fR)) (kR:PySem.W.keepIn K (.ref fR)=true) (bR:Binds K fdR ["thing"] []) :
  FnOk P w K mg base (CXE P w) 6 f (PySem.W.fnOf "are_signs" "are_signs" (defArgs sSigns) (defBody sSigns) (defScope sSigns) .none kV doc pm an (.ref c) ct) ["thing"] (spSignsG T1 T2):=by
 refine okC lk hcd scSi (fun vs H Q E h=>?_) (fun A outer s H vs Q E hr h=>?_)
 ·obtain ⟨x,rfl,_⟩:=h
  rfl
 ·obtain ⟨x,rfl,hx,ht1,ht2,q⟩:=h
  refine ⟨_,zpss_cons (zps_if (zpw_or (zpt_not (zpt_val (zpe_callB call_isi (by rfl) B.isi boot_isi (zpac_n (zpv 0) (zpac_n (zpe_bltn (by rfl) B.list boot_list (v:=.ty "list") rfl) zpa_nil)))))
    (zpw_or (zpt_cmpR op_lt (zpe_callB call_len_seq (by rfl) B.len PySem.boot_len (zpac_n (zpv 0) zpa_nil)) (zpe_glob (by rfl) mF (v:=.int 2) ⟨_,rfl⟩) (nomark _))
    (zpw_or1 (zpt_cmpR op_gt (zpe_callB call_len_seq (by rfl) B.len PySem.boot_len (zpac_n (zpv 0) zpa_nil)) (zpe_glob (by rfl) mM (v:=.int 6) ⟨_,rfl⟩) (nomark _))))).pt (zpss_one (zps_ret zpe_bl)) zpss_nil)
   (zpss_cons (zps_if (zpt_not (zpt_val (zpe_all ["thing"] ["row"] [] (defScope sSigns) rfl hr (by rfl) B.all rfl CK ⟨hbm⟩ rfl rfl ⟨by decide +kernel,by decide +kernel,by decide +kernel,by decide +kernel,by decide +kernel⟩ (by decide +kernel) (by decide +kernel) (zpi_list (zpv 0))
     (fun code s H fp=>zpg_name (i:=0) (show List.Nodup [("row" : Str)] by decide +kernel) rfl (Or.inl rfl)) (fun code s H fp=>zpe_call GR hr.gen (by rfl) mR kR bR .nil passE0 (zpac_n (zpv 0) zpa_nil))))) (zpss_one (zps_ret zpe_bl)) zpss_nil)
   (zpss_one (zps_ret (zpe_cmpR op_eq (zpe_callB call_len_setT (by rfl) B.len PySem.boot_len (zpac_x (zpe_setcomp ["thing"] ["row"] [] (defScope sSigns) rfl rfl rfl ⟨by decide +kernel,by decide +kernel,by decide +kernel,by decide +kernel,by decide +kernel⟩ (zpi_list (zpv 0))
     (fun s H fp=>zpg_name (i:=0) (show List.Nodup [("row" : Str)] by decide +kernel) rfl (Or.inl rfl)) (fun s H fp=>zpts_nil) (fun s H fp=>zpe_ix (ix_tupK K rfl) (zpv 0) zpe_int (fun _ _=>rfl))) zpa_nil))
    (zpe_callB call_len_seq (by rfl) B.len PySem.boot_len (zpac_n (zpv 0) zpa_nil)) (nomark _))))),?_⟩
  refine ⟨_,rfl,_,_,_,_,rfl,hx.th.tyQ,.inl ⟨_,rfl,kit_lst hx.th⟩,_,rfl,?_⟩
  by_cases ty:tyN H x = "list"
  ·rw [decide_eq_true ty]
   obtain ⟨L,xs,rfl,hL⟩:=hx.th.isLst ty
   have q0:=q H Kp.refl TbK.refl
   have nosig:(∀cs,RowsP H xs cs→cs.Nodup→2≤cs.length→cs.length≤6→False)→sigB H (.ref L)=false:=fun h=>sigB_f fun cs ⟨S,ys,e,hS,r,nd,c2,c6⟩=>by
    cases e
    rw [hL] at hS; cases hS
    exact h cs r nd c2 c6
   refine iteF ⟨_,rfl,L,_,rfl,.inl (SqL.of hL),_,_,rfl,rfl,_,rfl,?_⟩
   refine ite2 (fun e=>?_) (fun e2=>?_)
   ·have l2:(xs.length:Int) < 2:=of_decide_eq_true e
    rw [nosig fun cs r nd c2 c6=>by have:=r.len; omega] at q0
    exact iteT q0
   have g2:¬(xs.length:Int) < 2:=fun z=>e2 (decide_eq_true z)
   refine ⟨_,rfl,L,_,rfl,.inl (SqL.of hL),_,_,rfl,rfl,_,rfl,?_⟩
   refine ite2 (fun e=>?_) (fun e6=>?_)
   ·have l6:(6:Int) < (xs.length:Int):=of_decide_eq_true e
    rw [nosig fun cs r nd c2 c6=>by have:=r.len; omega] at q0
    exact q0
   have g6:¬(6:Int) < (xs.length:Int):=fun z=>e6 (decide_eq_true z)
   obtain ⟨ps2,hT2,tr2⟩:=id ht2
   refine ⟨_,rfl,L,rfl,⟨_,SqL.of hL⟩,ps2,hT2,tr2,fun ps' tr'=>?_⟩
   refine ⟨fun i m σ2 H2=>i≤xs.length∧m=xs.length - i∧(∃v,σ2=[v])∧Kp H H2∧TbK H H2∧∀y∈xs.take i,rowB H y=true,⟨_,Nat.zero_le _,rfl,⟨_,rfl⟩,Kp.tab ht2,TbK.tab tr',fun y h=>by simp at h⟩,?_⟩
   rintro i m σ2 H2 ⟨hi,rfl,⟨v,rfl⟩,k2,b2,ar⟩
   by_cases hlt:i < xs.length
   ·have ei:=List.getElem?_eq_getElem hlt
    refine .inr ⟨⟨_,_,SqL.of (k2.lst hL),ei⟩,?_⟩
    rintro y H3 ⟨rfl,hy⟩
    have hy:=hy _ (SqL.of (k2.lst hL))
    have ty:=hx.rows L xs rfl hL y (List.mem_of_getElem? hy)
    refine ⟨_,rfl,y,rfl,ty.kp k2,b2 _ ht1,fun H4 k4 t4=>⟨_,rfl,?_⟩⟩
    rw [rowB_kp ty k2]
    by_cases ry:rowB H y=true
    ·rw [ry]
     refine iteT ⟨xs.length - (i + 1),by omega,hlt,rfl,⟨_,rfl⟩,k2.trans k4,b2.trans t4,fun z hz=>?_⟩
     rw [List.take_add_one,hy] at hz
     rcases List.mem_append.mp hz with h | h
     ·exact ar z h
     ·rw [show z=y by simpa using h]; exact ry
    ·have ry':rowB H y=false:=by simpa using ry
     rw [ry']
     refine iteF ⟨_,rfl,iteT ?_⟩
     have:=q _ (k2.trans k4) (b2.trans t4)
     rw [nosig fun cs r nd c2 c6=>by
      obtain ⟨c,_,rc⟩:=r.at hy
      exact ry (rowB_t rc)] at this
     exact this
   ·refine .inl ⟨⟨_,SqL.of (k2.lst hL),by omega⟩,_,rfl,iteF ?_⟩
    have e:i=xs.length:=by omega
    subst e
    rw [List.take_length] at ar
    obtain ⟨cs,rows⟩:=rows_of ar
    have ln:xs.length=cs.length:=rows.len
    have hL2:=k2.lst hL
    refine ⟨_,rfl,L,rfl,⟨_,SqL.of hL2⟩,fun l hl=>?_⟩
    refine ⟨fun i m σ3 H3=>i≤cs.length∧m=cs.length - i∧(∃v,σ3=[v])∧H3 l=some (SetT P w l (insAll ((sgs cs).take i)))∧Kp H H3∧TbK H H3,
     ⟨_,Nat.zero_le _,rfl,⟨_,rfl⟩,upd_same,k2.trans (Kp.new hl),b2.new hl⟩,?_⟩
    rintro j m σ3 H3 ⟨hj,rfl,⟨v,rfl⟩,hs3,k3,b3⟩
    have hL3:=k3.lst hL
    by_cases hlt:j < cs.length
    ·refine .inr ⟨⟨_,_,SqL.of hL3,List.getElem?_eq_getElem (show j < xs.length by omega)⟩,?_⟩
     rintro x H4 ⟨rfl,hy⟩
     obtain ⟨cc,hc,row⟩:=rows.at (hy _ (SqL.of hL3))
     obtain ⟨a,p,la,rfl,ha,_⟩:=row.kp k3
     dsimp only [gName]
     rw [if_pos rfl]
     have sl:(insAll ((sgs cs).take j)).length≤6:=by
      have:=(ins_len (ts:=(sgs cs).take j)).1
      rw [List.length_take] at this
      omega
     refine ⟨_,rfl,a,_,_,_,rfl,rfl,SqT.of ha,rfl,sg1 cc,_,rfl,hs3,by omega,?_⟩
     have no:∀q,SetT P w l (insAll ((sgs cs).take j))≠.tbl q:=nofun
     have es:(sgs cs)[j]? = some (sg1 cc):=by unfold sgs; rw [List.getElem?_map,hc]; rfl
     refine ⟨cs.length - (j + 1),by omega,hlt,rfl,⟨_,rfl⟩,by rw [insAll_snoc es]; exact upd_same,k2.upd_new hl k3,b3.set hs3 no⟩
    ·have e:j=cs.length:=by omega
     subst e
     have sl:(sgs cs).length=cs.length:=List.length_map ..
     rw [List.take_of_length_le (by omega)] at hs3
     refine .inl ⟨⟨_,SqL.of hL3,by omega⟩,l,_,rfl,hs3,_,rfl,L,_,rfl,.inl (SqL.of hL3),rfl,?_⟩
     have q3:=q _ k3 b3
     have il:=(ins_len (ts:=sgs cs)).2
     by_cases nd:cs.Nodup
     ·rw [il.mpr (sgs_nodup.mpr nd),sl,← ln,decide_eq_true rfl]
      rw [sigB_t ⟨L,xs,rfl,hL,rows,nd,by omega,by omega⟩] at q3
      exact q3
     ·have ne:¬V.int ((insAll (sgs cs)).length:Nat)=V.int (xs.length:Nat):=fun z=>by
       injection z with z
       exact nd (sgs_nodup.mp (il.mp (by omega)))
      rw [decide_eq_false ne]
      rw [nosig fun ds r ndd _ _=>nd (by rw [rows.inj r]; exact ndd)] at q3
      exact q3
  ·rw [decide_eq_false ty]
   have:=q H Kp.refl TbK.refl
   rw [sigB_f fun ts ⟨L,xs,e,h,_⟩=>ty (by rw [e]; exact tyN_lst h)] at this
   exact iteT (iteT this)
end
structure ThT (H:Hp) (x:V):Prop where
 th:Th H x
 parts:∀a s f p l,x = .ref a→H a=some (.tup [s,f,p,l])→ThS H s∧ThU H f∧ThU H p∧Th H l
theorem ThT.kp {H H':Hp} {x:V} (h:ThT H x) (k:Kp H H'):ThT H' x:=
 ⟨h.th.kp k,fun a s f p l e e'=>by
  obtain ⟨h1,h2,h3,h4⟩:=h.parts a s f p l e (G1.back h.th k e e')
  exact ⟨h1.kp k,h2.kp k,h3.kp k,h4.kp k⟩⟩
inductive OutT (H:Hp):V→Option V→Prop
 | kind {x:V} (h:∀a xs,x = .ref a→H a=some (.tup xs)→xs.length≠4):OutT H x (some .non)
 | signs {a:Addr} {s f p l:V} (h:H a=some (.tup [s,f,p,l])) (n:∀cs,¬SigP H s cs):OutT H (.ref a) (some (.str "signs"))
 | firsts {a:Addr} {s f p l:V} {cs:List Nat} (h:H a=some (.tup [s,f,p,l])) (g:SigP H s cs) (n:∀ts,¬UnlP H f (sgs cs) ts):OutT H (.ref a) (some (.str "firsts"))
 | pairs {a:Addr} {s f p l:V} {cs:List Nat} {fs:List Str} (h:H a=some (.tup [s,f,p,l])) (g:SigP H s cs) (gf:UnlP H f (sgs cs) fs) (n:∀ts,¬UnlP H p (prs (sgs cs)) ts):OutT H (.ref a) (some (.str "pairs"))
 | longest {a:Addr} {s f p l:V} {cs:List Nat} {fs ps:List Str} (h:H a=some (.tup [s,f,p,l])) (g:SigP H s cs) (gf:UnlP H f (sgs cs) fs) (gp:UnlP H p (prs (sgs cs)) ps) (n:inB l 1 8=false):OutT H (.ref a) (some (.str "longest"))
 | good {a:Addr} {s f p l:V} {cs:List Nat} {fs ps:List Str} (h:H a=some (.tup [s,f,p,l])) (g:SigP H s cs) (gf:UnlP H f (sgs cs) fs) (gp:UnlP H p (prs (sgs cs)) ps) (n:inB l 1 8=true):OutT H (.ref a) none
theorem PrA.ab {H:Hp} {x:V} (h:PrA H x):AbP H x:=by
 obtain ⟨a,n,d,e,ha,n0,d0,g,_⟩:=h.ex
 exact ⟨a,n,d,e,ha,n0,d0,g⟩
theorem Row.p {H:Hp} {x:V} {c:Nat} (h:Row H x c):RowP H x c:=by
 obtain ⟨a,p,l,e,ha,hp,hl⟩:=h.ex
 exact ⟨a,p,l,e,ha,h.oc,hp.ab,hl.imp id fun z=>z.ab⟩
theorem Rows.p {H:Hp} {xs:List V} {cs:List Nat} (h:Rows H xs cs):RowsP H xs cs:=⟨h.len,fun i x c e1 e2=>(h.row i x c e1 e2).p⟩
theorem Row.thr {H:Hp} {x:V} {c:Nat} (h:Row H x c):ThR H x:=by
 obtain ⟨a,p,l,e,ha,hp,hl⟩:=h.ex
 subst e
 refine ⟨.tup ha,fun b xs e e' z hz=>?_⟩
 cases e
 rw [ha] at e'; cases e'
 rcases List.mem_cons.mp hz with rfl | hz
 ·exact ⟨.str _,fun a xs e=>(by cases e),fun a n d e=>(by cases e),fun z e=>by injection e with e; rw [← e]; exact Nat.le_trans (show (1:Nat)≤8 by decide) (by decide)⟩
 ·rcases List.mem_cons.mp hz with rfl | hz
  ·exact hp.thd
  ·rw [List.mem_singleton.mp hz]
   rcases hl with rfl | hl
   ·exact ⟨.non,fun a xs e=>(by cases e),fun a n d e=>(by cases e),fun z e=>by cases e⟩
   ·exact hl.thd
theorem txs_th {H:Hp} {ts:List Str}:∀y∈txs ts,Th H y:=fun y hy=>by
 obtain ⟨z,_,rfl⟩:=List.mem_map.mp hy
 exact .str _
theorem Tg.out {H:Hp} {t:Addr} {cs:List Nat} {fs ps:List Str} {lg:Int} (h:Tg H t cs fs ps lg):ThT H (.ref t)∧OutT H (.ref t) none:=by
 obtain ⟨S,F,Pp,xs,h1,h2,h3,h4,h5⟩:=h.ex
 refine ⟨⟨.tup h1,fun a s f p l e e'=>?_⟩,.good h1 ⟨S,xs,rfl,h2,h3.p,h.nd,h.c2,h.c6⟩ ⟨F,rfl,h4,h.fnd,h.fsub⟩ ⟨Pp,rfl,h5,h.pnd,h.psub⟩ ?_⟩
 ·cases e
  rw [h1] at e'; cases e'
  refine ⟨⟨.lst h2,fun a ys e e' y hy=>?_⟩,⟨.lst h4,fun a ys e e' y hy=>?_⟩,⟨.lst h5,fun a ys e e' y hy=>?_⟩,.int lg⟩
  ·cases e
   rw [h2] at e'; cases e'
   obtain ⟨i,hi⟩:=List.getElem?_of_mem hy
   obtain ⟨c,_,r⟩:=h3.at hi
   exact r.thr
  ·cases e
   rw [h4] at e'; cases e'
   exact txs_th y hy
  ·cases e
   rw [h5] at e'; cases e'
   exact txs_th y hy
 ·show (decide (1≤lg) && decide (lg≤8))=true
  rw [decide_eq_true h.l1,decide_eq_true h.l8]; rfl
section
variable {P:Program} {w:World} {K:PySem.W.Frag} {mg:Str→Option Value} {base:Heap}
def spLookG (C T1 T2:Addr):Sp:=fun vs H Q E=>∃x r,vs=[x]∧ThT H x∧OutT H x r∧Tab T1 H∧Tab T2 H∧(r=none→∀H',Kp H H'→TbK H H'→Q .non H')∧
 (∀v,r=some v→∀dx H',Kp H H'→TbK H H'→H' dx=some (.xd [("part",v)])→E (.ref C) (some dx) H')
theorem scLkG:FnScope ["thing","signs","firsts","pairs","longest","letters"] ["thing"] (defScope sLook):=⟨rfl,rfl,rfl,by decide +kernel,rfl,by decide +kernel,by decide +kernel⟩
theorem ok_lookG {T1 T2 C fI':Addr} {f fS fO fU fI:Addr} {fd fdS fdO fdU fdI:FuncData} (F:FunG K "look_at_tongue" "look_at_tongue" sLook .none f fd) (B:Bl mg) {tk:Tok} (mM:mg "LONGEST_WORD" = some (.int 8 tk)) (mC:mg "NoTongue" = some (.ref C)) (IK:InitK P w K mg C fI' "part")
  (GS:FnOk P w K mg base (CXE P w) 6 fS fdS ["thing"] (spSignsG T1 T2)) (mS:mg "are_signs" = some (.ref fS)) (kS:PySem.W.keepIn K (.ref fS)=true) (bS:Binds K fdS ["thing"] [])
  (GO:FnOk P w K mg base (CXE P w) 1 fO fdO ["tongue"] (spSignsOfG K)) (mO:mg "signs_of" = some (.ref fO)) (kO:PySem.W.keepIn K (.ref fO)=true) (bO:Binds K fdO ["tongue"] [])
  (GU:FnOk P w K mg base (CXE P w) 1 fU fdU ["choices","thing"] spUnlikeG) (mU:mg "are_unlike_texts_of" = some (.ref fU)) (kU:PySem.W.keepIn K (.ref fU)=true) (bU:Binds K fdU ["choices","thing"] [])
  (GI:FnOk P w K mg base (CXE P w) 2 fI fdI ["thing","least","most"] spWithin) (mI:mg "is_whole_within" = some (.ref fI)) (kI:PySem.W.keepIn K (.ref fI)=true) (bI:Binds K fdI ["thing","least","most"] []):FnOk P w K mg base (CXE P w) 7 f fd ["thing"] (spLookG C T1 T2):=by
 refine F.zokE scLkG (fun vs H Q E h=>?_) (fun cdv A outer s H vs Q E hr h=>?_)
 ·obtain ⟨x,v,rfl,_⟩:=h
  rfl
 ·obtain ⟨x,r,rfl,hx,out,ht1,ht2,q,qe⟩:=h
  refine ⟨_,(zpss_cons (zps_if (SPW.pt (zpw_or (zpt_not (zpt_val (zpe_callB call_isi (by rfl) B.isi boot_isi (zpac_n (zpv 0) (zpac_n (zpe_bltn (by rfl) B.tuple boot_tuple (v:=.ty "tuple") rfl) zpa_nil))))) (zpw_or1 (zpt_cmpR op_ne (zpe_callB call_len_seq (by rfl) B.len PySem.boot_len (zpac_n (zpv 0) zpa_nil)) zpe_int (nomark _))))) (zpss_one (zps_raiseI (k:=5) hr (by rfl) mC IK (zpac_c zpe_non zpa_nil))) zpss_nil)
   (zpss_cons (zps_asg (zpv 0) (zpg_tup rfl (zpgs_cons (zpg_name (i:=1) scLkG.nd rfl (Or.inl rfl)) (zpgs_cons (zpg_name (i:=2) scLkG.nd rfl (Or.inl rfl)) (zpgs_cons (zpg_name (i:=3) scLkG.nd rfl (Or.inl rfl)) (zpgs_cons (zpg_name (i:=4) scLkG.nd rfl (Or.inl rfl)) zpgs_nil))))))
   (zpss_cons (zps_if (zpt_not (zpt_val (zpe_call GS hr (by rfl) mS kS bS .nil passE0 (zpac_n (zpv 1) zpa_nil)))) (zpss_one (zps_raiseI (k:=5) hr (by rfl) mC IK (zpac_c zpe_str zpa_nil))) zpss_nil)
   (zpss_cons (zps_set (i:=5) scLkG.nd rfl (Or.inr rfl) (zpe_call GO (hr.mono (by decide)) (by rfl) mO kO bO .nil passE0 (zpac_n (zpv 0) zpa_nil)))
   (zpss_cons (zps_if (zpt_not (zpt_val (zpe_call GU (hr.mono (by decide)) (by rfl) mU kU bU .nil passE0 (zpac_n (zpv 5) (zpac_n (zpv 2) zpa_nil))))) (zpss_one (zps_raiseI (k:=5) hr (by rfl) mC IK (zpac_c zpe_str zpa_nil))) zpss_nil)
   (zpss_cons (zps_if (zpt_not (zpt_val (zpe_call GU (hr.mono (by decide)) (by rfl) mU kU bU .nil passE0 (zpac_x (zpe_comp2 ["thing","signs","firsts","pairs","longest","letters"] ["one","other"] [5] (defScope sLook) rfl rfl rfl ⟨by decide +kernel,by decide +kernel,by decide +kernel,by decide +kernel,by decide +kernel⟩ (zpi_list (zpv 5)) (fun s H fp=>zpg_name (i:=0) (show List.Nodup [("one" : Str),"other","letters"] by decide +kernel) rfl (Or.inl rfl)) (fun s H fp=>zpts_nil) (fun s H fp=>zpi_listK K rfl (zpv 2)) (fun s H fp=>zpg_name (i:=1) (show List.Nodup [("one" : Str),"other","letters"] by decide +kernel) rfl (Or.inl rfl)) (fun s H fp=>zpts_nil) (fun s H fp=>zpe_op op_add_str (zpv 0) (zpv 1))) (zpac_n (zpv 3) zpa_nil))))) (zpss_one (zps_raiseI (k:=5) hr (by rfl) mC IK (zpac_c zpe_str zpa_nil))) zpss_nil)
   (zpss_one (zps_if (zpt_not (zpt_val (zpe_call GI (hr.mono (by decide)) (by rfl) mI kI bI .nil passE0 (zpac_n (zpv 4) (zpac_c zpe_int (zpac_n (zpe_glob (by rfl) mM (v:=.int 8) ⟨_,rfl⟩) zpa_nil)))))) (zpss_one (zps_raiseI (k:=5) hr (by rfl) mC IK (zpac_c zpe_str zpa_nil))) zpss_nil)))))))),?_⟩
  have bad:∀{v:V} {H':Hp},r=some v→Kp H H'→TbK H H'→(∃y,Shown v y∧y.length≤700)→∃u,[v]=[u]∧(∃y,Shown u y∧y.length≤700)∧∀dx,H' dx=none→E (.ref C) (some dx) (upd H' dx (.xd [("part",u)])):=fun {v H'} e k t sh=>
   ⟨v,rfl,sh,fun dx hd=>qe v e dx _ (k.trans (Kp.new hd)) (t.new hd) upd_same⟩
  have non:∃y,Shown V.non y∧y.length≤700:=⟨_,.non,by decide⟩
  have st:∀{z:Str},z.length≤700→∃y,Shown (V.str z) y∧y.length≤700:=fun {z} h=>⟨_,.str (Nat.le_trans h (by decide)),h⟩
  refine ⟨_,rfl,_,_,_,_,rfl,hx.th.tyQ,.inl ⟨_,rfl,kit_tup hx.th⟩,_,rfl,?_⟩
  by_cases ty:tyN H x = "tuple"
  rotate_left
  ·have e:r=some .non:=by
    cases out with
    | kind h=>rfl
    | signs h n=>exact absurd (tyN_tup h) ty
    | firsts h g n=>exact absurd (tyN_tup h) ty
    | pairs h g gf n=>exact absurd (tyN_tup h) ty
    | longest h g gf gp n=>exact absurd (tyN_tup h) ty
    | good h g gf gp n=>exact absurd (tyN_tup h) ty
   rw [decide_eq_false ty]
   exact iteT (iteT (bad e Kp.refl TbK.refl non))
  rw [decide_eq_true ty]
  obtain ⟨t,xs,rfl,ha⟩:=hx.th.isTup ty
  refine iteF ⟨_,rfl,t,_,rfl,.inr (SqT.of ha),rfl,_,rfl,?_⟩
  by_cases l4:xs.length=4
  rotate_left
  ·have e:r=some .non:=by
    cases out with
    | kind h=>rfl
    | signs h n=>rw [ha] at h; cases h; exact absurd rfl l4
    | firsts h g n=>rw [ha] at h; cases h; exact absurd rfl l4
    | pairs h g gf n=>rw [ha] at h; cases h; exact absurd rfl l4
    | longest h g gf gp n=>rw [ha] at h; cases h; exact absurd rfl l4
    | good h g gf gp n=>rw [ha] at h; cases h; exact absurd rfl l4
   rw [show (!decide (V.int (xs.length:Int)=V.int 4))=true by
    have:¬V.int ((xs.length:Nat):Int)=V.int 4:=fun z=>by injection z with z; exact l4 (by omega)
    rw [decide_eq_false this]; rfl]
   exact iteT (bad e Kp.refl TbK.refl non)
  rw [show (!decide (V.int (xs.length:Int)=V.int 4))=false by rw [l4]; rfl]
  refine iteF ?_
  obtain ⟨sg,ff,pp,lg,rfl⟩:=four_of l4
  obtain ⟨ts,tf,tp,tl⟩:=hx.parts t _ _ _ _ rfl ha
  refine ⟨_,rfl,t,_,rfl,SqT.of ha,rfl,_,_,rfl,_,_,rfl,_,_,rfl,_,_,rfl,rfl,?_⟩
  refine ⟨_,rfl,sg,rfl,ts,ht1,ht2,fun H1 k1 t1=>⟨_,rfl,?_⟩⟩
  by_cases hs:∃cs,SigP H sg cs
  rotate_left
  ·have e:r=some (.str "signs"):=by
    cases out with
    | kind h=>exact absurd rfl (h t _ rfl ha)
    | signs h n=>rfl
    | firsts h g n=>rw [ha] at h; cases h; exact absurd ⟨_,g⟩ hs
    | pairs h g gf n=>rw [ha] at h; cases h; exact absurd ⟨_,g⟩ hs
    | longest h g gf gp n=>rw [ha] at h; cases h; exact absurd ⟨_,g⟩ hs
    | good h g gf gp n=>rw [ha] at h; cases h; exact absurd ⟨_,g⟩ hs
   rw [sigB_f fun cs z=>hs ⟨cs,z⟩]
   exact iteT (bad e k1 t1 (st (by decide)))
  obtain ⟨cs,hs⟩:=hs
  rw [sigB_t hs]
  refine iteF ?_
  have uniq:∀{ds:List Nat},SigP H sg ds→ds=cs:=fun {ds} z=>by
   obtain ⟨S,ys,e,hS,r1,_⟩:=z
   obtain ⟨S',ys',e',hS',r2,_⟩:=hs
   rw [e] at e'; cases e'
   rw [hS] at hS'; cases hS'
   exact r1.inj r2
  obtain ⟨S,xs,rfl,g2,g3,gnd,gc2,gc6⟩:=id hs
  refine ⟨_,rfl,t,S,_,_,_,xs,cs,rfl,SqT.of (k1.tup ha),k1.lst g2,g3.kp k1,gc6,fun l H2 hl s2 hl2=>?_⟩
  have k2:Kp H H2:=k1.trans (Kp.same s2)
  have sl:(sgs cs).length=cs.length:=List.length_map ..
  refine ⟨_,rfl,_,rfl,l,ff,sgs cs,rfl,hl2,by omega,tf.kp k2,fun H3 s3=>⟨_,rfl,?_⟩⟩
  have k3:=k2.trans (Kp.same s3)
  have t3:=(t1.same s2).same s3
  have unl:∀{x:V} {ks:List Str} {H':Hp},ThU H x→Kp H H'→unlB H' x ks=unlB H x ks:=fun {x ks H'} tx k=>by
   by_cases h:∃us,UnlP H x ks us
   ·obtain ⟨us,h⟩:=h
    rw [unlB_t h,unlB_t (h.kp k)]
   ·rw [unlB_f fun us z=>h ⟨us,z⟩,unlB_f fun us z=>h ⟨us,by
     obtain ⟨L,e,hL,z2⟩:=z
     exact ⟨L,e,G1.back tx.th k e hL,z2⟩⟩]
  rw [unl tf k2]
  by_cases hf:∃fs,UnlP H ff (sgs cs) fs
  rotate_left
  ·have e:r=some (.str "firsts"):=by
    cases out with
    | kind h=>exact absurd rfl (h t _ rfl ha)
    | signs h n=>rw [ha] at h; cases h; exact absurd hs (n _)
    | firsts h g n=>rfl
    | pairs h g gf n=>rw [ha] at h; cases h; cases (uniq g); exact absurd ⟨_,gf⟩ hf
    | longest h g gf gp n=>rw [ha] at h; cases h; cases (uniq g); exact absurd ⟨_,gf⟩ hf
    | good h g gf gp n=>rw [ha] at h; cases h; cases (uniq g); exact absurd ⟨_,gf⟩ hf
   rw [unlB_f fun us z=>hf ⟨us,z⟩]
   exact iteT (bad e k3 t3 (st (by decide)))
  obtain ⟨fs,hf⟩:=hf
  rw [unlB_t hf]
  refine iteF ?_
  have hl3:=s3 _ _ hl2
  refine ⟨_,rfl,l,rfl,⟨_,SqL.of hl3⟩,fun p hp=>?_⟩
  have kl:(sgs cs).length≤6:=by omega
  refine ⟨fun i m σ2 H4=>i≤(sgs cs).length∧m=(sgs cs).length - i∧(∃v1 v2,σ2=[v1,v2,some (.ref l)])∧H4 p=some (.lst (txs (((sgs cs).take i).flatMap fun a=>(sgs cs).map fun b=>a ++ b)))∧Same H3 H4,
   ⟨_,Nat.zero_le _,rfl,⟨_,_,rfl⟩,upd_same,same_upd hp⟩,?_⟩
  rintro i m σ2 H4 ⟨hi,rfl,⟨v1,v2,rfl⟩,hp4,s4⟩
  have hl4:=s4 _ _ hl3
  have len:(txs (sgs cs)).length=(sgs cs).length:=List.length_map ..
  by_cases hlt:i < (sgs cs).length
  ·refine .inr ⟨⟨_,_,SqL.of hl4,List.getElem?_eq_getElem (show i < (txs (sgs cs)).length by rw [len]; exact hlt)⟩,?_⟩
   rintro x H5 ⟨rfl,hx⟩
   obtain ⟨a,ha,rfl⟩:∃a,(sgs cs)[i]? = some a∧x = .str a:=by
    have hx:=hx _ (SqL.of hl4)
    unfold txs at hx
    rw [List.getElem?_map] at hx
    obtain ⟨t,h1,h2⟩:=Option.map_eq_some_iff.mp hx
    exact ⟨t,h1,h2.symm⟩
   dsimp only [gName]
   rw [if_pos rfl]
   refine ⟨_,rfl,l,rfl,⟨_,SqL.of hl4⟩,?_⟩
   refine ⟨fun j m σ3 H6=>j≤(sgs cs).length∧m=(sgs cs).length - j∧(∃v2,σ3=[some (.str a),v2,some (.ref l)])∧H6 p=some (.lst (txs (((sgs cs).take i).flatMap (fun a=>(sgs cs).map fun b=>a ++ b) ++ ((sgs cs).take j).map fun b=>a ++ b)))∧Same H3 H6,
    ⟨_,Nat.zero_le _,rfl,⟨_,rfl⟩,by simpa using hp4,s4⟩,?_⟩
   rintro j m σ3 H6 ⟨hj,rfl,⟨v2,rfl⟩,hp6,s6⟩
   have hl6:=s6 _ _ hl3
   by_cases hjt:j < (sgs cs).length
   ·refine .inr ⟨⟨_,_,SqL.of hl6,List.getElem?_eq_getElem (show j < (txs (sgs cs)).length by rw [len]; exact hjt)⟩,?_⟩
    rintro y H7 ⟨rfl,hy⟩
    obtain ⟨b,hb,rfl⟩:∃b,(sgs cs)[j]? = some b∧y = .str b:=by
     have hy:=hy _ (SqL.of hl6)
     unfold txs at hy
     rw [List.getElem?_map] at hy
     obtain ⟨t,h1,h2⟩:=Option.map_eq_some_iff.mp hy
     exact ⟨t,h1,h2.symm⟩
    have one:∀z∈sgs cs,z.length=1:=fun z hz=>by
     obtain ⟨c,_,rfl⟩:=List.mem_map.mp hz
     rfl
    dsimp only [gName]
    rw [if_pos rfl]
    refine ⟨_,rfl,_,rfl,a,b,rfl,rfl,?_,_,hp6,?_,(sgs cs).length - (j + 1),by omega,hjt,rfl,⟨_,rfl⟩,?_,?_⟩
    ·rw [one a (List.mem_of_getElem? ha),one b (List.mem_of_getElem? hb)]; decide
    ·unfold txs
     rw [List.length_map,List.length_append,flat_len _ _ (sgs cs).length (fun a=>by rw [List.length_map]),List.length_map,List.length_take,List.length_take]
     have:min i (sgs cs).length * (sgs cs).length≤6 * 6:=Nat.mul_le_mul (by omega) kl
     exact Nat.lt_of_le_of_lt (show _≤42 by omega) (by decide)
    ·have:((sgs cs).take i).flatMap (fun a=>(sgs cs).map fun b=>a ++ b) ++ ((sgs cs).take (j + 1)).map (fun b=>a ++ b)=(((sgs cs).take i).flatMap (fun a=>(sgs cs).map fun b=>a ++ b) ++ ((sgs cs).take j).map fun b=>a ++ b) ++ [a ++ b]:=by
      rw [List.take_add_one,hb,List.map_append,List.append_assoc]; rfl
     rw [this]
     unfold txs
     rw [List.map_append (l₂:=[a ++ b])]
     exact upd_same
    ·intro c o hc
     rw [upd_ne (ne_of_none hc hp)]; exact s6 c o hc
   ·have e:j=(sgs cs).length:=by omega
    subst e
    refine .inl ⟨⟨_,SqL.of hl6,by rw [len]; exact Nat.le_refl _⟩,(sgs cs).length - (i + 1),by omega,hlt,rfl,⟨_,_,rfl⟩,?_,s6⟩
    rw [prs_snoc ha]
    rw [List.take_length] at hp6
    exact hp6
  ·have e:i=(sgs cs).length:=by omega
   subst e
   refine .inl ⟨⟨_,SqL.of hl4,by rw [len]; exact Nat.le_refl _⟩,?_⟩
   rw [List.take_length] at hp4
   have k4:=k3.trans (Kp.same s4)
   have t4:=t3.same s4
   have pl:(prs (sgs cs)).length≤100:=by
    rw [prs_len]
    exact Nat.le_trans (Nat.mul_le_mul kl kl) (by decide)
   refine ⟨_,rfl,p,pp,prs (sgs cs),rfl,hp4,pl,tp.kp k4,fun H5 s5=>⟨_,rfl,?_⟩⟩
   have k5:=k4.trans (Kp.same s5)
   have t5:=t4.same s5
   rw [unl tp k4]
   by_cases hp:∃ps,UnlP H pp (prs (sgs cs)) ps
   rotate_left
   ·have e:r=some (.str "pairs"):=by
     cases out with
     | kind h=>exact absurd rfl (h t _ rfl ha)
     | signs h n=>rw [ha] at h; cases h; exact absurd hs (n _)
     | firsts h g n=>rw [ha] at h; cases h; cases (uniq g); exact absurd hf (n _)
     | pairs h g gf n=>rfl
     | longest h g gf gp n=>rw [ha] at h; cases h; cases (uniq g); exact absurd ⟨_,gp⟩ hp
     | good h g gf gp n=>rw [ha] at h; cases h; cases (uniq g); exact absurd ⟨_,gp⟩ hp
    rw [unlB_f fun us z=>hp ⟨us,z⟩]
    exact iteT (bad e k5 t5 (st (by decide)))
   obtain ⟨ps,hp⟩:=hp
   rw [unlB_t hp]
   refine iteF ⟨_,rfl,lg,1,8,rfl,tl.kp k5,_,rfl,?_⟩
   by_cases hb:inB lg 1 8=true
   ·have e:r=none:=by
     cases out with
     | kind h=>exact absurd rfl (h t _ rfl ha)
     | signs h n=>rw [ha] at h; cases h; exact absurd hs (n _)
     | firsts h g n=>rw [ha] at h; cases h; cases (uniq g); exact absurd hf (n _)
     | pairs h g gf n=>rw [ha] at h; cases h; cases (uniq g); exact absurd hp (n _)
     | longest h g gf gp n=>rw [ha] at h; cases h; rw [hb] at n; cases n
     | good h g gf gp n=>rfl
    rw [hb]
    exact iteF (q e H5 k5 t5)
   ·have hb':inB lg 1 8=false:=by simpa using hb
    have e:r=some (.str "longest"):=by
     cases out with
     | kind h=>exact absurd rfl (h t _ rfl ha)
     | signs h n=>rw [ha] at h; cases h; exact absurd hs (n _)
     | firsts h g n=>rw [ha] at h; cases h; cases (uniq g); exact absurd hf (n _)
     | pairs h g gf n=>rw [ha] at h; cases h; cases (uniq g); exact absurd hp (n _)
     | longest h g gf gp n=>rfl
     | good h g gf gp n=>rw [ha] at h; cases h; rw [hb'] at n; cases n
    rw [hb']
    exact iteT (bad e k5 t5 (st (by decide)))
end
end G1
namespace L2
open PySem PySem.Spec PyProof.Rows
theorem lr_enum {K:PySem.W.Frag} {S:Addr} {xs:List V} {g:TG} {tt:TT} {tb:TB} {σ:St} {H:Hp} {N:St→Hp→Prop} (Pv:Nat→St→Hp→Prop) (h0:Pv 0 σ H) (hS:∀i σ H,Pv i σ H→SqL K H S xs)
  (step:∀(i:Nat) (x:V) (t:Addr) (σ:St) (H:Hp) (C:St→Hp→Prop),xs[i]? = some x→Pv i σ H→H t=none→(∀σ' H',Pv (i + 1) σ' H'→C σ' H')→g (.ref t) σ (upd H t (.tup [.int i,x])) fun σ4 H4=>tt σ4 H4 fun ok H5=>if ok=true then tb σ4 H5 C else C σ4 H5)
  (fin:∀σ H,Pv xs.length σ H→N σ H):LR (Ite K S) g tt tb σ H N:=by
 refine ⟨fun i m σ H=>m=xs.length - i∧i≤xs.length∧Pv i σ H,⟨_,rfl,Nat.zero_le _,h0⟩,?_⟩
 rintro i m σ2 H2 ⟨rfl,hi,p⟩
 have sq:=hS i σ2 H2 p
 by_cases hlt:i < xs.length
 ·refine .inr ⟨⟨xs,_,sq,List.getElem?_eq_getElem hlt⟩,?_⟩
  rintro x H3 ⟨t,y,n,rfl,hy,rfl⟩
  exact step i y t σ2 H2 _ (hy _ sq) p n fun σ' H' p'=>⟨xs.length - (i + 1),by omega,rfl,hlt,p'⟩
 ·have e:i=xs.length:=by omega
  subst e
  exact .inl ⟨⟨xs,sq,Nat.le_refl _⟩,fin σ2 H2 p⟩
end L2
namespace L2
open PySem
theorem ix_listK {X:Cx} (K:PySem.W.Frag) (h:X.K=K):IxR X (rIxL K):=h ▸ ix_list
end L2
namespace G1
open PySem L2 GM
theorem sqL_kp {K:PySem.W.Frag} {H H':Hp} {a:Addr} {xs:List V} (h:SqL K H a xs) (k:Kp H H'):SqL K H' a xs:=by
 rcases h with (h | ⟨o,h⟩) | h
 ·exact .inl (.inl (k _ _ h nofun))
 ·exact .inl (.inr ⟨o,k _ _ h nofun⟩)
 ·exact .inr h
theorem sqL_same {K:PySem.W.Frag} {H H':Hp} {a:Addr} {xs:List V} (h:SqL K H a xs) (s:Same H H'):SqL K H' a xs:=sqL_kp h (Kp.same s)
end G1
namespace GM
open G1
end GM
namespace G1
open PySem L2 GM
theorem Below.at {ds ss:List Int} (b:Below ds ss) {i:Nat} {s:Int} (h:ss[i]? = some s):∃d,ds[i]? = some d∧0≤d∧d < s:=by
 have il:=(List.getElem?_eq_some_iff.mp h).1
 have e:ds[i]? = some (ds[i]'(by rw [b.1]; exact il)):=List.getElem?_eq_getElem _
 exact ⟨_,e,b.2 _ _ _ e h⟩
theorem atInts {ds:List Int} {i:Nat} {d:Int} (h:ds[i]? = some d) {k:Int} (e:k=(i:Int)):atI (ds.map V.int) k=some (V.int d):=by
 rw [e]
 exact atI_nat (by rw [List.getElem?_map,h]; rfl)
theorem txs_len (ts:List Str):(txs ts).length=ts.length:=by unfold txs; rw [List.length_map]
theorem txs_app (a b:List Str):txs (a ++ b)=txs a ++ txs b:=by unfold txs; rw [List.map_append]
theorem txs_take (a:List Str) (n:Nat):(txs a).take n=txs (a.take n):=by unfold txs; rw [List.map_take]
theorem txs_at {a:List Str} {i:Nat} {t:Str} (h:a[i]? = some t):(txs a)[i]? = some (.str t):=by unfold txs; rw [List.getElem?_map,h]; rfl
theorem Rows.snoc {H:Hp} {xs:List V} {cs:List Nat} {x:V} {c:Nat} (h:Rows H xs cs) (r:Row H x c):Rows H (xs ++ [x]) (cs ++ [c]):=by
 refine ⟨by rw [List.length_append,List.length_append,h.len]; rfl,fun i y d e1 e2=>?_⟩
 by_cases il:i < xs.length
 ·rw [List.getElem?_append_left il] at e1
  rw [List.getElem?_append_left (by rw [← h.len]; exact il)] at e2
  exact h.row i y d e1 e2
 ·rw [List.getElem?_append_right (by omega)] at e1
  rw [List.getElem?_append_right (by rw [← h.len]; omega),← h.len] at e2
  have z:i - xs.length=0:=by
   have:=(List.getElem?_eq_some_iff.mp e1).1
   simp at this; omega
  rw [z] at e1 e2
  cases e1; cases e2; exact r
theorem at_sg {cs:List Nat} {i:Nat} {x:V} (hi:(txs (sgs cs))[i]? = some x):∃c,cs[i]? = some c∧x = .str (sg1 c):=by
 unfold txs sgs at hi
 rw [List.getElem?_map,List.getElem?_map] at hi
 cases e:cs[i]? with
 | none=>rw [e] at hi; cases hi
 | some c=>rw [e] at hi; cases hi; exact ⟨c,rfl,rfl⟩
theorem at_ofV {xs:List V} {d:Int} (h0:0≤d) (h1:d < xs.length):∃c∈xs,atI xs d=some c:=by
 obtain ⟨n,rfl⟩:=Int.eq_ofNat_of_zero_le h0
 have hn:n < xs.length:=by omega
 exact ⟨xs[n],List.getElem_mem hn,atI_nat (List.getElem?_eq_getElem hn)⟩
section
variable {P:Program} {w:World} {K:PySem.W.Frag} {mg:Str→Option Value} {base:Heap}
def spLow:Sp:=fun vs H Q _=>∃a b:Int,vs=[.int a,.int b]∧0≤a∧0 < b∧b.natAbs < big∧∀p c d,H p=none→FracOf a b c d→Q (.ref p) (upd H p (.tup [.int c,.int d]))
theorem scLo:FnScope ["_law_top","_law_bottom","_law_one","_law_other"] ["_law_top","_law_bottom"] (defScope sLow):=⟨rfl,rfl,rfl,by decide +kernel,rfl,by decide +kernel,by decide +kernel⟩
theorem ok_low {f:Addr} {fd:FuncData} (F:FunG K "_law_low" "_law_low" sLow .none f fd) (B:Bl mg):FnOk P w K mg base (CXE P w) 1 f fd ["_law_top","_law_bottom"] spLow:=by
 refine F.zokN scLo (fun vs H Q E h=>?_) (fun cdv A outer s H vs Q E hr h=>?_)
 ·obtain ⟨a,b,rfl,_⟩:=h
  rfl
 ·obtain ⟨a,b,rfl,a0,hb,hbb,q⟩:=h
  refine ⟨_,(zpss_cons (zps_par (i:=2) (j:=3) rfl scLo.nd rfl rfl (by decide) rfl rfl (zpac_f (zpe_callB call_abs (by rfl) B.abs boot_abs (zpac_n (zpv 0) zpa_nil)) (zpac_n (zpv 1) zpa_nil)) rfl)
   (zpss_cons (zps_while PassesOwn.never (zpt_cmpR op_gt (zpv 3) zpe_int (nomark _)) (zpss_one (zps_par (i:=2) (j:=3) rfl scLo.nd rfl rfl (by decide) rfl rfl (zpac_n (zpv 3) (zpac_b (zpe_op op_mod (zpv 2) (zpv 3)) zpa_nil)) rfl)))
   (zpss_one (zps_ret (zpe_tup (zpac_b (zpe_op op_fdivB (zpv 0) (zpv 2)) (zpac_b (zpe_op op_fdivB (zpv 1) (zpv 2)) zpa_nil))))))),?_⟩
  refine ⟨_,rfl,a,rfl,_,rfl,_,_,rfl,?_⟩
  refine while_by (fun σ H'=>H'=H∧∃m n:Nat,σ=[some (.int a),some (.int b),some (.int m),some (.int n)]∧Nat.gcd m n=Nat.gcd a.natAbs b.natAbs) (fun σ _=>match σ with | [_,_,_,some (.int n)]=>n.toNat | _=>0)
   ⟨rfl,a.natAbs,b.natAbs,?_,rfl⟩ ?_ ?_
  ·rw [abs_nat,show ((b.natAbs:Nat):Int)=b by omega]; rfl
  ·rintro σ H' ⟨rfl,m,n,rfl,hg⟩
   refine ⟨_,rfl,_,_,rfl,rfl,_,rfl,?_⟩
   refine ite2 (fun hn=>?_) (fun hn=>?_)
   ·have hn':(0:Int) < n:=of_decide_eq_true hn
    refine ⟨_,rfl,_,rfl,_,rfl,_,_,rfl,rfl,hn',_,_,rfl,⟨rfl,n,m % n,?_,?_⟩,?_⟩
    ·show [some (V.int a),some (V.int b),some (V.int n),some (V.int ((m:Int) % n))]=_
     rw [← Int.natCast_emod]
    ·rw [gcd_step]; exact hg
    ·show ((m:Int) % n).toNat < (n:Int).toNat
     have:=Int.emod_lt_of_pos (m:Int) hn'
     have:=Int.emod_nonneg (m:Int) (show (n:Int)≠0 by omega)
     omega
   ·have hn':¬(0:Int) < n:=fun z=>hn (decide_eq_true z)
    have n0:n=0:=by omega
    rw [n0,Nat.gcd_zero_right] at hg
    have mg:(m:Int)=gd a b:=by unfold gd; rw [hg]
    have nb:b≠0:=by omega
    have gp:=gd_pos (a:=a) nb
    have gl:=gd_le (a:=a) nb
    obtain ⟨c,d,e1,e2,e3,e4,dp,gg,la,lb⟩:=parted (a:=a) (b:=b) (g:=(m:Int)) nb (.inl mg) (by omega)
    have g0:(m:Int)≠0:=by omega
    have gb:(m:Int).natAbs < big:=Nat.lt_of_le_of_lt (by omega) hbb
    refine ⟨_,rfl,_,rfl,_,_,rfl,rfl,⟨g0,gb⟩,_,rfl,_,rfl,_,_,rfl,rfl,⟨g0,gb⟩,by show 2≤sizeLine; decide,fun p hp=>?_⟩
    show Q (V.ref p) (upd H' p (HO.tup [V.int (a.fdiv m),V.int (b.fdiv m)]))
    rw [e1,e2]
    exact q p c d hp ⟨⟨m,g0,e3,e4⟩,dp,gg,la,lb⟩
  ·rintro σ H' Q1 Q2 h ⟨v,e,i,j,e1,e2,x,e3,z⟩
   exact ⟨v,e,i,j,e1,e2,x,e3,h _ _ z⟩
theorem prA_of {H:Hp} {p:Addr} {a b c d:Int} (h:H p=some (.tup [.int c,.int d])) (a0:0 < a) (a1:a≤1000000000) (b1:b≤1000000000) (b0:0 < b) (f:FracOf a b c d):PrA H (.ref p):=by
 have c1:=f.top
 have d1:=f.bot
 have d2:=f.pos
 obtain ⟨g,g0,ga,gb⟩:=f.g
 have gp:0 < g:=by
  rcases Int.lt_or_le 0 g with z | z
  ·exact z
  ·have:g < 0:=by omega
   have:=Int.mul_neg_of_neg_of_pos this d2
   omega
 have cp:0 < c:=by
  rcases Int.lt_or_le 0 c with z | z
  ·exact z
  ·have:=Int.mul_nonpos_of_nonneg_of_nonpos (Int.le_of_lt gp) z
   omega
 exact ⟨p,c,d,rfl,h,cp,d2,f.low,by omega,by omega⟩
def lts (sh st i:Nat):Nat:=ltr ((sh + st * i) % 26)
theorem cop6:∀(st:Fin 6) (i j:Fin 8),(([1,3,5,7,9,11].getD st.val 1) * i.val) % 26=(([1,3,5,7,9,11].getD st.val 1) * j.val) % 26→i=j:=by decide +kernel
theorem ltr_injN:∀i j:Fin 26,ltr i.val=ltr j.val→i=j:=by decide +kernel
theorem lts_nd {sh st n:Nat} (hs:∃k:Nat,k < 6∧st=[1,3,5,7,9,11].getD k 1) (hn:n≤8):((List.range n).map (lts sh st)).Nodup:=by
 obtain ⟨k,hk,rfl⟩:=hs
 refine List.Pairwise.map _ (R:=fun i j=>i < 8∧j < 8∧i≠j) (fun i j h e=>?_) ?_
 ·obtain ⟨h1,h2,h3⟩:=h
  have e:ltr ((sh + [1,3,5,7,9,11].getD k 1 * i) % 26)=ltr ((sh + [1,3,5,7,9,11].getD k 1 * j) % 26):=e
  have e2:=ltr_injN ⟨_,Nat.mod_lt _ (by decide)⟩ ⟨_,Nat.mod_lt _ (by decide)⟩ e
  have e3:(sh + [1,3,5,7,9,11].getD k 1 * i) % 26=(sh + [1,3,5,7,9,11].getD k 1 * j) % 26:=congrArg Fin.val e2
  have e4:([1,3,5,7,9,11].getD k 1 * i) % 26=([1,3,5,7,9,11].getD k 1 * j) % 26:=by omega
  have:=cop6 ⟨k,hk⟩ ⟨i,h1⟩ ⟨j,h2⟩ e4
  exact h3 (by injection this)
 ·rw [List.pairwise_iff_getElem]
  intro i j hi hj hij
  rw [List.getElem_range,List.getElem_range]
  rw [List.length_range] at hi hj
  exact ⟨by omega,by omega,by omega⟩
theorem lts_occ {sh st i:Nat}:occ (lts sh st i)=true:=ltr_occ ⟨_,Nat.mod_lt _ (by decide)⟩
theorem pick6 {j:Nat} (h:j < 6):∃m:Nat,atI [V.int 1,V.int 3,V.int 5,V.int 7,V.int 9,V.int 11] (j:Int)=some (.int m)∧(∃k:Nat,k < 6∧m=[1,3,5,7,9,11].getD k 1)∧m≤25:=by
 rcases (show j=0∨j=1∨j=2∨j=3∨j=4∨j=5 by omega) with rfl | rfl | rfl | rfl | rfl | rfl
 ·exact ⟨1,rfl,⟨0,by decide,rfl⟩,by decide⟩
 ·exact ⟨3,rfl,⟨1,by decide,rfl⟩,by decide⟩
 ·exact ⟨5,rfl,⟨2,by decide,rfl⟩,by decide⟩
 ·exact ⟨7,rfl,⟨3,by decide,rfl⟩,by decide⟩
 ·exact ⟨9,rfl,⟨4,by decide,rfl⟩,by decide⟩
 ·exact ⟨11,rfl,⟨5,by decide,rfl⟩,by decide⟩
def spLetters (K:PySem.W.Frag):Sp:=fun vs H Q _=>∃(R:Addr) (xs:List V) (sh j n:Nat),vs=[.ref R,.int n]∧SqL K H R xs∧atI xs 2=some (.int sh)∧atI xs 3=some (.int j)∧sh≤100∧j < 6∧n≤8∧∀l cs H',H l=none→Same H H'→H' l=some (.lst (txs (sgs cs)))→cs.length=n→cs.Nodup→(∀c∈cs,occ c=true)→Q (.ref l) H'
theorem scLt:FnScope ["_law_row","_law_many","_law_step"] ["_law_row","_law_many"] (defScope sLetters):=⟨rfl,rfl,rfl,by decide +kernel,rfl,by decide +kernel,by decide +kernel⟩
theorem ok_letters {f:Addr} {fd:FuncData} (F:FunG K "_law_letters" "_law_letters" sLetters .none f fd) (B:Bl mg):FnOk P w K mg base (CXE P w) 1 f fd ["_law_row","_law_many"] (spLetters K):=by
 refine F.zokN scLt (fun vs H Q E h=>?_) (fun cdv A outer s H vs Q E hr h=>?_)
 ·obtain ⟨R,xs,sh,j,n,rfl,_⟩:=h
  rfl
 ·obtain ⟨R,xs,sh,j,n,rfl,hR,h2,h3,s1,j6,n8,q⟩:=h
  refine ⟨_,(zpss_cons (zps_set (i:=2) scLt.nd rfl (Or.inr rfl) (zpe_ix ix_list (zpe_lst (zpac_c zpe_int (zpac_c zpe_int (zpac_c zpe_int (zpac_c zpe_int (zpac_c zpe_int (zpac_c zpe_int zpa_nil))))))) (zpe_ix ix_list (zpv 0) zpe_int (fun _ _=>rfl)) (fun _ _=>rfl)))
   (zpss_one (zps_ret (zpe_compL ["_law_row","_law_many","_law_step"] ["_law_k"] [0,2] (defScope sLetters) rfl rfl rfl ⟨by decide +kernel,by decide +kernel,by decide +kernel,by decide +kernel,by decide +kernel⟩ (zpi_range1 (by rfl) B.range (zpac_n (zpv 1) zpa_nil)) (fun s H fp=>(zpg_name (i:=0) (show List.Nodup [("_law_k" : Str),"_law_row","_law_step"] by decide +kernel) rfl (Or.inl rfl))) (fun s H fp=>zpts_nil) (fun s H fp=>(zpe_ix ix_str zpe_str (zpe_op op_mod (zpe_op op_add (zpe_ix (ix_listK K rfl) (zpv 1) zpe_int (fun _ _=>rfl)) (zpe_op op_mul (zpv 2) (zpv 0))) zpe_int) (fun _ _=>rfl))))))),?_⟩
  refine ⟨by show 6≤sizeLine; decide,?_⟩
  (intro M gM; generalize hEq:upd _ M _=H1; refine newC hEq gM ?_; clear hEq; intro S1 eM oM)
  obtain ⟨mm,em,hm,m25⟩:=pick6 j6
  have sq1:SqL K H1 R xs:=sqL_same hR S1
  refine ⟨_,rfl,R,_,_,_,rfl,rfl,sq1,h3,M,_,_,_,rfl,rfl,SqL.of eM,em,?_⟩
  refine ⟨_,rfl,_,rfl,by omega,by omega,?_⟩
  (intro D gD; generalize hEq:upd _ D _=H2; refine newC hEq gD ?_; clear hEq; intro S2 eD oD)
  rw [Int.toNat_natCast]
  refine lr_range (lo:=0) (n:=n) (fun i σ H'=>(∃v,σ=[v,some (.ref R),some (.int mm)])∧Same H1 H'∧H' D=some (.lst (txs (sgs ((List.range i).map (lts sh mm)))))) ⟨⟨_,rfl⟩,S2,eD⟩ ?_ ?_
  ·rintro u σ H' C hu ⟨⟨v,rfl⟩,k,hD⟩ nx
   have mod_:((sh:Int) + (mm:Int) * ((0:Int) + (u:Int))) % 26=(((sh + mm * u) % 26:Nat):Int):=by
    rw [Int.zero_add]
    show ((sh:Int) + (mm:Int) * (u:Int)) % ((26:Nat):Int)=_
    rw [← Int.natCast_mul,← Int.natCast_add,← Int.natCast_emod]
   refine ⟨_,rfl,R,_,_,_,rfl,rfl,sqL_same sq1 k,h2,_,rfl,_,rfl,_,_,rfl,rfl,.inl ⟨by omega,by omega⟩,_,_,rfl,rfl,_,_,rfl,rfl,(by show (0:Int) < 26; decide),letters,_,_,rfl,rfl,by decide,by rw [mod_]; exact ltr_at (Nat.mod_lt _ (by decide)),_,hD,?_,nx _ _ ⟨⟨_,rfl⟩,fun c o e=>?_,?_⟩⟩
   ·rw [txs_len]
    unfold sgs
    rw [List.length_map,List.length_map,List.length_range]
    exact Nat.lt_of_le_of_lt (show u≤8 by omega) (by decide)
   ·rw [upd_ne (ne_of_none e gD)]; exact k _ _ e
   ·rw [List.range_succ,List.map_append]
    unfold sgs
    rw [List.map_append,txs_app]; exact upd_same
  rintro σ5 H6 ⟨_,k6,hD6⟩
  have gD0:H D=none:=by
   cases e:H D with
   | none=>rfl
   | some o=>rw [S1 _ _ e] at gD; cases gD
  refine q D _ H6 gD0 (S1.trans k6) hD6 (by rw [List.length_map,List.length_range]) (lts_nd hm n8) fun c hc=>?_
  obtain ⟨i,_,rfl⟩:=List.mem_map.mp hc
  exact lts_occ
def spSign:Sp:=fun vs H Q _=>∃(z:Int) (k:Int) (c:Nat) (b:Bool),vs=[.int z,.int k,.str (sg1 c),.bl b]∧0≤k∧k≤100∧occ c=true∧∀t H',Same H H'→Row H' (.ref t) c→Q (.ref t) H'
theorem scSg:FnScope ["_law_cell_here","_law_k","_law_letter","_law_dear","_law_one","_law_price","_law_other"] ["_law_cell_here","_law_k","_law_letter","_law_dear"] (defScope sSign):=⟨rfl,rfl,rfl,by decide +kernel,rfl,by decide +kernel,by decide +kernel⟩
theorem ok_sign {f fD fL:Addr} {fd fdD fdL:FuncData} (F:FunG K "_law_sign" "_law_sign" sSign .none f fd) (B:Bl mg)
  (GD:FnOk P w K mg base (CXE P w) 1 fD fdD ["_law_cell_here","_law_k","_law_sizes"] spDraws) (mD:mg "_law_draws" = some (.ref fD)) (kD:PySem.W.keepIn K (.ref fD)=true) (bD:Binds K fdD ["_law_cell_here","_law_k","_law_sizes"] [])
  (GL:FnOk P w K mg base (CXE P w) 1 fL fdL ["_law_top","_law_bottom"] spLow) (mL:mg "_law_low" = some (.ref fL)) (kL:PySem.W.keepIn K (.ref fL)=true) (bL:Binds K fdL ["_law_top","_law_bottom"] []):FnOk P w K mg base (CXE P w) 2 f fd ["_law_cell_here","_law_k","_law_letter","_law_dear"] spSign:=by
 refine F.zokN scSg (fun vs H Q E h=>?_) (fun cdv A outer s H vs Q E hr h=>?_)
 ·obtain ⟨z,k,c,b,rfl,_⟩:=h
  rfl
 ·obtain ⟨z,k,c,b,rfl,k0,k1,oc,q⟩:=h
  refine ⟨_,(zpss_cons (zps_set (i:=4) scSg.nd rfl (Or.inl rfl) (zpe_call GD hr (by rfl) mD kD bD .nil passE0 (zpac_n (zpv 0) (zpac_b (zpe_op op_add zpe_int (zpv 1)) (zpac_l (zpe_lst (zpac_c zpe_int (zpac_c zpe_int (zpac_c zpe_int (zpac_c zpe_int (zpac_c zpe_int (zpac_c zpe_int (zpac_c zpe_int zpa_nil)))))))) zpa_nil)))))
   (zpss_cons (zps_set (i:=5) scSg.nd rfl (Or.inl rfl) (zpe_call GL hr (by rfl) mL kL bL .nil passE0 (zpac_b (zpe_op op_add zpe_int (zpe_ix ix_list (zpv 4) zpe_int (fun _ _=>rfl))) (zpac_b (zpe_op op_add zpe_int (zpe_ix ix_list (zpv 4) zpe_int (fun _ _=>rfl))) zpa_nil))))
   (zpss_cons (zps_cut (zps_if (zpt_val (zpv 3)) (zpss_one (zps_set (i:=5) scSg.nd rfl (Or.inl rfl) (zpe_call GL hr (by rfl) mL kL bL .nil passE0 (zpac_b (zpe_op op_add zpe_int (zpe_ix ix_list (zpv 4) zpe_int (fun _ _=>rfl))) (zpac_b (zpe_op op_add zpe_int (zpe_ix ix_list (zpv 4) zpe_int (fun _ _=>rfl))) zpa_nil))))) zpss_nil))
   (zpss_cons (zps_set (i:=6) scSg.nd rfl (Or.inl rfl) (zpe_call GL hr (by rfl) mL kL bL .nil passE0 (zpac_b (zpe_op op_add zpe_int (zpe_ix ix_list (zpv 4) zpe_int (fun _ _=>rfl))) (zpac_b (zpe_op op_add zpe_int (zpe_ix ix_list (zpv 4) zpe_int (fun _ _=>rfl))) zpa_nil))))
   (zpss_one (zps_ret (zpe_tup (zpac_n (zpv 2) (zpac_n (zpv 5) (zpac_s (zpe_ix ix_list (zpe_lst (zpac_n (zpv 5) (zpac_c zpe_non (zpac_n (zpv 6) (zpac_t (zpe_tup (zpac_b (zpe_op op_add zpe_int (zpe_ix ix_list (zpv 4) zpe_int (fun _ _=>rfl))) (zpac_c zpe_int zpa_nil))) (zpac_n (zpv 5) (zpac_n (zpv 5) zpa_nil))))))) (zpe_ix ix_list (zpv 4) zpe_int (fun _ _=>rfl)) (fun _ _=>rfl)) zpa_nil)))))))))),?_⟩
  have lb:∀{m:Int},0 < m→m≤1000000000→m.natAbs < big:=fun h0 h1=>small_big h0 h1
  refine ⟨_,rfl,_,rfl,_,_,rfl,rfl,by show 7≤sizeLine; decide,?_⟩
  (intro r0 g0; generalize hEq:upd _ r0 _=H1; refine newC hEq g0 ?_; clear hEq; intro S1 e1 o1)
  refine ⟨z,1 + k,r0,[5,3,6,7,4,999999999,999999999],rfl,by omega,by omega,e1,by decide,fun s hs=>?_,fun R ds H2 S2 gR eR bl=>?_⟩
  ·simp only [List.mem_cons,List.not_mem_nil,or_false] at hs
   rcases hs with rfl | rfl | rfl | rfl | rfl | rfl | rfl <;> exact ⟨by decide,by decide +kernel⟩
  obtain ⟨d0,h0,a0,b0⟩:=bl.at (i:=0) (s:=5) rfl
  obtain ⟨d1,h1,a1,b1⟩:=bl.at (i:=1) (s:=3) rfl
  obtain ⟨d2,h2,a2,b2⟩:=bl.at (i:=2) (s:=6) rfl
  obtain ⟨d3,h3,a3,b3⟩:=bl.at (i:=3) (s:=7) rfl
  obtain ⟨d4,h4,a4,b4⟩:=bl.at (i:=4) (s:=4) rfl
  obtain ⟨d5,h5,a5,b5⟩:=bl.at (i:=5) (s:=999999999) rfl
  obtain ⟨d6,h6,a6,b6⟩:=bl.at (i:=6) (s:=999999999) rfl
  have sq:∀{H':Hp},Same H2 H'→SqL K H' R (ds.map V.int):=fun s=>SqL.of (s _ _ eR)
  refine ⟨_,rfl,R,_,_,_,rfl,rfl,sq (Same.refl _),atInts h0 rfl,_,_,rfl,rfl,_,rfl,R,_,_,_,rfl,rfl,sq (Same.refl _),atInts h1 rfl,_,_,rfl,rfl,1 + d0,1 + d1,rfl,by omega,by omega,lb (by omega) (by omega),fun p1 c1 f1 gp1 fr1=>?_⟩
  have S3:=same_upd (o:=.tup [V.int c1,V.int f1]) gp1
  have P1:PrA (upd H2 p1 (.tup [V.int c1,V.int f1])) (.ref p1):=prA_of upd_same (by omega) (by omega) (by omega) (by omega) fr1
  generalize upd H2 p1 (.tup [V.int c1,V.int f1])=H3 at S3 P1
  refine ⟨fun σ H'=>∃x,σ=[some (.int z),some (.int k),some (.str (sg1 c)),some (.bl b),some (.ref R),some x,none]∧Same H3 H'∧PrA H' x,?_,?_⟩
  ·refine ⟨_,rfl,b,rfl,ite2 (fun _=>?_) (fun _=>⟨_,rfl,Same.refl _,P1⟩)⟩
   refine ⟨_,rfl,R,_,_,_,rfl,rfl,sq S3,atInts h5 rfl,_,_,rfl,rfl,_,rfl,R,_,_,_,rfl,rfl,sq S3,atInts h6 rfl,_,_,rfl,rfl,1 + d5,1 + d6,rfl,by omega,by omega,lb (by omega) (by omega),fun p2 c2 f2 gp2 fr2=>?_⟩
   exact ⟨_,rfl,same_upd gp2,prA_of upd_same (by omega) (by omega) (by omega) (by omega) fr2⟩
  rintro σ H4 ⟨x,rfl,S34,px⟩
  have S24:=S3.trans S34
  refine ⟨_,rfl,R,_,_,_,rfl,rfl,sq S24,atInts h3 rfl,_,_,rfl,rfl,_,rfl,R,_,_,_,rfl,rfl,sq S24,atInts h4 rfl,_,_,rfl,rfl,1 + d3,1 + d4,rfl,by omega,by omega,lb (by omega) (by omega),fun p2 c2 f2 gp2 fr2=>?_⟩
  have S45:=same_upd (o:=.tup [V.int c2,V.int f2]) gp2
  have P2:PrA (upd H4 p2 (.tup [V.int c2,V.int f2])) (.ref p2):=prA_of upd_same (by omega) (by omega) (by omega) (by omega) fr2
  generalize upd H4 p2 (.tup [V.int c2,V.int f2])=H5 at S45 P2
  have S25:=S24.trans S45
  refine ⟨_,rfl,_,rfl,_,rfl,_,rfl,_,rfl,R,_,_,_,rfl,rfl,sq S25,atInts h3 rfl,_,_,rfl,rfl,by show 2≤sizeLine; decide,?_⟩
  (intro p3 gp3; generalize hEq:upd _ p3 _=H6; refine newC hEq gp3 ?_; clear hEq; intro S56 e6 o6)
  refine ⟨_,rfl,_,rfl,by show 6≤sizeLine; decide,?_⟩
  (intro M gM; generalize hEq:upd _ M _=H7; refine newC hEq gM ?_; clear hEq; intro S67 e7 o7)
  have S57:=S56.trans S67
  obtain ⟨y,my,ey⟩:=at_ofV a2 (show d2 < ([x,V.non,V.ref p2,V.ref p3,x,x]:List V).length from b2)
  have px7:PrA H7 x:=(px.kp (Kp.same S45)).kp (Kp.same S57)
  have hy:y = .non∨PrA H7 y:=by
   simp only [List.mem_cons,List.not_mem_nil,or_false] at my
   rcases my with rfl | rfl | rfl | rfl | rfl | rfl
   ·exact .inr px7
   ·exact .inl rfl
   ·exact .inr (P2.kp (Kp.same S57))
   ·refine .inr ⟨p3,9 + d3,1,rfl,S67 _ _ e6,by omega,by decide,Nat.gcd_one_right _,by omega,by decide⟩
   ·exact .inr px7
   ·exact .inr px7
  refine ⟨_,rfl,R,_,_,_,rfl,rfl,sq (S25.trans S57),atInts h2 rfl,M,_,_,_,rfl,rfl,SqL.of e7,ey,by show 3≤sizeLine; decide,?_⟩
  (intro t gt; generalize hEq:upd _ t _=H8; refine newC hEq gt ?_; clear hEq; intro S78 e8 o8)
  exact q t H8 (((S1.trans S2).trans S25).trans (S57.trans S78)) ⟨⟨t,x,y,rfl,e8,px7.kp (Kp.same S78),hy.imp id fun z=>z.kp (Kp.same S78)⟩,oc⟩
end
def TupK (H H':Hp):Prop:=∀b xs,H b=some (.tup xs)→H' b=some (.tup xs)
theorem TupK.set {H:Hp} {a:Addr} {xs ys:List V} (h:H a=some (.lst xs)):TupK H (upd H a (.lst ys)):=fun b zs e=>by
 rw [upd_ne (fun z=>by rw [z,h] at e; cases e)]; exact e
theorem PrA.tk {H H':Hp} {x:V} (h:PrA H x) (k:TupK H H'):PrA H' x:=by
 obtain ⟨a,n,d,e,ha,r⟩:=h.ex
 exact ⟨a,n,d,e,k _ _ ha,r⟩
theorem Row.tk {H H':Hp} {x:V} {c:Nat} (h:Row H x c) (k:TupK H H'):Row H' x c:=by
 obtain ⟨a,p,l,e,ha,hp,hl⟩:=h.ex
 exact ⟨⟨a,p,l,e,k _ _ ha,hp.tk k,hl.imp id fun z=>z.tk k⟩,h.oc⟩
theorem Rows.tk {H H':Hp} {xs:List V} {cs:List Nat} (h:Rows H xs cs) (k:TupK H H'):Rows H' xs cs:=⟨h.len,fun i x c e1 e2=>(h.row i x c e1 e2).tk k⟩
theorem rep_ints (n:Nat) (x:Int):(List.replicate n [V.int x]).flatten=(List.replicate n x).map V.int:=by
 induction n with
 | zero=>rfl
 | succ n ih=>rw [List.replicate_succ,List.flatten_cons,ih,List.replicate_succ]; rfl
theorem none_of {H H':Hp} {a:Addr} (s:Same H H') (g:H' a=none):H a=none:=by
 cases e:H a with
 | none=>rfl
 | some o=>rw [s _ _ e] at g; cases g
def bsz (m:Nat):List Int:=[3] ++ List.replicate m 6 ++ [2]
theorem bsz_len (m:Nat):(bsz m).length=m + 2:=by unfold bsz; simp
theorem bsz_pos {m:Nat}:∀s∈bsz m,0 < s∧s.natAbs < big:=fun s h=>by
 unfold bsz at h
 have:s=3∨s=6∨s=2:=by
  rcases List.mem_append.mp h with h | h
  ·rcases List.mem_append.mp h with h | h
   ·exact .inl (List.mem_singleton.mp h)
   ·exact .inr (.inl (List.mem_replicate.mp h).2)
  ·exact .inr (.inr (List.mem_singleton.mp h))
 rcases this with rfl | rfl | rfl <;> exact ⟨by decide,by decide +kernel⟩
theorem bsz_at {m i:Nat} (h:i < m):(bsz m)[1 + i]? = some 6:=by
 unfold bsz
 rw [List.getElem?_append_left (by simp; omega),List.getElem?_append_right (by simp)]
 simp [h]
theorem bsz_last {m:Nat}:(bsz m)[m + 1]? = some 2:=by
 unfold bsz
 rw [List.getElem?_append_right (by simp)]
 simp
theorem sg2_inj {a b c d:Nat} (h:sg1 a ++ sg1 b=sg1 c ++ sg1 d):a=c∧b=d:=by
 have h':=congrArg (fun z:Str=>z.cps.toList) h
 simp only [app_list] at h'
 have h':[a,b]=[c,d]:=h'
 exact ⟨by injection h',by injection h' with _ h'; injection h'⟩
theorem rev_at {xs:List V} {n:Nat} {v:V} (l:xs.length=n + 1) (h:xs[n]? = some v):atI xs (-1)=some v:=by
 unfold atI
 rw [show ixN xs.length (-1)=some n by unfold ixN; rw [l]; simp; omega]
 exact h
section
variable {P:Program} {w:World} {K:PySem.W.Frag} {mg:Str→Option Value} {base:Heap}
def spTongueD (K:PySem.W.Frag):Sp:=fun vs H Q _=>∃(a:Addr) (ns:List Int) (m k:Int),vs=[.ref a,.int m,.int k]∧SqL K H a (ns.map V.int)∧2≤m∧m≤6∧1≤k∧k≤8∧∀t cs fs ps lg H',Same H H'→Tg H' t cs fs ps lg→Q (.ref t) H'
theorem scTo:FnScope ["_law_script","_law_most","_law_longest","_law_row","_law_many","_law_letters_here","_law_signs","_law_k","_law_letter","_law_bans","_law_firsts","_law_pairs"] ["_law_script","_law_most","_law_longest"] (defScope sTongue):=⟨rfl,rfl,rfl,by decide +kernel,rfl,by decide +kernel,by decide +kernel⟩
theorem ok_tongue {f fC fD fL fS:Addr} {fd fdC fdD fdL fdS:FuncData} (F:FunG K "_law_tongue" "_law_tongue" sTongue .none f fd) (B:Bl mg)
  (GC:FnOk P w K mg base (CXE P w) 1 fC fdC ["_law_script","_law_k"] (spCell K)) (mC:mg "_law_cell" = some (.ref fC)) (kC:PySem.W.keepIn K (.ref fC)=true) (bC:Binds K fdC ["_law_script","_law_k"] [])
  (GD:FnOk P w K mg base (CXE P w) 1 fD fdD ["_law_cell_here","_law_k","_law_sizes"] spDraws) (mD:mg "_law_draws" = some (.ref fD)) (kD:PySem.W.keepIn K (.ref fD)=true) (bD:Binds K fdD ["_law_cell_here","_law_k","_law_sizes"] [])
  (GL:FnOk P w K mg base (CXE P w) 1 fL fdL ["_law_row","_law_many"] (spLetters K)) (mL:mg "_law_letters" = some (.ref fL)) (kL:PySem.W.keepIn K (.ref fL)=true) (bL:Binds K fdL ["_law_row","_law_many"] [])
  (GS:FnOk P w K mg base (CXE P w) 2 fS fdS ["_law_cell_here","_law_k","_law_letter","_law_dear"] spSign) (mS:mg "_law_sign" = some (.ref fS)) (kS:PySem.W.keepIn K (.ref fS)=true) (bS:Binds K fdS ["_law_cell_here","_law_k","_law_letter","_law_dear"] []):FnOk P w K mg base (CXE P w) 3 f fd ["_law_script","_law_most","_law_longest"] (spTongueD K):=by
 refine F.zokN scTo (fun vs H Q E h=>?_) (fun cdv A outer s H vs Q E hr h=>?_)
 ·obtain ⟨a,ns,m,k,rfl,_⟩:=h
  rfl
 ·obtain ⟨a,ns,m,k,rfl,ha,m2,m6,k1,k8,q⟩:=h
  refine ⟨_,(zpss_cons (zps_set (i:=3) scTo.nd rfl (Or.inl rfl) (zpe_call GD (hr.mono (by decide)) (by rfl) mD kD bD .nil passE0 (zpac_f (zpe_call GC (hr.mono (by decide)) (by rfl) mC kC bC .nil passE0 (zpac_n (zpv 0) (zpac_c zpe_int zpa_nil))) (zpac_c zpe_int (zpac_l (zpe_lst (zpac_b (zpe_op op_sub (zpv 1) zpe_int) (zpac_n (zpv 2) (zpac_c zpe_int (zpac_c zpe_int (zpac_c zpe_int zpa_nil)))))) zpa_nil)))))
   (zpss_cons (zps_set (i:=4) scTo.nd rfl (Or.inl rfl) (zpe_op op_add zpe_int (zpe_ix ix_list (zpv 3) zpe_int (fun _ _=>rfl))))
   (zpss_cons (zps_set (i:=5) scTo.nd rfl (Or.inl rfl) (zpe_call GL (hr.mono (by decide)) (by rfl) mL kL bL .nil passE0 (zpac_n (zpv 3) (zpac_n (zpv 4) zpa_nil))))
   (zpss_cons (zps_set (i:=6) scTo.nd rfl (Or.inl rfl) (zpe_lst zpa_nil))
   (zpss_cons (zps_for PassesOwn.never rfl (zpi_enum (by rfl) B.enum (zpac_n (zpv 5) zpa_nil)) (zpg_tup rfl (zpgs_cons (zpg_name (i:=7) scTo.nd rfl (Or.inl rfl)) (zpgs_cons (zpg_name (i:=8) scTo.nd rfl (Or.inl rfl)) zpgs_nil)))
     (zpss_one (zps_expr (zpe_bm PySem.F.plainAttrs_list PySem.F.slot_list_append PySem.F.type_list_append mt_append (zpv 6) (zpac_f (zpe_call GS hr (by rfl) mS kS bS .nil passE0 (zpac_f (zpe_call GC (hr.mono (by decide)) (by rfl) mC kC bC .nil passE0 (zpac_n (zpv 0) (zpac_b (zpe_op op_add zpe_int (zpv 7)) zpa_nil))) (zpac_n (zpv 7) (zpac_n (zpv 8) (zpac_x (zpe_cmpR op_eq (zpe_ix ix_list (zpv 3) zpe_int (fun _ _=>rfl)) zpe_int (nomark _)) zpa_nil))))) zpa_nil)))))
   (zpss_cons (zps_set (i:=9) scTo.nd rfl (Or.inr rfl) (zpe_call GD (hr.mono (by decide)) (by rfl) mD kD bD .nil passE0 (zpac_f (zpe_call GC (hr.mono (by decide)) (by rfl) mC kC bC .nil passE0 (zpac_n (zpv 0) (zpac_c zpe_int zpa_nil))) (zpac_c zpe_int (zpac_b (zpe_op op_cat (zpe_op op_cat (zpe_lst (zpac_c zpe_int zpa_nil)) (zpe_op op_rep (zpe_lst (zpac_c zpe_int zpa_nil)) (zpe_op op_add (zpv 4) (zpe_op op_mul (zpv 4) (zpv 4))))) (zpe_lst (zpac_c zpe_int zpa_nil))) zpa_nil)))))
   (zpss_cons (zps_if (zpt_cmpR op_eq (zpe_ix ix_list (zpv 9) zpe_int (fun _ _=>rfl)) zpe_int (nomark _)) (zpss_one (zps_ret (zpe_tup (zpac_n (zpv 6) (zpac_l (zpe_lst zpa_nil) (zpac_l (zpe_lst zpa_nil) (zpac_b (zpe_op op_add zpe_int (zpe_ix ix_list (zpv 3) zpe_int (fun _ _=>rfl))) zpa_nil))))))) zpss_nil)
   (zpss_cons (zps_compL (i:=10) ["_law_script","_law_most","_law_longest","_law_row","_law_many","_law_letters_here","_law_signs","_law_k","_law_letter","_law_bans","_law_firsts","_law_pairs"] ["_law_k","_law_letter"] [9] (defScope sTongue) rfl rfl rfl ⟨by decide +kernel,by decide +kernel,by decide +kernel,by decide +kernel,by decide +kernel⟩ scTo.nd rfl (Or.inl rfl) (zpi_enum (by rfl) B.enum (zpac_n (zpv 5) zpa_nil)) (fun s H fp=>(zpg_tupK K 2 rfl rfl (zpgs_cons (zpg_name (i:=0) (show List.Nodup [("_law_k" : Str),"_law_letter","_law_bans"] by decide +kernel) rfl (Or.inl rfl)) (zpgs_cons (zpg_name (i:=1) (show List.Nodup [("_law_k" : Str),"_law_letter","_law_bans"] by decide +kernel) rfl (Or.inl rfl)) zpgs_nil)))) (fun s H fp=>(zpts_one (zpt_cmpR op_eq (zpe_ix (ix_listK K rfl) (zpv 2) (zpe_op op_add zpe_int (zpv 0)) (fun _ _=>rfl)) zpe_int (nomark _)))) (fun s H fp=>(zpv 1)))
   (zpss_cons (zps_set (i:=11) scTo.nd rfl (Or.inl rfl) (zpe_lst zpa_nil))
   (zpss_cons (zps_for PassesOwn.never rfl (zpi_range1 (by rfl) B.range (zpac_b (zpe_op op_mul (zpv 4) (zpv 4)) zpa_nil)) (zpg_name (i:=7) scTo.nd rfl (Or.inl rfl))
     (zpss_one (zps_if (zpt_cmpR op_eq (zpe_ix ix_list (zpv 9) (zpe_op op_add (zpe_op op_add zpe_int (zpv 4)) (zpv 7)) (fun _ _=>rfl)) zpe_int (nomark _)) (zpss_one (zps_expr (zpe_bm PySem.F.plainAttrs_list PySem.F.slot_list_append PySem.F.type_list_append mt_append (zpv 11) (zpac_b (zpe_op op_add_str (zpe_ix ix_list (zpv 5) (zpe_op op_fdiv (zpv 7) (zpv 4)) (fun _ _=>rfl)) (zpe_ix ix_list (zpv 5) (zpe_op op_mod (zpv 7) (zpv 4)) (fun _ _=>rfl))) zpa_nil)))) zpss_nil)))
   (zpss_cons (zps_if (zpt_cmpR op_eq (zpe_ix ix_list (zpv 9) (zpe_un un_neg zpe_int) (fun _ _=>rfl)) zpe_int (nomark _)) (zpss_one (zps_ret (zpe_tup (zpac_n (zpv 6) (zpac_s (zpe_rev (zpv 10)) (zpac_s (zpe_rev (zpv 11)) (zpac_b (zpe_op op_add zpe_int (zpe_ix ix_list (zpv 3) zpe_int (fun _ _=>rfl))) zpa_nil))))))) zpss_nil)
   (zpss_one (zps_ret (zpe_tup (zpac_n (zpv 6) (zpac_n (zpv 10) (zpac_n (zpv 11) (zpac_b (zpe_op op_add zpe_int (zpe_ix ix_list (zpv 3) zpe_int (fun _ _=>rfl))) zpa_nil)))))))))))))))))),?_⟩
  have sb:∀{z:Int},0 < z→z≤1000→0 < z∧z.natAbs < big:=fun h0 h1=>⟨h0,small_big h0 (by omega)⟩
  have sz:∀{n:Nat},n≤100→n≤sizeLine:=fun h=>Nat.le_trans h (by decide)
  have sl:∀{n:Nat},n < 100→n < sizeLine:=fun h=>Nat.lt_of_lt_of_le h (sz (Nat.le_refl _))
  refine ⟨_,rfl,a,ns,0,rfl,ha,by decide,fun z=>?_⟩
  refine ⟨_,rfl,_,_,rfl,rfl,_,rfl,sz (show 5≤100 by decide),?_⟩
  (intro r0 g0; generalize hEq:upd _ r0 _=H1; refine newC hEq g0 ?_; clear hEq; intro S1 e1 o1)
  refine ⟨z,0,r0,[m - 1,k,26,6,4],rfl,by decide,by decide,e1,by show 5≤1000; decide,fun s hs=>?_,fun R ds H2 S2 gR eR bl=>?_⟩
  ·simp only [List.mem_cons,List.not_mem_nil,or_false] at hs
   rcases hs with rfl | rfl | rfl | rfl | rfl
   ·exact sb (by omega) (by omega)
   ·exact sb (by omega) (by omega)
   ·exact sb (by decide) (by decide)
   ·exact sb (by decide) (by decide)
   ·exact sb (by decide) (by decide)
  obtain ⟨d0,h0,a0,b0⟩:=bl.at (i:=0) (s:=m - 1) rfl
  obtain ⟨d1,h1,a1,b1⟩:=bl.at (i:=1) (s:=k) rfl
  obtain ⟨d2,h2,a2,b2⟩:=bl.at (i:=2) (s:=26) rfl
  obtain ⟨d3,h3,a3,b3⟩:=bl.at (i:=3) (s:=6) rfl
  obtain ⟨d4,h4,a4,b4⟩:=bl.at (i:=4) (s:=4) rfl
  obtain ⟨sh,rfl⟩:=Int.eq_ofNat_of_zero_le a2
  obtain ⟨j,rfl⟩:=Int.eq_ofNat_of_zero_le a3
  obtain ⟨e0,rfl⟩:=Int.eq_ofNat_of_zero_le a0
  obtain ⟨n,hn⟩:∃n:Nat,n=2 + e0:=⟨_,rfl⟩
  have ni:V.int (2 + (e0:Int))=V.int (n:Int):=by rw [hn]; rfl
  have sqR:∀{H':Hp},Same H2 H'→SqL K H' R (ds.map V.int):=fun s=>SqL.of (s _ _ eR)
  refine ⟨_,rfl,R,_,_,_,rfl,rfl,sqR (Same.refl _),atInts h0 rfl,_,_,rfl,rfl,?_⟩
  have n2:2≤n:=by omega
  have n6:n≤6:=by omega
  refine ⟨_,rfl,_,rfl,R,_,sh,j,n,by rw [← ni]; rfl,sqR (Same.refl _),atInts h2 rfl,atInts h3 rfl,by omega,by omega,by omega,fun D cs H3 gD S3 hD cl nd coc=>?_⟩
  refine ⟨Nat.zero_le _,?_⟩
  (intro S gS; generalize hEq:upd _ S _=H4; refine newC hEq gS ?_; clear hEq; intro S4 eS oS)
  have S24:=S3.trans S4
  have S04:Same H H4:=(S1.trans S2).trans S24
  have hD4:=S4 _ _ hD
  refine ⟨_,rfl,D,rfl,⟨_,SqL.of hD4⟩,?_⟩
  have tl:(txs (sgs cs)).length=n:=by rw [txs_len]; unfold sgs; rw [List.length_map,cl]
  refine for_enum (K:=K) (a:=D) (xs:=txs (sgs cs)) (fun i σ H'=>(∃v7 v8,σ=[some (.ref a),some (.int m),some (.int k),some (.ref R),some (.int (2 + (e0:Int))),some (.ref D),some (.ref S),v7,v8,none,none,none])∧Same H3 H'∧∃xs,H' S=some (.lst xs)∧Rows H' xs (cs.take i)) ⟨⟨_,_,rfl⟩,S4,[],eS,⟨rfl,fun i x c e=>by simp at e⟩⟩ (fun i σ H' _ p=>SqL.of (p.2.1 _ _ hD)) ?_ ?_
  ·rintro i x t σ H5 hi ⟨⟨v7,v8,rfl⟩,S35,xs,hS5,rows⟩ gt
   obtain ⟨c,hc,rfl⟩:=at_sg hi
   have il:=(List.getElem?_eq_some_iff.mp hc).1
   have S56:=same_upd (o:=.tup [.int i,.str (sg1 c)]) gt
   have et:upd H5 t (.tup [.int i,.str (sg1 c)]) t=some (.tup [.int i,.str (sg1 c)]):=upd_same
   generalize upd H5 t (.tup [.int i,.str (sg1 c)])=H6 at S56 et
   have S36:=S35.trans S56
   have hS6:=S56 _ _ hS5
   refine ⟨t,_,rfl,SqT.of et,rfl,_,_,rfl,_,_,rfl,rfl,?_⟩
   refine ⟨_,rfl,.inl ⟨rfl,_,SqL.of hS6⟩,_,rfl,_,rfl,_,_,rfl,rfl,a,ns,1 + (i:Int),rfl,sqL_same ha (((S1.trans S2).trans S3).trans S36),by omega,fun zz=>?_⟩
   refine ⟨_,rfl,_,rfl,_,rfl,R,_,_,_,rfl,rfl,sqR (S3.trans S36),atInts h4 rfl,rfl,?_⟩
   refine ⟨zz,(i:Int),c,_,rfl,by omega,by omega,coc c (List.mem_of_getElem? hc),fun u H7 S67 row=>?_⟩
   have hS7:=S67 _ _ hS6
   refine ⟨S,xs,_,rfl,rfl,hS7,?_,⟨_,_,rfl⟩,fun b o e=>?_,xs ++ [.ref u],upd_same,?_⟩
   ·rw [rows.len,List.length_take]; exact sl (show min i cs.length < 100 by omega)
   ·rw [upd_ne (ne_of_none e gS)]; exact S67 _ _ (S36 _ _ e)
   ·rw [List.take_add_one,hc]
    exact (((rows.kp (Kp.same S56)).kp (Kp.same S67)).snoc row).tk (TupK.set hS7)
  rintro σ5 H5 ⟨⟨v7,v8,rfl⟩,S35,xs,hS5,rows⟩
  rw [tl,show cs.take n=cs by rw [← cl,List.take_length]] at rows
  have S25:=S3.trans S35
  have S05:Same H H5:=(S1.trans S2).trans S25
  have hD5:=S35 _ _ hD
  have en:(2:Int) + (e0:Int)=(n:Int):=by rw [hn]; rfl
  obtain ⟨M,hM⟩:∃M:Nat,M=n + n * n:=⟨_,rfl⟩
  have nn:n * n≤36:=Nat.mul_le_mul n6 n6
  have eM2:(2 + (e0:Int)) * (2 + (e0:Int))=((n * n:Nat):Int):=by rw [en]; push_cast; rfl
  have eM:(2 + (e0:Int)) + (2 + (e0:Int)) * (2 + (e0:Int))=((M:Nat):Int):=by rw [eM2,en,hM]; push_cast; rfl
  have s1:1≤sizeLine:=by decide
  refine ⟨_,rfl,a,ns,7,rfl,sqL_same ha S05,by decide,fun z7=>?_⟩
  refine ⟨s1,?_⟩
  (intro l1 gl1; generalize hEq:upd _ l1 _=H6; refine newC hEq gl1 ?_; clear hEq; intro S6 el1 ol1)
  refine ⟨s1,?_⟩
  (intro l2 gl2; generalize hEq:upd _ l2 _=H7; refine newC hEq gl2 ?_; clear hEq; intro S7 el2 ol2)
  refine ⟨_,rfl,_,rfl,_,rfl,_,_,rfl,rfl,.inl ⟨by omega,by omega⟩,_,_,rfl,rfl,?_⟩
  refine ⟨l2,_,[V.int 6],rfl,rfl,el2,by rw [eM]; omega,by rw [eM]; omega,by rw [eM]; exact sz (show 1 * ((M:Int)).toNat≤100 by omega),?_⟩
  (intro l3 gl3; generalize hEq:upd _ l3 _=H8; refine newC hEq gl3 ?_; clear hEq; intro S8 el3 ol3)
  rw [eM,Int.toNat_natCast,rep_ints] at el3
  refine ⟨l1,l3,_,_,rfl,rfl,S8 _ _ (S7 _ _ el1),el3,sz (show 1 + _≤100 by rw [List.length_map,List.length_replicate]; omega),?_⟩
  (intro l4 gl4; generalize hEq:upd _ l4 _=H9; refine newC hEq gl4 ?_; clear hEq; intro S9 el4 ol4)
  refine ⟨s1,?_⟩
  (intro l5 gl5; generalize hEq:upd _ l5 _=H10; refine newC hEq gl5 ?_; clear hEq; intro S10 el5 ol5)
  refine ⟨l4,l5,_,_,rfl,rfl,S10 _ _ el4,el5,sz (show _ + 1≤100 by rw [List.length_append,List.length_map,List.length_replicate]; show 1 + M + 1≤100; omega),?_⟩
  (intro l6 gl6; generalize hEq:upd _ l6 _=H11; refine newC hEq gl6 ?_; clear hEq; intro S11 el6 ol6)
  have eb:[V.int 3] ++ (List.replicate M (6:Int)).map V.int ++ [V.int 2]=(bsz M).map V.int:=by
   unfold bsz
   rw [List.map_append,List.map_append]; rfl
  rw [eb] at el6
  refine ⟨z7,7,l6,bsz M,rfl,by decide,by decide,el6,by rw [bsz_len]; omega,bsz_pos,fun BR bs H12 S12 gB eB blB=>?_⟩
  have S5C:Same H5 H12:=(((((S6.trans S7).trans S8).trans S9).trans S10).trans S11).trans S12
  have S0C:=S05.trans S5C
  have S2C:=S25.trans S5C
  have hSC:=S5C _ _ hS5
  have hDC:=S5C _ _ hD5
  have rowsC:=rows.kp (Kp.same S5C)
  have sqB:∀{H':Hp},Same H12 H'→SqL K H' BR (bs.map V.int):=fun s=>SqL.of (s _ _ eB)
  obtain ⟨b0,hb0,_,_⟩:=blB.at (i:=0) (s:=3) rfl
  have fin:∀(t F G:Addr) (fs ps:List Str) (H':Hp),Same H12 H'→H' t=some (.tup [.ref S,.ref F,.ref G,.int (1 + d1)])→H' F=some (.lst (txs fs))→H' G=some (.lst (txs ps))→fs.Nodup→(∀f∈fs,f∈sgs cs)→ps.Nodup→(∀x∈ps,x∈prs (sgs cs))→Q (.ref t) H':=fun t F G fs ps H' s ht hF hG fnd fsub pnd psub=>
   q t cs fs ps (1 + d1) H' (S0C.trans s) ⟨⟨S,F,G,xs,ht,s _ _ hSC,rowsC.kp (Kp.same s),hF,hG⟩,nd,by omega,by omega,fnd,fsub,pnd,psub,by omega,by omega⟩
  refine ⟨_,rfl,BR,_,_,_,rfl,rfl,sqB (Same.refl _),atInts hb0 rfl,rfl,_,rfl,?_⟩
  refine ite2 (fun _=>?_) (fun _=>?_)
  ·refine ⟨_,rfl,Nat.zero_le _,?_⟩
   (intro F gF; generalize hEq:upd _ F _=H13; refine newC hEq gF ?_; clear hEq; intro S13 eF oF)
   refine ⟨Nat.zero_le _,?_⟩
   (intro G gG; generalize hEq:upd _ G _=H14; refine newC hEq gG ?_; clear hEq; intro S14 eG oG)
   refine ⟨_,rfl,R,_,_,_,rfl,rfl,sqR ((S2C.trans S13).trans S14),atInts h1 rfl,_,_,rfl,rfl,by show 4≤sizeLine; decide,?_⟩
   (intro t gt; generalize hEq:upd _ t _=H15; refine newC hEq gt ?_; clear hEq; intro S15 et ot)
   exact fin t F G [] [] H15 ((S13.trans S14).trans S15) et (S15 _ _ (S14 _ _ eF)) (S15 _ _ eG) List.nodup_nil nofun List.nodup_nil nofun
  refine ⟨_,rfl,D,rfl,⟨_,SqL.of hDC⟩,?_⟩
  (intro F gF; generalize hEq:upd _ F _=H13; refine newC hEq gF ?_; clear hEq; intro S13 eF oF)
  refine lr_enum (K:=K) (S:=D) (xs:=txs (sgs cs)) (fun i σ H'=>(∃v v',σ=[v,v',some (.ref BR)])∧Same H12 H'∧∃fs,H' F=some (.lst (txs fs))∧fs.Sublist (sgs (cs.take i))) ⟨⟨_,_,rfl⟩,S13,[],eF,List.nil_sublist _⟩ (fun i σ H' p=>SqL.of (p.2.1 _ _ hDC)) ?_ ?_
  ·rintro i x t σ H' C hi ⟨⟨v,v',rfl⟩,k2,fs,hF,sub⟩ gt nx
   obtain ⟨c,hc,rfl⟩:=at_sg hi
   have il:=(List.getElem?_eq_some_iff.mp hc).1
   have S2':=same_upd (o:=.tup [.int i,.str (sg1 c)]) gt
   have et:upd H' t (.tup [.int i,.str (sg1 c)]) t=some (.tup [.int i,.str (sg1 c)]):=upd_same
   generalize upd H' t (.tup [.int i,.str (sg1 c)])=H'' at S2' et
   have k3:=k2.trans S2'
   have hF2:=S2' _ _ hF
   obtain ⟨bi,hbi,_,_⟩:=blB.at (bsz_at (m:=M) (i:=i) (by omega))
   have snoc:sgs (cs.take (i + 1))=sgs (cs.take i) ++ [sg1 c]:=by
    rw [List.take_add_one,hc]; unfold sgs; rw [List.map_append]; rfl
   refine ⟨t,_,rfl,SqT.of et,rfl,_,_,rfl,_,_,rfl,rfl,?_⟩
   refine ⟨_,rfl,_,rfl,_,_,rfl,rfl,BR,_,_,_,rfl,rfl,sqB k3,atInts hbi (by push_cast; rfl),rfl,_,rfl,?_⟩
   refine ite2 (fun _=>⟨_,rfl,_,hF2,?_,nx _ _ ⟨⟨_,_,rfl⟩,fun b o e=>?_,fs ++ [sg1 c],?_,?_⟩⟩) (fun _=>nx _ _ ⟨⟨_,_,rfl⟩,k3,fs,hF2,?_⟩)
   ·rw [txs_len]
    have:=sub.length_le
    unfold sgs at this
    rw [List.length_map,List.length_take] at this
    exact sl (show fs.length < 100 by omega)
   ·rw [upd_ne (ne_of_none e gF)]; exact k3 _ _ e
   ·rw [txs_app]; exact upd_same
   ·rw [snoc]; exact List.Sublist.append sub (List.Sublist.refl _)
   ·rw [snoc]; exact sub.trans (List.sublist_append_left _ _)
  rintro σ9 H14 ⟨_,S14,fs,hF14,sub⟩
  rw [tl,show cs.take n=cs by rw [← cl,List.take_length]] at sub
  have sn:(sgs cs).Nodup:=sgs_nodup.mpr nd
  have fnd:fs.Nodup:=sub.nodup sn
  have fsub:∀f∈fs,f∈sgs cs:=fun f hf=>sub.subset hf
  refine ⟨Nat.zero_le _,?_⟩
  (intro G gG; generalize hEq:upd _ G _=H15; refine newC hEq gG ?_; clear hEq; intro S15 eG oG)
  have hDF:=S15 _ _ (S14 _ _ hDC)
  refine ⟨_,rfl,_,rfl,_,_,rfl,rfl,.inl ⟨by omega,by omega⟩,_,rfl,by rw [eM2]; omega,by rw [eM2]; omega,?_⟩
  obtain ⟨pr,hpr⟩:∃pr:Nat→Str,∀i,i < n * n→∃c1 c2,cs[i / n]? = some c1∧cs[i % n]? = some c2∧pr i=sg1 c1 ++ sg1 c2:=by
   refine ⟨fun i=>sg1 (cs.getD (i / n) 0) ++ sg1 (cs.getD (i % n) 0),fun i hi=>?_⟩
   have l1:i / n < cs.length:=by rw [cl]; exact Nat.div_lt_of_lt_mul hi
   have l2:i % n < cs.length:=by rw [cl]; exact Nat.mod_lt _ (by omega)
   refine ⟨cs[i / n],cs[i % n],List.getElem?_eq_getElem l1,List.getElem?_eq_getElem l2,?_⟩
   show sg1 (cs.getD (i / n) 0) ++ sg1 (cs.getD (i % n) 0)=_
   rw [List.getD_eq_getElem?_getD,List.getD_eq_getElem?_getD,List.getElem?_eq_getElem l1,List.getElem?_eq_getElem l2]; rfl
  have prinj:∀i j,i < n * n→j < n * n→pr i=pr j→i=j:=fun i j hi hj e=>by
   obtain ⟨a1,a2,x1,x2,x3⟩:=hpr i hi
   obtain ⟨c1,c2,y1,y2,y3⟩:=hpr j hj
   rw [x3,y3] at e
   obtain ⟨z1,z2⟩:=sg2_inj e
   subst z1 z2
   have q1:=(List.getElem?_inj (by rw [cl]; exact Nat.div_lt_of_lt_mul hi) nd).mp (x1.trans y1.symm)
   have q2:=(List.getElem?_inj (by rw [cl]; exact Nat.mod_lt _ (by omega)) nd).mp (x2.trans y2.symm)
   rw [← Nat.div_add_mod i n,← Nat.div_add_mod j n,q1,q2]
  have prin:∀i,i < n * n→pr i∈prs (sgs cs):=fun i hi=>by
   obtain ⟨a1,a2,x1,x2,x3⟩:=hpr i hi
   rw [x3]
   unfold prs sgs
   exact List.mem_flatMap.mpr ⟨_,List.mem_map.mpr ⟨a1,List.mem_of_getElem? x1,rfl⟩,List.mem_map.mpr ⟨_,List.mem_map.mpr ⟨a2,List.mem_of_getElem? x2,rfl⟩,rfl⟩⟩
  have nN:((2 + (e0:Int)) * (2 + (e0:Int))).toNat=n * n:=by rw [eM2,Int.toNat_natCast]
  refine for_range (lo:=0) (n:=((2 + (e0:Int)) * (2 + (e0:Int))).toNat) (fun i σ H'=>(∃v7,σ=[some (.ref a),some (.int m),some (.int k),some (.ref R),some (.int (2 + (e0:Int))),some (.ref D),some (.ref S),v7,v8,some (.ref BR),some (.ref F),some (.ref G)])∧Same H14 H'∧∃ps,H' G=some (.lst (txs ps))∧ps.Nodup∧(∀x∈ps,∃i',i' < i∧x=pr i')∧ps.length≤i)
   ⟨⟨_,rfl⟩,S15,[],eG,List.nodup_nil,nofun,Nat.le_refl _⟩ ?_ ?_
  ·rw [nN]
   rintro i σ H' hi ⟨⟨v7,rfl⟩,k2,ps,hG,pnd,psub,pl⟩
   rw [show (0:Int) + (i:Int)=(i:Int) from Int.zero_add _]
   have k12:=S14.trans k2
   have hD':=k2 _ _ (S14 _ _ hDC)
   obtain ⟨bi,hbi,_,_⟩:=blB.at (bsz_at (m:=M) (i:=n + i) (by omega))
   refine ⟨_,rfl,_,rfl,_,_,rfl,rfl,_,rfl,_,_,rfl,rfl,BR,_,_,_,rfl,rfl,sqB k12,atInts hbi (by push_cast; omega),rfl,_,rfl,?_⟩
   refine ite2 (fun _=>?_) (fun _=>⟨⟨_,rfl⟩,k2,ps,hG,pnd,(fun x hx=>by obtain ⟨i',h1,h2⟩:=psub x hx; exact ⟨i',by omega,h2⟩),by omega⟩)
   obtain ⟨c1,c2,x1,x2,x3⟩:=hpr i hi
   have at1:atI (txs (sgs cs)) ((i:Int) / (2 + (e0:Int)))=some (.str (sg1 c1)):=by
    rw [en,← Int.natCast_ediv]
    exact atI_nat (txs_at (by unfold sgs; rw [List.getElem?_map,x1]; rfl))
   have at2:atI (txs (sgs cs)) ((i:Int) % (2 + (e0:Int)))=some (.str (sg1 c2)):=by
    rw [en,← Int.natCast_emod]
    exact atI_nat (txs_at (by unfold sgs; rw [List.getElem?_map,x2]; rfl))
   refine ⟨_,rfl,.inl ⟨rfl,_,SqL.of hG⟩,_,rfl,_,rfl,_,rfl,_,_,rfl,rfl,(by first | omega | exact ⟨by omega,by omega⟩),D,_,_,_,rfl,rfl,SqL.of hD',at1,_,rfl,_,rfl,_,rfl,_,_,rfl,rfl,(by show (0:Int) < 2 + (e0:Int); omega),D,_,_,_,rfl,rfl,SqL.of hD',at2,_,_,rfl,rfl,by show 1 + 1≤sizeLine; decide,G,_,_,rfl,rfl,hG,?_,⟨_,rfl⟩,fun b o e=>?_,ps ++ [pr i],?_,?_,fun x hx=>?_,by rw [List.length_append]; simp; omega⟩
   ·rw [txs_len]; exact sl (show ps.length < 100 by omega)
   ·rw [upd_ne (ne_of_none e gG)]; exact k2 _ _ e
   ·rw [x3,txs_app]; exact upd_same
   ·refine List.nodup_append.mpr ⟨pnd,by simp,fun x hx y hy e=>?_⟩
    rw [List.mem_singleton.mp hy] at e
    obtain ⟨i',h1,h2⟩:=psub x hx
    have:=prinj i' i (by omega) hi (h2 ▸ e)
    omega
   ·rcases List.mem_append.mp hx with hx | hx
    ·obtain ⟨i',h1,h2⟩:=psub x hx
     exact ⟨i',by omega,h2⟩
    ·exact ⟨i,by omega,List.mem_singleton.mp hx⟩
  rintro σ H16 ⟨⟨v7,rfl⟩,S16,ps,hG16,pnd,psub,pl⟩
  rw [nN] at psub
  have pin:∀x∈ps,x∈prs (sgs cs):=fun x hx=>by
   obtain ⟨i',h1,h2⟩:=psub x hx
   rw [h2]; exact prin i' h1
  have S12F:=S14.trans S16
  have hF16:=S16 _ _ hF14
  obtain ⟨bl',hbl,_,_⟩:=blB.at (bsz_last (m:=M))
  have bl2:(bs.map V.int).length=M + 1 + 1:=by rw [List.length_map,blB.1,bsz_len]
  refine ⟨_,rfl,_,rfl,BR,_,_,_,rfl,rfl,sqB S12F,rev_at bl2 (by rw [List.getElem?_map,hbl]; rfl),rfl,_,rfl,?_⟩
  refine ite2 (fun _=>?_) (fun _=>?_)
  ·refine ⟨_,rfl,_,rfl,F,_,rfl,SqL.of hF16,?_⟩
   (intro F2 gF2; generalize hEq:upd _ F2 _=H17; refine newC hEq gF2 ?_; clear hEq; intro S17 eF2 oF2)
   refine ⟨_,rfl,G,_,rfl,SqL.of (S17 _ _ hG16),?_⟩
   (intro G2 gG2; generalize hEq:upd _ G2 _=H18; refine newC hEq gG2 ?_; clear hEq; intro S18 eG2 oG2)
   rw [show (txs fs).reverse=txs fs.reverse by unfold txs; rw [List.map_reverse]] at eF2
   rw [show (txs ps).reverse=txs ps.reverse by unfold txs; rw [List.map_reverse]] at eG2
   refine ⟨_,rfl,R,_,_,_,rfl,rfl,sqR (S2C.trans ((S12F.trans S17).trans S18)),atInts h1 rfl,_,_,rfl,rfl,by show 4≤sizeLine; decide,?_⟩
   (intro t gt; generalize hEq:upd _ t _=H19; refine newC hEq gt ?_; clear hEq; intro S19 et ot)
   exact fin t F2 G2 _ _ H19 (((S12F.trans S17).trans S18).trans S19) et (S19 _ _ (S18 _ _ eF2)) (S19 _ _ eG2) ((List.reverse_perm fs).nodup_iff.mpr fnd) (fun f hf=>fsub f (List.mem_reverse.mp hf)) ((List.reverse_perm ps).nodup_iff.mpr pnd) (fun f hf=>pin f (List.mem_reverse.mp hf))
  ·refine ⟨_,rfl,_,rfl,_,rfl,_,rfl,R,_,_,_,rfl,rfl,sqR (S2C.trans S12F),atInts h1 rfl,_,_,rfl,rfl,by show 4≤sizeLine; decide,?_⟩
   (intro t gt; generalize hEq:upd _ t _=H19; refine newC hEq gt ?_; clear hEq; intro S19 et ot)
   exact fin t F G _ _ H19 (S12F.trans S19) et (S19 _ _ hF16) (S19 _ _ hG16) fnd fsub pnd pin
end
theorem all_true (n:Nat):(List.range n).all (fun _=>true)=true:=by simp
theorem eqt_lst {K:PySem.W.Frag} {H:Hp} {n:Nat} {a c:Addr} {xs ys:List V} (ha:SqL K H a xs) (hc:SqL K H c ys) (l:xs.length=ys.length) (h:∀(j:Nat) (x y:V),xs[j]? = some x→ys[j]? = some y→EqD K H n x y true):TopR K H (EqD K H n) (.ref a) (.ref c) true:=by
 have:=TopR.lsts (R:=EqD K H n) (fun _=>true) ha hc l h
 rw [all_true] at this; exact this
theorem eqt_tup {K:PySem.W.Frag} {H:Hp} {n:Nat} {a c:Addr} {xs ys:List V} (ha:SqT K H a xs) (hc:SqT K H c ys) (l:xs.length=ys.length) (h:∀(j:Nat) (x y:V),xs[j]? = some x→ys[j]? = some y→EqD K H n x y true):TopR K H (EqD K H n) (.ref a) (.ref c) true:=by
 have:=TopR.tups (R:=EqD K H n) (fun _=>true) ha hc h
 rw [all_true,l] at this
 simpa using this
theorem eqt_up {K:PySem.W.Frag} {H:Hp} {n:Nat} {a c:Addr} (h:TopR K H (EqD K H n) (.ref a) (.ref c) true):EqD K H (n + 1) (.ref a) (.ref c) true:=by
 by_cases e:a=c
 ·subst e; exact .inl (.inr ⟨a,rfl,rfl,rfl⟩)
 ·exact .inr ⟨a,c,rfl,rfl,e,h⟩
theorem eqt_flat {K:PySem.W.Frag} {H:Hp} {x:V} (f:flatV x=true):∀(n:Nat),EqD K H n x x true:=fun n=>by
 have e:eqV x x=true:=by
  cases x with
  | _=>first | (cases f; done) | simp [eqV]
 cases n with
 | zero=>exact .inl ⟨f,f,e.symm⟩
 | succ n=>exact .inl (.inl ⟨f,f,e.symm⟩)
theorem eqt_ref {K:PySem.W.Frag} {H:Hp} {a:Addr}:∀(n:Nat),EqD K H n (.ref a) (.ref a) true:=fun n=>by
 cases n with
 | zero=>exact .inr ⟨a,rfl,rfl,rfl⟩
 | succ n=>exact .inl (.inr ⟨a,rfl,rfl,rfl⟩)
theorem txs_flatM {ts:List Str}:∀y∈txs ts,flatV y=true:=fun y hy=>by
 obtain ⟨z,_,rfl⟩:=List.mem_map.mp hy
 rfl
theorem eqt_same {K:PySem.W.Frag} {H:Hp} {n:Nat} {a c:Addr} {xs:List V} (ha:SqL K H a xs) (hc:SqL K H c xs) (f:∀y∈xs,flatV y=true∨∃r,y = .ref r):TopR K H (EqD K H n) (.ref a) (.ref c) true:=
 eqt_lst ha hc rfl fun j x y hx hy=>by
  rw [hx] at hy; cases hy
  rcases f x (List.mem_of_getElem? hx) with f | ⟨r,rfl⟩
  ·exact eqt_flat f n
  ·exact eqt_ref n
def NewL (H:Hp) (l:Addr):Prop:=∀o,H l=some o→∃ps,o = .tbl ps
theorem NewL.of {H H1:Hp} {l:Addr} (k:Kp H H1) (g:H1 l=none):NewL H l:=fun o e=>Classical.byContradiction fun n=>by
 have:=k _ _ e fun ps z=>n ⟨ps,z⟩
 rw [g] at this; cases this
section
variable {P:Program} {w:World} {K:PySem.W.Frag} {mg:Str→Option Value} {base:Heap}
def spCopyT (K:PySem.W.Frag):Sp:=fun vs H Q _=>∃(t S F Pp:Addr) (lg:V) (xs fs ps:List V),vs=[.ref t]∧H t=some (.tup [.ref S,.ref F,.ref Pp,lg])∧H S=some (.lst xs)∧H F=some (.lst fs)∧H Pp=some (.lst ps)∧
 ∀u S' F' P' H',H u=none→H S'=none→H F'=none→H P'=none→H' u=some (.tup [.ref S',.ref F',.ref P',lg])→H' S'=some (.lst xs)→H' F'=some (.lst fs)→H' P'=some (.lst ps)→Same H H'→Q (.ref u) H'
theorem scCpT:FnScope ["_law_tongue_here"] ["_law_tongue_here"] (defScope sCopy):=⟨rfl,rfl,rfl,by decide +kernel,rfl,by decide +kernel,by decide +kernel⟩
theorem ok_copyT {f:Addr} {fd:FuncData} (F:FunG K "_law_copy" "_law_copy" sCopy .none f fd) (B:Bl mg):FnOk P w K mg base (CXE P w) 1 f fd ["_law_tongue_here"] (spCopyT K):=by
 refine F.zokN scCpT (fun vs H Q E h=>?_) (fun cdv A outer s H vs Q E hr h=>?_)
 ·obtain ⟨t,S,F',Pp,lg,xs,fs,ps,rfl,_⟩:=h
  rfl
 ·obtain ⟨t,S,F',Pp,lg,xs,fs,ps,rfl,ht,hS,hF,hP,q⟩:=h
  refine ⟨_,(zpss_one (zps_ret (zpe_tup (zpac_f (zpe_callTy call_list_of (by rfl) B.list boot_list (zpac_s (zpe_ix ix_tup (zpv 0) zpe_int (fun _ _=>rfl)) zpa_nil)) (zpac_f (zpe_callTy call_list_of (by rfl) B.list boot_list (zpac_s (zpe_ix ix_tup (zpv 0) zpe_int (fun _ _=>rfl)) zpa_nil))
    (zpac_f (zpe_callTy call_list_of (by rfl) B.list boot_list (zpac_s (zpe_ix ix_tup (zpv 0) zpe_int (fun _ _=>rfl)) zpa_nil)) (zpac_s (zpe_ix ix_tup (zpv 0) zpe_int (fun _ _=>rfl)) zpa_nil))))))),?_⟩
  refine ⟨_,rfl,t,_,_,_,rfl,rfl,SqT.of ht,rfl,S,_,rfl,.inl (SqL.of hS),fun l1 h1=>?_⟩
  have s1:=same_upd (o:=.lst xs) h1
  refine ⟨_,rfl,t,_,_,_,rfl,rfl,SqT.of (s1 _ _ ht),rfl,F',_,rfl,.inl (SqL.of (s1 _ _ hF)),fun l2 h2=>?_⟩
  have s2:=same_upd (o:=.lst fs) h2
  have S2:=s1.trans s2
  refine ⟨_,rfl,t,_,_,_,rfl,rfl,SqT.of (S2 _ _ ht),rfl,Pp,_,rfl,.inl (SqL.of (S2 _ _ hP)),fun l3 h3=>?_⟩
  have s3:=same_upd (o:=.lst ps) h3
  have S3:=S2.trans s3
  refine ⟨_,rfl,t,_,_,_,rfl,rfl,SqT.of (S3 _ _ ht),rfl,by show 4≤sizeLine; decide,fun u hu=>?_⟩
  have s4:=same_upd (o:=.tup [.ref l1,.ref l2,.ref l3,lg]) hu
  have back:∀{G:Hp} {l:Addr},Same H G→G l=none→H l=none:=fun {G l} s n=>by
   cases e:H l with
   | none=>rfl
   | some o=>
    have:=s l o e
    rw [n] at this; cases this
  exact q u l1 l2 l3 _ (back S3 hu) h1 (back s1 h2) (back S2 h3) upd_same (s4 _ _ (s3 _ _ (s2 _ _ upd_same))) (s4 _ _ (s3 _ _ upd_same)) (s4 _ _ upd_same) (S3.trans s4)
end
end G1
namespace L2
open PySem PySem.Spec PyProof.Rows
structure Other (K:PySem.W.Frag) (CN C:Addr):Prop where
 no:PySem.W.mroIn K CN (.ref C)=some false
 hd:PySem.W.hasDictIn K C=true
 ty:PySem.W.typeIn K (.ref C)=some (.type "type")
theorem Other.one {K:PySem.W.Frag} {CN C:Addr} (self:PySem.W.mroIn K CN (.ref CN)=some true) (o:Other K CN C):PySem.W.kitOne K (.ref CN) (.ref C)=some false:=by
 have ne:¬((Value.ref CN == Value.ref C)=true):=fun z=>by
  have e:CN=C:=Value.ref.inj (beq_iff_eq.mp z)
  have h:=o.no
  rw [← e,self] at h
  cases h
 obtain ⟨cd,q,_⟩:=PySem.W.any_some o.hd
 unfold PySem.W.kitOne
 rw [if_neg ne]
 show (if ((PySem.W.clsIn K C).isSome && PySem.W.typeIn K (.ref C) == some (.type "type"))=true then PySem.W.subIn K (.ref CN) (.ref C) else none)=some false
 rw [if_pos (by rw [q,o.ty]; simp)]
 exact o.no
theorem Other.all {K:PySem.W.Frag} {CN:Addr} (self:PySem.W.mroIn K CN (.ref CN)=some true):∀{cs:List Addr},(∀C∈cs,Other K CN C)→PySem.W.kitAny K (.ref CN) (cs.map Value.ref)=some false
 | [],_=>rfl
 | c :: cs,h=>by
  show (match PySem.W.kitOne K (.ref CN) (.ref c) with | some true=>some true | some false=>PySem.W.kitAny K (.ref CN) (cs.map Value.ref) | none=>none)=some false
  rw [(h c (by simp)).one self]
  exact Other.all self fun C hC=>h C (by simp [hC])
theorem kit_self {K:PySem.W.Frag} {C:Addr}:PySem.W.kitOne K (.ref C) (.ref C)=some true:=by
 unfold PySem.W.kitOne
 rw [if_pos (by simp)]
theorem kit_type {K:PySem.W.Frag} {C:Addr} (h:PySem.W.mroIn K C (.type "ValueError")=some true):PySem.W.kitOne K (.ref C) (.type "ValueError")=some true:=by
 unfold PySem.W.kitOne
 rw [if_neg (by simp)]
 show (if PySem.W.kitMeta "ValueError" = true then PySem.W.subIn K (.ref C) (.type "ValueError") else none)=some true
 rw [if_pos (by decide +kernel)]
 exact h
theorem boot_ve:bootBuiltins "ValueError" = some (.type "ValueError"):=by decide +kernel
theorem zpsx_if {X:Cx} {c:Expr} {a b:List Stmt} {pos:Pos} {tc:TT} {ta tb:TSX} (hc:SPT X.nox c tc) (ha:SPSX X a ta) (hb:SPSX X b tb) :
  SPSX X [.If c a b pos] (fun D E σ H=>tc σ H fun d H1=>if d=true then ta D E σ H1 else tb D E σ H1):=⟨psx_if hc.out ha.out hb.out⟩
theorem zpe_xdK {X:Cx} {o:Expr} {f:Str} {pos:Pos} {ta:TE} (K:PySem.W.Frag) (hK:X.K=K) (he:SPE X o ta) (hb:attributeBase o f X.env (eval o X.env)=eval o X.env:=by rfl):SPE X (.Attribute o f pos) (tXd K ta f):=hK ▸ zpe_xd he hb
theorem zpe_bmK {X:Cx} {e o:Expr} {es:List Expr} {to:TE} {t:TA} {name:Str} {apos cpos:Pos} {T id:String} {r:V→List V→Hp→VK→Prop} (K:PySem.W.Frag) (hK:X.K=K) (pa:PlainAttrs T) (slot:Slot T name id) (hty:typeOf (.builtin id)=pure (.type "method_descriptor")) (hm:MtR X id r) (ho:SPE X o to) (ha:SPA X (e :: es) t) (hbase:attributeBase o name X.env (eval o X.env)=eval o X.env:=by rfl) (hfew:((backTo cpos (starEach (e :: es) X.env)).all (fun x=>!x.1) && (backToKw cpos (keywordEach [] X.env)).all (fun x=>x.1.isSome)
   && decide ((e :: es).length + ([]:List Keyword).length + (if ([]:List Keyword).isEmpty then 0 else 1) < 30))=true:=by rfl) (hline:(apos.endLine == cpos.line)=true:=by rfl) (hs:starEach (e :: es) X.env=(false,eval e X.env) :: starEach es X.env:=by rfl) (hplain:(backTo cpos (starEach es X.env)).any (·.1)=false:=by rfl):SPE X (.Call (.Attribute o name apos) (e :: es) [] cpos) (tBM K T r to t):=by
 subst hK
 exact zpe_bm pa slot hty hm ho ha hbase hfew hline hs hplain
end L2
namespace G1
open PySem L2 GM
theorem flat_th {H:Hp} {v:V} (f:flatV v=true):Th H v:=by
 cases v with
 | non=>exact .non
 | bl b=>exact .bl b
 | int i=>exact .int i
 | str z=>exact .str z
 | _=>cases f
theorem cut_to (xs:List V) (k:Nat):cutV xs none (some (k:Int))=xs.take k:=by
 unfold cutV
 rw [HT.sIx_nat,HT.sIx_none,List.drop_zero,Nat.sub_zero]
 by_cases h:k≤xs.length
 ·rw [Nat.min_eq_left h]
 ·rw [Nat.min_eq_right (by omega),List.take_of_length_le (by omega),List.take_of_length_le (by omega)]
theorem cut_from (xs:List V) (k:Nat):cutV xs (some (k:Int)) none=xs.drop k:=by
 unfold cutV
 rw [HT.sIx_nat,HT.sIx_none,List.take_of_length_le (by rw [List.length_drop]; omega)]
 by_cases h:k≤xs.length
 ·rw [Nat.min_eq_left h]
 ·rw [Nat.min_eq_right (by omega),List.drop_of_length_le (by omega),List.drop_of_length_le (by omega)]
theorem th_one {H:Hp} {x:V} (f:flatV x=true) (nf:∀z,x≠.str z):ThD H x:=
 ⟨flat_th f,fun a xs e=>(by rw [e] at f; cases f),fun a n d e=>(by rw [e] at f; cases f),fun z e=>absurd e (nf z)⟩
theorem th_frac {H:Hp} {a:Addr} {n d:Int} (h:H a=some (.tup [.int n,.int d])) (d1:d.natAbs < big):ThD H (.ref a):=by
 refine ⟨.tup h,fun b xs e hb y hy=>?_,fun b n' d' e hb=>?_,nofun⟩
 ·cases e
  rw [h] at hb; cases hb
  rcases List.mem_cons.mp hy with rfl | hy
  ·exact .int _
  ·rw [List.mem_singleton.mp hy]; exact .int _
 ·cases e
  rw [h] at hb; cases hb
  exact d1
structure Cl (K:PySem.W.Frag) (mg:Str→Option Value) (c:List Addr):Prop where
 len:c.length=15
 dear:mg "DearError" = some (.ref (c.getD 0 0))
 c1:mg "NoTurn" = some (.ref (c.getD 1 0))
 c2:mg "NoBook" = some (.ref (c.getD 2 0))
 c3:mg "NoTongue" = some (.ref (c.getD 3 0))
 c4:mg "NoWants" = some (.ref (c.getD 4 0))
 c5:mg "NoTree" = some (.ref (c.getD 5 0))
 c6:mg "TooMany" = some (.ref (c.getD 6 0))
 c7:mg "NoUndo" = some (.ref (c.getD 7 0))
 c8:mg "NoCount" = some (.ref (c.getD 8 0))
 c9:mg "NoNumber" = some (.ref (c.getD 9 0))
 c10:mg "NoRow" = some (.ref (c.getD 10 0))
 c11:mg "NoText" = some (.ref (c.getD 11 0))
 c12:mg "Unknown" = some (.ref (c.getD 12 0))
 c13:mg "NoThing" = some (.ref (c.getD 13 0))
 c14:mg "BadSign" = some (.ref (c.getD 14 0))
 exc:ExcK K (c.getD 1 0)
 cls:ClsX K (c.getD 1 0)
 self:PySem.W.mroIn K (c.getD 1 0) (.ref (c.getD 1 0))=some true
 ve:PySem.W.mroIn K (c.getD 1 0) (.type "ValueError")=some true
 up:PySem.W.mroIn K (c.getD 1 0) (.ref (c.getD 0 0))=some true
 catch_:CatchK K (c.getD 0 0)
 oth:∀i,2≤i→i < 15→Other K (c.getD 1 0) (c.getD i 0)
 tcls:ClsX K (c.getD 3 0)
 tself:PySem.W.mroIn K (c.getD 3 0) (.ref (c.getD 3 0))=some true
 tcatch:CatchK K (c.getD 3 0)
 part:PySem.W.findIn K (.ref (c.getD 3 0)) "part" = some none
section
variable {P:Program} {w:World} {K:PySem.W.Frag} {mg:Str→Option Value} {base:Heap} {c:List Addr}
def spNoTurn (CN:Addr):Sp:=fun vs H Q _=>∃e,vs=[.ref e]∧H e=some (ExcO CN e)∧∀H',Same H H'→Q (.bl true) H'
theorem scNt:FnScope ["_law_kept","_law_others"] ["_law_kept"] (defScope sNoTurn):=⟨rfl,rfl,rfl,by decide +kernel,rfl,by decide +kernel,by decide +kernel⟩
theorem ok_noTurn {f:Addr} {fd:FuncData} (F:FunG K "_law_is_no_turn" "_law_is_no_turn" sNoTurn .none f fd) (B:Bl mg) (hve:mg "ValueError" = none) (C:Cl K mg c):FnOk P w K mg base (CXE P w) 1 f fd ["_law_kept"] (spNoTurn (c.getD 1 0)):=by
 refine F.zokN scNt (fun vs H Q E h=>?_) (fun cdv A outer s H vs Q E hr h=>?_)
 ·obtain ⟨e,rfl,_⟩:=h
  rfl
 ·obtain ⟨e,rfl,he,q⟩:=h
  have ty:∀{H':Hp},Same H H'→TyX K H' (.ref e) (.ref (c.getD 1 0)):=fun s=>.exc (s _ _ he) C.cls
  refine ⟨_,(zpss_cons (zps_if (SPW.pt (zpw_or (zpt_not (zpt_val (zpe_callB call_isi (by rfl) B.isi boot_isi (zpac_n (zpv 0) (zpac_n (zpe_glob (by rfl) C.c1 (v:=.ref _) rfl) zpa_nil))))) (zpw_or1 (zpt_not (zpt_val (zpe_callB call_isi (by rfl) B.isi boot_isi (zpac_n (zpv 0) (zpac_n (zpe_bltn (by rfl) hve boot_ve (v:=.ty "ValueError") rfl) zpa_nil)))))))) (zpss_one (zps_ret zpe_bl)) zpss_nil)
   (zpss_cons (zps_set (i:=1) scNt.nd rfl (Or.inl rfl) (zpe_callB call_isi (by rfl) B.isi boot_isi (zpac_n (zpv 0) (zpac_t (zpe_tup (zpac_n (zpe_glob (by rfl) C.c2 (v:=.ref _) rfl) (zpac_n (zpe_glob (by rfl) C.c3 (v:=.ref _) rfl) (zpac_n (zpe_glob (by rfl) C.c4 (v:=.ref _) rfl) (zpac_n (zpe_glob (by rfl) C.c5 (v:=.ref _) rfl) (zpac_n (zpe_glob (by rfl) C.c6 (v:=.ref _) rfl) (zpac_n (zpe_glob (by rfl) C.c7 (v:=.ref _) rfl) (zpac_n (zpe_glob (by rfl) C.c8 (v:=.ref _) rfl) (zpac_n (zpe_glob (by rfl) C.c9 (v:=.ref _) rfl) (zpac_n (zpe_glob (by rfl) C.c10 (v:=.ref _) rfl) (zpac_n (zpe_glob (by rfl) C.c11 (v:=.ref _) rfl) zpa_nil))))))))))) zpa_nil))))
   (zpss_one (zps_ret (zpe_and (zpe_not (zpv 1)) (zpe_one (zpe_not (zpe_callB call_isi (by rfl) B.isi boot_isi (zpac_n (zpv 0) (zpac_t (zpe_tup (zpac_n (zpe_glob (by rfl) C.c12 (v:=.ref _) rfl) (zpac_n (zpe_glob (by rfl) C.c13 (v:=.ref _) rfl) (zpac_n (zpe_glob (by rfl) C.c14 (v:=.ref _) rfl) zpa_nil)))) zpa_nil)))))))))),?_⟩
  have s0:Same H H:=Same.refl _
  refine ⟨_,rfl,_,_,_,true,rfl,ty s0,.inl ⟨_,rfl,kit_self⟩,_,rfl,?_⟩
  refine iteF ⟨_,rfl,_,_,_,true,rfl,ty s0,.inl ⟨_,rfl,kit_type C.ve⟩,_,rfl,?_⟩
  refine iteF ?_
  refine ⟨_,rfl,by show 10≤sizeLine; decide,fun t ht=>?_⟩
  have s1:=same_upd (o:=.tup [.ref (c.getD 2 0),.ref (c.getD 3 0),.ref (c.getD 4 0),.ref (c.getD 5 0),.ref (c.getD 6 0),.ref (c.getD 7 0),.ref (c.getD 8 0),.ref (c.getD 9 0),.ref (c.getD 10 0),.ref (c.getD 11 0)]) ht
  refine ⟨_,_,_,false,rfl,ty s1,.inr ⟨t,_,[2,3,4,5,6,7,8,9,10,11].map (fun i=>Value.ref (c.getD i 0)),rfl,SqT.of upd_same,rfl,?_⟩,?_⟩
  ·exact Other.all (cs:=[2,3,4,5,6,7,8,9,10,11].map (fun i=>c.getD i 0)) C.self fun a ha=>by
    obtain ⟨i,hi,rfl⟩:=List.mem_map.mp ha
    exact C.oth i (by simp at hi; omega) (by simp at hi; omega)
  refine ⟨_,rfl,_,rfl,true,rfl,iteT ⟨_,rfl,by show 3≤sizeLine; decide,fun t2 ht2=>?_⟩⟩
  have s2:=s1.trans (same_upd (o:=.tup [.ref (c.getD 12 0),.ref (c.getD 13 0),.ref (c.getD 14 0)]) ht2)
  refine ⟨_,_,_,false,rfl,ty s2,.inr ⟨t2,_,[12,13,14].map (fun i=>Value.ref (c.getD i 0)),rfl,SqT.of upd_same,rfl,?_⟩,_,rfl,q _ s2⟩
  exact Other.all (cs:=[12,13,14].map (fun i=>c.getD i 0)) C.self fun a ha=>by
   obtain ⟨i,hi,rfl⟩:=List.mem_map.mp ha
   exact C.oth i (by simp at hi; omega) (by simp at hi; omega)
end
end G1
namespace L2
open PySem
end L2
namespace L2
open PySem PySem.Spec PyProof.Rows
def setAll (ts:List Str):List Str:=ts.foldl (fun s t=>insT t s) []
theorem setAll_snoc {ts:List Str} {i:Nat} {t:Str} (e:ts[i]? = some t):setAll (ts.take (i + 1))=insT t (setAll (ts.take i)):=by
 unfold setAll
 rw [List.take_add_one,e,List.foldl_append]; rfl
theorem insT_le (t:Str) (s:List Str):(insT t s).length≤s.length + 1:=by
 unfold insT
 split
 ·omega
 ·rw [List.length_append]; exact Nat.le_refl _
theorem setAll_le (ts:List Str):(setAll ts).length≤ts.length:=by
 have:∀(ts s:List Str),(ts.foldl (fun s t=>insT t s) s).length≤s.length + ts.length:=by
  intro ts
  induction ts with
  | nil=>intro s; simp
  | cons t ts ih=>
   intro s
   have a:=ih (insT t s)
   have b:=insT_le t s
   rw [List.foldl_cons,List.length_cons]
   omega
 have:=this ts []
 simpa [setAll] using this
section
variable {pr:Program} {wd:World} {Ar:Around} {Rs:Result→Shared→Prop} {J:Addr} {fo wo:List Addr} {Ge:Array GenState→Array GenState→Prop} {m:Nat} {Pv:Nat→Value→Prop} {Sa:Nat→Shared→Prop}
theorem turns_setT (Wk:WalksS pr wd Ar.in1 J fo wo Ge m Pv Sa) (D:Addr) (nf:D∉fo) (ts:List Str) (tl:ts.length=m) (item:∀i v,Pv i v→∃(t:Str) (k:Tok),ts[i]? = some t∧v = .str t k) (room:m + 1 < scanBound) :
  ∀(left i:Nat) (s:Shared),m - i=left→i≤m→Sa i s→s.heap.SetOf (mixKind pr wd) D (ssOf (setAll (ts.take i))) (setAll (ts.take i)).length→
   (∀s',Moved (D :: wo) Ge s s'→s'.heap.SetOf (mixKind pr wd) D (ssOf (setAll ts)) (setAll ts).length→Rs (.ok (.ret .none)) s')→
   codeAny (model pr wd) Ar (.builtin "set.update.loop" ⟨[.ref D,.ref J],[]⟩) Rs s:=by
 have nw:D∉wo:=fun h=>nf (Wk.sub _ h)
 have up:∀b∈wo,b∈D :: wo:=fun b h=>List.mem_cons_of_mem _ h
 intro left
 induction left with
 | zero=>
  intro i s hl hi sa so fin
  obtain rfl:i=m:=by omega
  rw [← tl,List.take_length] at so
  refine codeAny_builtin PyProof.Rows.F.entry_set_update_loop ?_
  rw [Around.under_plainId PyProof.Rows.F.plain_set_update_loop]
  show wpAny _ Ar.in1 (pyNext (.ref J) >>= _) _ _ _
  refine wpAny_bind (Wk.done s _ _ sa fun s2 mv=>?_)
  show wpAny _ _ (ret Value.none) _ _ _
  obtain ⟨o,es,ep,tb,ho,r⟩:=so
  exact wpAny_pure (fin s2 (mv.mono up) ⟨o,es,ep,tb,mv.heap D o nw ho,r⟩)
 | succ left ih=>
  intro i s hl hi sa so fin
  have il:i < m:=by omega
  refine codeAny_builtin PyProof.Rows.F.entry_set_update_loop ?_
  rw [Around.under_plainId PyProof.Rows.F.plain_set_update_loop]
  show wpAny _ Ar.in1 (pyNext (.ref J) >>= _) _ _ _
  refine wpAny_bind (Wk.item i s _ _ il sa fun v s2 pv sa2 mv=>?_)
  obtain ⟨t,k,et,rfl⟩:=item i v pv
  have so2:s2.heap.SetOf (mixKind pr wd) D (ssOf (setAll (ts.take i))) (setAll (ts.take i)).length:=by
   obtain ⟨o,es,ep,tb,ho,r⟩:=so
   exact ⟨o,es,ep,tb,mv.heap D o nw ho,r⟩
  show wpAny _ Ar.in1 (holding [Value.str t k] (setAdd D (.str t k)) >>= _) _ _ _
  refine wpAny_bind (wpAny_holding ?_)
  unfold setAdd
  refine wpAny_holding (wpAny_bind ((mixKind pr wd).pyHash (k:=(.inr t:Key)) (mixKind_str _ _ t k) ?_))
  have few:(setAll (ts.take i)).length + 1 < scanBound:=by
   have:=setAll_le (ts.take i)
   rw [List.length_take] at this
   omega
  refine wpAny_setAddHashed_of (knd:=mixKind pr wd) (s:={s2 with toks:=s2.toks + 1}) (mixKind_str _ _ t k) rfl so2 few fun h3 sb so3=>?_
  rw [ins_eq,ins_len,← setAll_snoc et] at so3
  have ne:∀b∈fo,b≠D:=fun b hb e=>nf (e ▸ hb)
  refine wpAny_pure ⟨plainId_quiet PyProof.Rows.F.plain_set_update_loop _,ih (i + 1) _ (by omega) il (Wk.frame _ s2 _ _ sa2 (Nat.le_succ _) fun b hb o e=>(sb.2 b (ne b hb)).trans e) so3 fun s4 mv2 so4=>?_⟩
  exact fin s4 (Moved.trans Wk.gtrans ((mv.mono up).then_heap (Nat.le_succ _) fun b o hb e=>(sb.2 b fun z=>hb (by rw [z]; exact List.mem_cons_self ..)).trans e) mv2) so4
end
theorem vals_strs:∀(ts:List Str) (its:List Value),Vals (ts.map V.str) its→its.length=ts.length∧∀(i:Nat) (v:Value),its[i]? = some v→∃(t:Str) (k:Tok),ts[i]? = some t∧v = .str t k
 | [],its,r=>by
  cases r
  exact ⟨rfl,fun i v e=>by simp at e⟩
 | t :: ts,its,r=>by
  cases r with
  | @cons _ u _ us e rr=>
   obtain ⟨k,rfl⟩:=(show ∃k,u=Value.str t k from e)
   obtain ⟨l,h⟩:=vals_strs ts us rr
   refine ⟨by rw [List.length_cons,List.length_cons,l],fun i v e=>?_⟩
   cases i with
   | zero=>cases (Option.some.inj e); exact ⟨t,k,rfl,rfl⟩
   | succ i=>exact h i v e
section
variable {pr:Program} {wd:World} {Ar:Around} {Ex:Value→Shared→Prop} {s:Shared}
abbrev newS (led:Bool):Obj:={cls:=.type "set",dict:=none,data:=.set #[] 0 (.fresh 0 0 led)}
theorem set_of_texts {l:Addr} {items:Array Value} {ts:List Str} {Q:Value→Shared→Prop} (calm:Ar.handled=none) (il:s.heap.IsList l items) (len:ts.length=items.size) (item:∀(i:Nat) (v:Value),items[i]? = some v→∃(t:Str) (k:Tok),ts[i]? = some t∧v = .str t k) (few:items.size + 1 < scanBound)
  (fin:∀(h':Heap) (tk:Nat),h'.SetOf (mixKind pr wd) s.heap.objs.size (ssOf (setAll ts)) (setAll ts).length→(∀b o,b < s.heap.objs.size→s.heap.get? b=some o→h'.get? b=some o)→Q (.ref s.heap.objs.size) {s with heap:=h',toks:=tk}) :
  wpAny (model pr wd) Ar (call (.type "set") [.ref l]) Q Ex s:=by
 obtain ⟨_,_,hmro⟩:=PySem.F.called_set.mro
 have q1:=PySem.F.called_set.made
 have q2:=PySem.F.called_set.sub
 have q3:=PySem.F.called_set.notType
 have q4:=PySem.F.called_set.canCreate
 have q5:=PySem.F.typeCall_set_1 (.ref l)
 refine wpAny_call (codeAny_of_tree ?_)
 show wpAny _ _ (callAny (.type "set") _) _ _ s
 refine wpAny_pure ⟨Code.quiet_builtin _ (by decide +kernel),codeAny_builtin PySem.F.entry_type_call ?_⟩
 rw [Around.under_plain (weight_type_call_type "set" [.ref l] []) rfl]
 repeat (any_goals (first | assumption | wp_step))
 refine codeAny_mono (code_set_new_1 (.ref l) (E:=Ex) (Q₁:=fun o s1=>∃led:Bool,o = .ref s.heap.objs.size∧s1 = {s with heap:=s.heap.push (newS led)}) fun led=>⟨led,rfl,rfl⟩) fun r s1 hr=>?_
 match r with
 | .error e=>exact hr
 | .ok (.ret o)=>
  obtain ⟨led,rfl,rfl⟩:=hr
  have hD:(s.heap.push (newS led)).get? s.heap.objs.size=some (newS led):=Heap.get?_push_size _ rfl
  have tD:Shared.TypeIs {s with heap:=s.heap.push (newS led)} (.ref s.heap.objs.size) "set":=⟨_,hD,rfl⟩
  have i1:=PySem.F.called_set.init.lookup
  have i2:=PySem.F.called_set.init.bind (.ref s.heap.objs.size)
  repeat (any_goals (first | assumption | wp_step))
  refine codeAny_mono (codeAny_call_builtin (R:=wants (fun r s2=>r = .none∧∃h' tk,s2 = {s with heap:=h',toks:=tk}∧h'.SetOf (mixKind pr wd) s.heap.objs.size (ssOf (setAll ts)) (setAll ts).length∧∀b o,b < s.heap.objs.size→s.heap.get? b=some o→h'.get? b=some o) Ex)
   PySem.F.called_set.init.plain PySem.F.entry_set_init (check_set_init_1 tD ?_)) fun r2 s2 hr2=>?_
  ·obtain ⟨⟨oc,od,oda,osl⟩,hl,hc,nl,hd⟩:=il
   simp only at hc hd
   subst hc hd
   have hl2:=Heap.get?_push_of_some (newS led) hl
   have no1:=PySem.F.sub_list_set
   have no2:=PySem.F.sub_list_frozenset
   have no3:(Value.type "list" == Value.type "dict")=false:=by decide
   have il2:(s.heap.push (newS led)).IsList l items:=⟨_,hl2,rfl,nl,rfl⟩
   unfold Builtin.«set.__init__» noKeywords Builtin.Frozenset.updateFrom
   generalize ePI:pyIter=PI
   wp_walk
   subst ePI
   refine wpAny_pyIter_list il2 (wpAny_bind (wpAny_runValue ?_))
   have lt:=Heap.lt_size hl
   have sz:(s.heap.push (newS led)).objs.size=s.heap.objs.size + 1:=Heap.size_push ..
   have l1:l≠(s.heap.push (newS led)).objs.size:=by rw [sz]; exact Nat.ne_of_lt (Nat.lt_succ_of_lt lt)
   have nf:s.heap.objs.size∉[(s.heap.push (newS led)).objs.size,l]:=by
    rw [sz]
    intro m
    rcases List.mem_cons.mp m with e | m
    ·exact absurd e (Nat.ne_of_lt (Nat.lt_succ_self _))
    ·exact absurd (List.mem_singleton.mp m) (Nat.ne_of_gt lt)
   refine turns_setT ((Walks.list (show Ar.in1.in1.in1.handled=none by simp [calm]) _ l l1 items).toS) s.heap.objs.size nf ts len item few (items.size - 0) 0 _ rfl (Nat.zero_le _) ⟨⟨_,Heap.get?_push_size _ rfl,rfl,rfl⟩,il2.push _⟩ ?_ ?_
   ·refine ⟨_,#[],0,_,Heap.get?_push_of_some {cls:=.type "list_iterator",data:=.fields #[.ref l,.int 0 0]} hD,⟨rfl,rfl,rfl⟩,rfl,fun e he=>by simp at he,fun k=>by cases k <;> simp [ssOf,setAll],by decide,by rfl,rfl⟩
   ·intro s3 mv so
    obtain ⟨h3,g3,d3,t3,o3⟩:=s3
    have e1:g3=s.gens:=mv.gens
    have e2:d3=s.drawn:=mv.drawn
    have e3:o3=s.os:=mv.os
    subst e1 e2 e3
    show wpAny _ _ _ _ _ _
    refine wpAny_pure ?_
    show wpAny _ _ (ret Value.none) _ _ _
    refine wpAny_pure ⟨rfl,h3,t3,rfl,so,fun b o hb e=>mv.heap b o (fun m=>?_) (Heap.get?_push_of_some _ (Heap.get?_push_of_some _ e))⟩
    rcases List.mem_cons.mp m with z | m
    ·exact absurd z (Nat.ne_of_lt hb)
    ·have z:=List.mem_singleton.mp m
     rw [sz] at z
     have z:(b:Nat)=s.heap.objs.size + 1:=z
     have hb:(b:Nat) < s.heap.objs.size:=hb
     omega
  ·match r2 with
   | .error e=>exact hr2
   | .ok (.ret v)=>
    obtain ⟨rfl,h',tk,rfl,so,kk⟩:=hr2
    repeat (any_goals (first | assumption | wp_step))
    exact fin _ _ so kk
end
section
variable {X:Cx}
theorem call_setT (hc:X.calm=true):CallR X (.type "set") (fun xs H Q=>∃(l:Addr) (ts:List Str),xs=[.ref l]∧SqL X.K H l (ts.map V.str)∧ts.length≤4000∧∀p,H p=none→Q (.ref p) (upd H p (SetT X.prog X.w p (setAll ts)))):=by
 intro pins s σ H xs us Q I r h
 obtain ⟨a,ts,rfl,ha,hl,q⟩:=h
 obtain ⟨u,rfl,ru⟩:=vals1 r
 cases (show u=Value.ref a from ru)
 obtain ⟨its,rv,p,hz⟩:=I.list ha
 obtain ⟨len,item⟩:=vals_strs ts its rv
 refine set_of_texts (I.ok.hd hc) p.isList (by rw [List.size_toArray,len]) (fun i v e=>item i v (by simpa using e)) (by rw [List.size_toArray,len]; exact Nat.lt_of_le_of_lt (Nat.succ_le_succ hl) (by decide)) fun h' tk n kk=>?_
 exact ⟨.ref s.heap.objs.size,_,I.laid (t':=tk) (fun b o q=>kk b o (Heap.lt_size q) q) (Nat.le_refl _) (setT_ok n),rfl,q _ I.fresh⟩
end
theorem zpi_zipL {X:Cx} {es:List Expr} {tk:Nat} {tpos:Pos} {a b:Expr} {ta:TA} {p pos:Pos} (hg:Gl X "zip") (hm:X.mg "zip" = none) (ha:SPA X [a,b] ta) (hs:starEach [a,b] X.env=[(false,eval a X.env),(false,eval b X.env)]:=by rfl) (hs2:starEach [b] X.env=[(false,eval b X.env)]:=by rfl) :
  SPI X (.Tuple es tk tpos) (.Call (.Name "zip" p) [a,b] [] pos) (iZipL X.K ta):=⟨pi_zipL hg hm ha.out hs hs2⟩
end L2
namespace G1
open PySem L2 GM
theorem putAll_nd:∀(kvs acc:List (Key × V)),(kvs.map (·.1)).Nodup→(∀k∈kvs.map (·.1),valV acc k=none)→kvs.foldl (fun m p=>putK m p.1 p.2) acc=acc ++ kvs
 | [],acc,_,_=>by simp
 | p :: kvs,acc,nd,h=>by
  rw [List.foldl_cons,putK_new p.2 (h p.1 (by simp)),putAll_nd kvs _ (List.nodup_cons.mp nd).2 fun k hk=>?_]
  ·simp
  ·rw [← putK_new p.2 (h p.1 (by simp)),valV_put]
   have:k≠p.1:=fun z=>(List.nodup_cons.mp nd).1 (by rw [z] at hk; exact hk)
   rw [if_neg this]
   exact h k (by rw [List.map_cons]; exact List.mem_cons_of_mem _ hk)
theorem valV_nil (k:Key):valV ([]:List (Key × V)) k=none:=rfl
theorem val_mem:∀{kvs:List (Key × V)} {k:Key} {v:V} {i:Nat},(kvs.map (·.1)).Nodup→kvs[i]? = some (k,v)→valV kvs k=some v:=by
 intro kvs k v i nd h
 have e:kvs=kvs.take i ++ (k,v) :: kvs.drop (i + 1):=by
  obtain ⟨hl,e⟩:=List.getElem?_eq_some_iff.mp h
  rw [← e]; simp
 have f:kvs.foldl (fun m p=>putK m p.1 p.2) ([]:List (Key × V))=kvs:=by simpa using putAll_nd kvs [] nd (fun k _=>valV_nil k)
 have nd2:=nd
 rw [e,List.map_append,List.map_cons] at nd2
 rw [← f]
 conv=>lhs; rw [e]
 rw [List.foldl_append,List.foldl_cons]
 have keep:∀(l acc:List (Key × V)),k∉l.map (·.1)→valV (l.foldl (fun m p=>putK m p.1 p.2) acc) k=valV acc k:=by
  intro l
  induction l with
  | nil=>intro acc _; rfl
  | cons p l ih=>
   intro acc hn
   rw [List.foldl_cons,ih _ fun z=>hn (by rw [List.map_cons]; exact List.mem_cons_of_mem _ z),valV_put,if_neg fun z=>hn (by rw [z]; simp)]
 have nk:k∉(kvs.drop (i + 1)).map (·.1):=(List.nodup_cons.mp (List.nodup_append.mp nd2).2.1).1
 rw [keep _ _ nk,valV_put,if_pos rfl]
theorem valV_out:∀{kvs:List (Key × V)} {k:Key},k∉kvs.map (·.1)→valV kvs k=none
 | [],_,_=>rfl
 | p :: r,k,h=>by
  have n1:¬p.1=k:=fun z=>h (by rw [← z]; exact List.mem_cons_self ..)
  rw [valV_neg n1]
  exact valV_out fun z=>h (List.mem_cons_of_mem _ z)
def mapS (g:Nat→Nat) (z:Str):Str:=⟨(z.cps.toList.map g).toArray⟩
theorem cat_sg1 (cs:List Nat):catT (cs.map sg1)=⟨cs.toArray⟩:=by
 unfold catT
 congr 1
 rw [List.map_map]
 have:((fun t:Str=>t.cps.toList) ∘ sg1)=fun c=>[c]:=by funext c; rfl
 rw [this]
 induction cs with
 | nil=>rfl
 | cons c cs ih=>
  rw [List.map_cons,List.flatten_cons]
  have ih':(List.map (fun c=>[c]) cs).flatten=cs:=by
   have:=congrArg Array.toList ih
   simpa using this
  rw [ih']; rfl
def rf:List Nat→List Nat→Nat→Nat
 | c :: cs,d :: ds,x=>if x=c then d else rf cs ds x
 | _,_,_=>0
theorem rf_at:∀{cs ds:List Nat} {i c d:Nat},cs.Nodup→cs[i]? = some c→ds[i]? = some d→rf cs ds c=d
 | c0 :: cs,d0 :: ds,0,c,d,_,h1,h2=>by
  cases (Option.some.inj h1); cases (Option.some.inj h2)
  unfold rf
  rw [if_pos rfl]
 | c0 :: cs,d0 :: ds,i + 1,c,d,nd,h1,h2=>by
  have h1':cs[i]? = some c:=h1
  have ne:c≠c0:=fun z=>(List.nodup_cons.mp nd).1 (by rw [← z]; exact List.mem_of_getElem? h1')
  unfold rf
  rw [if_neg ne]
  exact rf_at (List.nodup_cons.mp nd).2 h1' h2
section
variable {P:Program} {w:World} {K:PySem.W.Frag} {mg:Str→Option Value} {base:Heap}
theorem str_at {z:Str} {i c:Nat} (h:z.cps[i]? = some c):z.cps.toList[i]? = some c:=by rw [Array.getElem?_toList]; exact h
theorem sum_ones (cs:List Nat):((cs.map sg1).map (·.length)).sum=cs.length:=by
 induction cs with
 | nil=>rfl
 | cons c cs ih=>
  rw [List.map_cons,List.map_cons,List.sum_cons,ih,List.length_cons]
  show 1 + cs.length=_
  omega
def spCalled:Sp:=fun vs H Q _=>∃(D:Addr) (kvs:List (Key × V)) (z:Str) (g:Nat→Nat),vs=[.ref D,.str z]∧H D=some (.dK kvs)∧(∀c∈z.cps.toList,valV kvs (Sum.inr (sg1 c):Key)=some (.str (sg1 (g c))))∧z.length≤100∧∀H',Same H H'→Q (.str (mapS g z)) H'
theorem scCd:FnScope ["calls","text"] ["calls","text"] (defScope sCalled):=⟨rfl,rfl,rfl,by decide +kernel,rfl,by decide +kernel,by decide +kernel⟩
theorem ok_called {f:Addr} {fd:FuncData} (F:FunG K "called" "called" sCalled .none f fd) (B:Bl mg):FnOk P w K mg base (CXE P w) 1 f fd ["calls","text"] spCalled:=by
 refine F.zokN scCd (fun vs H Q E h=>?_) (fun cdv A outer s H vs Q E hr h=>?_)
 ·obtain ⟨D,kvs,z,g,rfl,_⟩:=h
  rfl
 ·obtain ⟨D,kvs,z,g,rfl,hD,hk,zl,q⟩:=h
  refine ⟨_,(zpss_one (zps_ret (zpe_bm PySem.F.plainAttrs_str PySem.F.slot_str_join PySem.F.type_str_join mt_join zpe_str (zpac_x (zpe_compL ["calls","text"] ["sign"] [0] (defScope sCalled) rfl rfl rfl ⟨by decide +kernel,by decide +kernel,by decide +kernel,by decide +kernel,by decide +kernel⟩ (zpi_str (zpv 1)) (fun s H fp=>(zpg_name (i:=0) (show List.Nodup [("sign" : Str),"calls"] by decide +kernel) rfl (Or.inl rfl))) (fun s H fp=>zpts_nil) (fun s H fp=>(zpe_dget hr.units1 (zpv 1) (zpv 0) (fun _ _=>rfl)))) zpa_nil)))),?_⟩
  have zs:z.cps.toList.length=z.length:=Array.length_toList ..
  refine ⟨rfl,_,rfl,z,rfl,?_⟩
  (intro l gl; generalize hEq:upd _ l _=H1; refine newC hEq gl ?_; clear hEq; intro S1 e1 o1)
  refine lr_str (z:=z) (fun i σ H'=>(∃v,σ=[v,some (.ref D)])∧Same H H'∧H' l=some (.lst (txs (((z.cps.toList.take i).map g).map sg1)))) ⟨⟨_,rfl⟩,S1,e1⟩ ?_ ?_
  ·rintro i c σ H' C hc ⟨⟨v,rfl⟩,k,hl⟩ nx
   have hc':=str_at hc
   have hv:=hk c (List.mem_of_getElem? hc')
   refine ⟨_,rfl,_,rfl,D,_,rfl,hv ▸ DGet.k (k:=(Sum.inr (sg1 c):Key)) (k _ _ hD),_,hl,?_,nx _ _ ⟨⟨_,rfl⟩,fun b o e=>?_,?_⟩⟩
   ·rw [txs_len,List.length_map,List.length_map,List.length_take]
    exact Nat.lt_of_le_of_lt (show min i z.cps.toList.length≤100 by omega) (by decide)
   ·rw [upd_ne (ne_of_none e gl)]; exact k _ _ e
   ·rw [List.take_add_one,hc',List.map_append,List.map_append,txs_app]; exact upd_same
  ·rintro σ H2 ⟨_,S2,hl⟩
   rw [show z.cps.size=z.cps.toList.length by rw [Array.length_toList],List.take_length] at hl
   refine ⟨_,l,_,rfl,rfl,SqL.of hl,?_,?_⟩
   ·rw [sum_ones,List.length_map]
    show z.cps.toList.length + _ * 0≤16777216
    omega
   ·rw [join_cat,cat_sg1]
    exact q H2 S2
def spLCalled (K:PySem.W.Frag):Sp:=fun vs H Q _=>∃(t L S:Addr) (f p lg:V) (xs:List V) (cs ls:List Nat) (z:Str),vs=[.ref t,.ref L,.str z]∧H t=some (.tup [.ref S,f,p,lg])∧H S=some (.lst xs)∧Rows H xs cs∧cs.Nodup∧cs.length≤6∧SqL K H L (txs (sgs ls))∧ls.length=cs.length∧(∀c∈z.cps.toList,c∈cs)∧z.length≤100∧∀H',Same H H'→Q (.str (mapS (rf cs ls) z)) H'
theorem scLc:FnScope ["_law_tongue_here","_law_letters_here","_law_text","_law_signs"] ["_law_tongue_here","_law_letters_here","_law_text"] (defScope sLCalled):=⟨rfl,rfl,rfl,by decide +kernel,rfl,by decide +kernel,by decide +kernel⟩
theorem ok_lcalled {f:Addr} {fd:FuncData} (F:FunG K "_law_called" "_law_called" sLCalled .none f fd) (B:Bl mg):FnOk P w K mg base (CXE P w) 1 f fd ["_law_tongue_here","_law_letters_here","_law_text"] (spLCalled K):=by
 refine F.zokN scLc (fun vs H Q E h=>?_) (fun cdv A outer s H vs Q E hr h=>?_)
 ·obtain ⟨t,L,S,f,p,lg,xs,cs,ls,z,rfl,_⟩:=h
  rfl
 ·obtain ⟨t,L,S,f,p,lg,xs,cs,ls,z,rfl,ht,hS,rows,nd,c6,hL,ll,zc,zl,q⟩:=h
  refine ⟨_,(zpss_cons (zps_set (i:=3) scLc.nd rfl (Or.inr rfl) (zpe_compL ["_law_tongue_here","_law_letters_here","_law_text","_law_signs"] ["_law_one"] [] (defScope sLCalled) rfl rfl rfl ⟨by decide +kernel,by decide +kernel,by decide +kernel,by decide +kernel,by decide +kernel⟩ (zpi_list (zpe_ix ix_tup (zpv 0) zpe_int (fun _ _=>rfl))) (fun s H fp=>(zpg_name (i:=0) (show List.Nodup [("_law_one" : Str)] by decide +kernel) rfl (Or.inl rfl))) (fun s H fp=>zpts_nil) (fun s H fp=>(zpe_ix (ix_tupK K rfl) (zpv 0) zpe_int (fun _ _=>rfl)))))
   (zpss_one (zps_ret (zpe_bm PySem.F.plainAttrs_str PySem.F.slot_str_join PySem.F.type_str_join mt_join zpe_str (zpac_x (zpe_compL ["_law_tongue_here","_law_letters_here","_law_text","_law_signs"] ["_law_sign_here"] [1,3] (defScope sLCalled) rfl rfl rfl ⟨by decide +kernel,by decide +kernel,by decide +kernel,by decide +kernel,by decide +kernel⟩ (zpi_str (zpv 2)) (fun s H fp=>(zpg_name (i:=0) (show List.Nodup [("_law_sign_here" : Str),"_law_letters_here","_law_signs"] by decide +kernel) rfl (Or.inl rfl))) (fun s H fp=>zpts_nil) (fun s H fp=>(zpe_ix (ix_listK K rfl) (zpv 1) (zpe_bmK K rfl PySem.F.plainAttrs_list PySem.F.slot_list_index PySem.F.type_list_index (mt_indexK K rfl) (zpv 2) (zpac_n (zpv 0) zpa_nil)) (fun _ _=>rfl)))) zpa_nil))))),?_⟩
  have zs:z.cps.toList.length=z.length:=Array.length_toList ..
  refine ⟨_,rfl,t,_,_,_,rfl,rfl,SqT.of ht,rfl,S,rfl,⟨_,SqL.of hS⟩,?_⟩
  (intro sg gsg; generalize hEq:upd _ sg _=H1; refine newC hEq gsg ?_; clear hEq; intro S1 e1 o1)
  refine lr_list (K:=K) (S:=S) (xs:=xs) (fun i σ H2=>(∃v,σ=[v])∧H2 sg=some (.lst (txs (sgs (cs.take i))))∧Same H H2) ⟨⟨_,rfl⟩,e1,S1⟩ (fun i σ H2 p=>SqL.of (p.2.2 _ _ hS)) ?_ ?_
  ·rintro i x σ H2 C hi ⟨⟨v,rfl⟩,hl2,s2⟩ nx
   obtain ⟨cc,hc,row⟩:=rows.at hi
   obtain ⟨a,p,la,rfl,ha,_⟩:=row.ex
   refine ⟨_,rfl,a,_,_,_,rfl,rfl,SqT.of (s2 _ _ ha),rfl,_,hl2,?_,nx _ _ ⟨⟨_,rfl⟩,?_,fun b o hb=>?_⟩⟩
   ·unfold txs sgs
    rw [List.length_map,List.length_map,List.length_take]
    exact Nat.lt_of_le_of_lt (show min i cs.length≤6 by omega) (by decide)
   ·have:txs (sgs (cs.take i)) ++ [V.str (sg1 cc)]=txs (sgs (cs.take (i + 1))):=by
     unfold txs sgs
     rw [List.take_add_one,hc,List.map_append,List.map_append]; rfl
    rw [← this]; exact upd_same
   ·rw [upd_ne (ne_of_none hb gsg)]; exact s2 b o hb
  rintro σ0 H2 ⟨_,hsg,S2⟩
  rw [List.take_of_length_le (by rw [rows.len]; exact Nat.le_refl _)] at hsg
  refine ⟨rfl,_,rfl,z,rfl,?_⟩
  (intro l gl; generalize hEq:upd _ l _=H3; refine newC hEq gl ?_; clear hEq; intro S3 e3 o3)
  refine lr_str (z:=z) (fun i σ H'=>(∃v,σ=[v,some (.ref L),some (.ref sg)])∧Same H2 H'∧H' l=some (.lst (txs (((z.cps.toList.take i).map (rf cs ls)).map sg1)))) ⟨⟨_,rfl⟩,S3,e3⟩ ?_ ?_
  ·rintro i c σ H' C hc ⟨⟨v,rfl⟩,k,hl⟩ nx
   have hc':=str_at hc
   obtain ⟨j,hj⟩:=List.getElem?_of_mem (zc c (List.mem_of_getElem? hc'))
   have jl:=(List.getElem?_eq_some_iff.mp hj).1
   have ej:ls[j]? = some (ls[j]'(by omega)):=List.getElem?_eq_getElem _
   generalize ls[j]'(by omega)=d at ej
   have er:=rf_at nd hj ej
   have sqL:SqL K H' L (txs (sgs ls)):=sqL_same hL (S2.trans k)
   have sqs:SqL K H' sg (txs (sgs cs)):=SqL.of (k _ _ hsg)
   refine ⟨_,rfl,_,rfl,.inl ⟨rfl,_,sqs⟩,_,rfl,sg,_,.str (sg1 c),j,rfl,rfl,sqs,txs_flat _,rfl,⟨.str (sg1 c),?_,?_⟩,fun m y ml hm=>?_,L,_,_,.str (sg1 d),rfl,rfl,sqL,?_,_,hl,?_,nx _ _ ⟨⟨_,rfl⟩,fun b o e=>?_,?_⟩⟩
   ·exact txs_at (by unfold sgs; rw [List.getElem?_map,hj]; rfl)
   ·simp [eqV]
   ·obtain ⟨c',hc2,rfl⟩:=at_sg hm
    have ne:c'≠c:=fun z=>by
     rw [z] at hc2
     have:=(List.getElem?_inj (by omega) nd).mp (hc2.trans hj.symm)
     omega
    have ne2:sg1 c'≠sg1 c:=fun z=>ne (sg1_inj z)
    simp [eqV,ne2]
   ·exact atI_nat (txs_at (by unfold sgs; rw [List.getElem?_map,ej]; rfl))
   ·rw [txs_len,List.length_map,List.length_map,List.length_take]
    exact Nat.lt_of_le_of_lt (show min i z.cps.toList.length≤100 by omega) (by decide)
   ·rw [upd_ne (ne_of_none e gl)]; exact k _ _ e
   ·rw [List.take_add_one,hc',List.map_append,List.map_append,txs_app]
    show _=some (HO.lst (_ ++ [V.str (sg1 (rf cs ls c))]))
    rw [er]; exact upd_same
  ·rintro σ H4 ⟨_,S4,hl⟩
   rw [show z.cps.size=z.cps.toList.length by rw [Array.length_toList],List.take_length] at hl
   refine ⟨_,l,_,rfl,rfl,SqL.of hl,?_,?_⟩
   ·rw [sum_ones,List.length_map]
    show z.cps.toList.length + _ * 0≤16777216
    omega
   ·rw [join_cat,cat_sg1]
    exact q H4 (S2.trans S4)
end
end G1
namespace L2
open PySem PySem.Spec PyProof.Rows
section
variable {P:Program} {w:World} {K:PySem.W.Frag} {mg:Str→Option Value} {base:Heap} {x qual:Str} {st:Stmt} {dV kV doc pm ct oc:Value} {an od:Option Addr} {c f:Addr} {osl:Array (Option Value)} {N ps:List Str} {k:Nat} {sp:Sp}
theorem okCE (lk:K.lookup f=some ⟨oc,od,.func (PySem.W.fnOf x qual (defArgs st) (defBody st) (defScope st) dV kV doc pm an (.ref c) ct),osl⟩) (hcd:PySem.W.codeIn K (.ref c) qual=true) (S:FnScope N ps (defScope st)) (len:∀vs H Q E,sp vs H Q E→vs.length=ps.length)
  (hbody:∀(A:Around) (outer:List Env) (s:Shared) (H:Hp) (vs:List V) (Q:VK) (E:XK),Room k (A.deeper (envOfC qual (defScope st) s.heap.objs.size f (.ref c)))→sp vs H Q E→
   ∃t,SPSs (cxOf (CXE P w) P w K mg base N qual (defScope st) f (.ref c) A outer s H E) (defBody st) t∧t {nx:=fun _ H'=>Q .non H',rt:=Q} (start N vs) H) :
  FnOk P w K mg base (CXE P w) (k + 1) f (PySem.W.fnOf x qual (defArgs st) (defBody st) (defScope st) dV kV doc pm an (.ref c) ct) ps sp:=
 fn_of lk hcd S len fun A outer s H vs Q E hr h=>by
  obtain ⟨t,h1,h2⟩:=hbody A outer s H vs Q E hr h
  exact ⟨t,h1.out,h2⟩
end
end L2
namespace G1
open PySem L2 GM
structure ThL (H:Hp) (y:V):Prop where
 th:Th H y
 els:∀a xs,y = .ref a→H a=some (.lst xs)→xs.length≤100∧∀z∈xs,Th H z∧∀s,z = .str s→s.length≤sizeLine
theorem ThL.kp {H H':Hp} {x:V} (h:ThL H x) (k:Kp H H'):ThL H' x:=
 ⟨h.th.kp k,fun a xs e e'=>by
  obtain ⟨l,z⟩:=h.els a xs e (G1.back h.th k e e')
  exact ⟨l,fun y hy=>⟨(z y hy).1.kp k,(z y hy).2⟩⟩⟩
def LetP (H:Hp) (y:V) (n:Nat):Prop:=∃L ls,y = .ref L∧H L=some (.lst (txs (sgs ls)))∧ls.length=n∧ls.Nodup∧∀c∈ls,occ c=true
theorem LetP.back {H H':Hp} {y:V} {n:Nat} (t:Th H y) (k:Kp H H') (h:LetP H' y n):LetP H y n:=by
 obtain ⟨L,ls,e,hL,r⟩:=h
 exact ⟨L,ls,e,G1.back t k e hL,r⟩
def kvS (cs ls:List Nat):List (Key × V):=(cs.zip ls).map fun p=>((Sum.inr (sg1 p.1):Key),V.str (sg1 p.2))
theorem kvS_len {cs ls:List Nat} (h:cs.length=ls.length):(kvS cs ls).length=cs.length:=by
 unfold kvS
 rw [List.length_map,List.length_zip,h,Nat.min_self]
theorem kvS_at {cs ls:List Nat} {i c d:Nat} (h1:cs[i]? = some c) (h2:ls[i]? = some d):(kvS cs ls)[i]? = some ((Sum.inr (sg1 c):Key),V.str (sg1 d)):=by
 have e:(cs.zip ls)[i]? = some (c,d):=List.getElem?_zip_eq_some.mpr ⟨h1,h2⟩
 unfold kvS
 rw [List.getElem?_map,e]; rfl
theorem kvS_keys:∀{cs ls:List Nat},cs.length=ls.length→(kvS cs ls).map (·.1)=cs.map fun c=>(Sum.inr (sg1 c):Key)
 | [],[],_=>rfl
 | c :: cs,d :: ls,h=>by
  show _ :: (kvS cs ls).map (·.1)=_
  rw [kvS_keys (cs:=cs) (ls:=ls) (by simpa using h)]; rfl
theorem kvS_nd {cs ls:List Nat} (h:cs.length=ls.length) (nd:cs.Nodup):((kvS cs ls).map (·.1)).Nodup:=by
 rw [kvS_keys h]
 exact List.Pairwise.map _ (fun (a b:Nat) (h:a≠b) e=>h (sg1_inj (Sum.inr.inj e))) nd
theorem setAll_nodup {ts:List Str}:(setAll ts).length=ts.length↔ts.Nodup:=by
 have:setAll ts=insAll ts:=rfl
 rw [this]
 exact (G1.ins_len (ts:=ts)).2
section
variable {P:Program} {w:World} {K:PySem.W.Frag} {mg:Str→Option Value} {base:Heap}
def spCallsBy (CT N T1 T2 T3:Addr):Sp:=fun vs H Q E=>∃x y,vs=[x,y]∧ThT H x∧Tab T1 H∧Tab T2 H∧Tab T3 H∧
  ((∃v,OutT H x (some v)∧∀dx H',Kp H H'→TbK H H'→H' dx=some (.xd [("part",v)])→E (.ref CT) (some dx) H')∨
   ∃t cs fs ps lg,x = .ref t∧Tg H t cs fs ps lg∧ThL H y∧
    ((¬LetP H y cs.length∧∀H',Kp H H'→TbK H H'→E (.ref N) none H')∨
     ∃L ls,y = .ref L∧H L=some (.lst (txs (sgs ls)))∧ls.length=cs.length∧ls.Nodup∧(∀c∈ls,occ c=true)∧
      ∀D kvs H',Kp H H'→TbK H H'→NewL H D→H' D=some (.dK kvs)→(∀c∈cs,valV kvs (Sum.inr (sg1 c):Key)=some (.str (sg1 (rf cs ls c))))→Q (.ref D) H'))
theorem scCb:FnScope ["tongue","letters","signs"] ["tongue","letters"] (defScope sCalls):=⟨rfl,rfl,rfl,by decide +kernel,rfl,by decide +kernel,by decide +kernel⟩
theorem ok_calls {CT N T1 T2 T3 c:Addr} {f:Addr} {kV doc pm ct oc:Value} {an od:Option Addr} {osl:Array (Option Value)} {fL fO fI:Addr} {fdL fdO fdI:FuncData}
  (lk:K.lookup f=some ⟨oc,od,.func (PySem.W.fnOf "calls_by" "calls_by" (defArgs sCalls) (defBody sCalls) (defScope sCalls) .none kV doc pm an (.ref c) ct),osl⟩) (hcd:PySem.W.codeIn K (.ref c) "calls_by" = true)
  (B:Bl mg) (CK:CodeK K c T3) (hbm:BmOf mg base) (mN:mg "NoTurn" = some (.ref N)) (eN:ExcK K N) (mzip:mg "zip" = none)
  (GL:FnOk P w K mg base (CXE P w) 7 fL fdL ["thing"] (spLookG CT T1 T2)) (mL:mg "look_at_tongue" = some (.ref fL)) (kL:PySem.W.keepIn K (.ref fL)=true) (bL:Binds K fdL ["thing"] [])
  (GO:FnOk P w K mg base (CXE P w) 1 fO fdO ["tongue"] (spSignsOfG K)) (mO:mg "signs_of" = some (.ref fO)) (kO:PySem.W.keepIn K (.ref fO)=true) (bO:Binds K fdO ["tongue"] [])
  (GI:FnOk P w K mg base (CXE P w) 3 fI fdI ["thing"] (spLetterG T1)) (mI:mg "is_letter" = some (.ref fI)) (kI:PySem.W.keepIn K (.ref fI)=true) (bI:Binds K fdI ["thing"] []):FnOk P w K mg base (CXE P w) 8 f (PySem.W.fnOf "calls_by" "calls_by" (defArgs sCalls) (defBody sCalls) (defScope sCalls) .none kV doc pm an (.ref c) ct) ["tongue","letters"] (spCallsBy CT N T1 T2 T3):=by
 refine okCE lk hcd scCb (fun vs H Q E h=>?_) (fun A outer s H vs Q E hr h=>?_)
 ·obtain ⟨x,y,rfl,_⟩:=h
  rfl
 ·obtain ⟨x,y,rfl,hx,ht1,ht2,ht3,alt⟩:=h
  refine ⟨_,(zpss_cons (zps_expr (zpe_call GL hr (by rfl) mL kL bL .nil (passes_fn fun _ _ _ z=>z) (zpac_n (zpv 0) zpa_nil)))
   (zpss_cons (zps_set (i:=2) scCb.nd rfl (Or.inl rfl) (zpe_call GO (hr.mono (by decide)) (by rfl) mO kO bO .nil passE0 (zpac_n (zpv 0) zpa_nil)))
   (zpss_cons (zps_if (SPW.pt (zpw_or (zpt_not (zpt_val (zpe_callB call_isi (by rfl) B.isi boot_isi (zpac_n (zpv 1) (zpac_n (zpe_bltn (by rfl) B.list boot_list (v:=.ty "list") rfl) zpa_nil))))) (zpw_or (zpt_cmpR op_ne (zpe_callB call_len_seq (by rfl) B.len PySem.boot_len (zpac_n (zpv 1) zpa_nil)) (zpe_callB call_len_seq (by rfl) B.len PySem.boot_len (zpac_n (zpv 2) zpa_nil)) (nomark _)) (zpw_or1 (zpt_not (zpt_val (zpe_all ["tongue","letters","signs"] ["one"] [] (defScope sCalls) rfl hr (by rfl) B.all rfl CK ⟨hbm⟩ rfl rfl ⟨by decide +kernel,by decide +kernel,by decide +kernel,by decide +kernel,by decide +kernel⟩ (by decide +kernel) (by decide +kernel) (zpi_list (zpv 1)) (fun code s H fp=>(zpg_name (i:=0) (show List.Nodup [("one" : Str)] by decide +kernel) rfl (Or.inl rfl))) (fun code s H fp=>(zpe_call GI (hr.gen.mono (by decide)) (by rfl) mI kI bI .nil passE0 (zpac_n (zpv 0) zpa_nil)))))))))) (zpss_one (zps_raise (E:=E) (fun pins σ H1 s1 h1 e args I hx hE=>throw_fn I hx hE) rfl (by rfl) mN eN (zpac_c zpe_str zpa_nil))) zpss_nil)
   (zpss_cons (zps_if (zpt_cmpR op_ne (zpe_callB call_len_setT (by rfl) B.len PySem.boot_len (zpac_f (zpe_callTy (call_setT rfl) (by rfl) B.set boot_set (zpac_n (zpv 1) zpa_nil)) zpa_nil)) (zpe_callB call_len_seq (by rfl) B.len PySem.boot_len (zpac_n (zpv 1) zpa_nil)) (nomark _)) (zpss_one (zps_raise (E:=E) (fun pins σ H1 s1 h1 e args I hx hE=>throw_fn I hx hE) rfl (by rfl) mN eN (zpac_c zpe_str zpa_nil))) zpss_nil)
   (zpss_one (zps_ret (zpe_dictcomp ["tongue","letters","signs"] ["sign","letter"] [] (defScope sCalls) rfl rfl rfl ⟨by decide +kernel,by decide +kernel,by decide +kernel,by decide +kernel,by decide +kernel⟩ (zpi_zipL (by rfl) mzip (zpac_n (zpv 2) (zpac_n (zpv 1) zpa_nil))) (fun s H fp=>(zpg_tupK K 2 rfl rfl (zpgs_cons (zpg_name (i:=0) (show List.Nodup [("sign" : Str),"letter"] by decide +kernel) rfl (Or.inl rfl)) (zpgs_cons (zpg_name (i:=1) (show List.Nodup [("sign" : Str),"letter"] by decide +kernel) rfl (Or.inl rfl)) zpgs_nil)))) (fun s H fp=>zpts_nil) (fun s H fp=>(zpv 0)) (fun s H fp=>(zpv 1))))))))),?_⟩
  have s1:1≤sizeLine:=by decide
  rcases alt with ⟨v,out,qe⟩ | ⟨t,cs,fs,ps,lg,rfl,tg,ty,alt⟩
  ·refine ⟨_,rfl,x,some v,rfl,hx,out,ht1,ht2,fun z=>(by cases z),fun v' e dx H' k t hd=>?_⟩
   cases e
   exact qe dx H' k t hd
  ·obtain ⟨tt,out⟩:=tg.out
   obtain ⟨S,F0,G0,xs,g1,g2,g3,g4,g5⟩:=tg.ex
   have c6:=tg.c6
   refine ⟨_,rfl,_,none,rfl,tt,out,ht1,ht2,fun _ H1 k1 t1=>?_,fun v' e=>(by cases e)⟩
   refine ⟨_,rfl,t,S,_,_,_,xs,cs,rfl,SqT.of (k1.tup g1),k1.lst g2,g3.p.kp k1,tg.c6,fun sg H2 gsg S2 hsg=>?_⟩
   have k2:=k1.trans (Kp.same S2)
   have t2:=t1.same S2
   have ty2:=ty.kp k2
   have bad:¬LetP H y cs.length→∀H',Kp H2 H'→TbK H2 H'→E (.ref N) none H':=fun n H' k t=>by
    rcases alt with ⟨_,qe⟩ | ⟨L,ls,e,hL,z1,z2,z3,_⟩
    ·exact qe H' (k2.trans k) (t2.trans t)
    ·exact absurd ⟨L,ls,e,hL,z1,z2,z3⟩ n
   refine ⟨_,rfl,_,_,_,_,rfl,ty2.th.tyQ,.inl ⟨_,rfl,kit_lst ty2.th⟩,_,rfl,?_⟩
   by_cases yl:tyN H2 y = "list"
   rotate_left
   ·rw [decide_eq_false yl]
    refine iteT (iteT ⟨s1,bad (fun ⟨L,ls,e,hL,_⟩=>yl ?_) _ Kp.refl TbK.refl⟩)
    rw [e]; exact tyN_lst (k2.lst hL)
   rw [decide_eq_true yl]
   obtain ⟨L,ys,rfl,hL2⟩:=ty2.th.isLst yl
   have hL:=G1.back ty.th k2 rfl hL2
   obtain ⟨y100,ely⟩:=ty.els L ys rfl hL
   have sgl:(txs (sgs cs)).length=cs.length:=by rw [txs_len]; unfold sgs; rw [List.length_map]
   refine iteF ⟨_,rfl,L,_,rfl,.inl (SqL.of hL2),_,rfl,sg,_,rfl,.inl (SqL.of hsg),rfl,_,rfl,?_⟩
   rw [sgl]
   by_cases len:ys.length=cs.length
   rotate_left
   ·have ne:¬V.int ((ys.length:Nat):Int)=V.int (cs.length:Int):=fun z=>by injection z with z; exact len (by omega)
    rw [decide_eq_false ne]
    refine iteT (iteT ⟨s1,bad (fun ⟨L',ls,e,hL',z1,_⟩=>len ?_) _ Kp.refl TbK.refl⟩)
    cases e
    rw [hL] at hL'; cases hL'
    rw [txs_len]; unfold sgs; rw [List.length_map]; exact z1
   rw [len,show (!decide (V.int (cs.length:Int)=V.int (cs.length:Int)))=false by simp]
   refine iteF ?_
   obtain ⟨ps2,hT3,tr3⟩:=id (t2 _ ht3)
   refine ⟨_,rfl,L,rfl,⟨_,SqL.of hL2⟩,ps2,hT3,tr3,fun ps' tr'=>?_⟩
   have kp:Kp H2 (upd H2 T3 (.tbl ps')):=Kp.tab (t2 _ ht3)
   have tb:TbK H2 (upd H2 T3 (.tbl ps')):=TbK.tab tr'
   generalize upd H2 T3 (.tbl ps')=H3 at kp tb
   refine gl_list (K:=K) (S:=L) (xs:=ys) (fun i σ H'=>(∃v,σ=[v])∧Kp H3 H'∧TbK H3 H'∧∀y∈ys.take i,letB y=true) ⟨⟨_,rfl⟩,Kp.refl,TbK.refl,fun y h=>by simp at h⟩ ?_ ?_ ?_
   ·rintro i σ H' ⟨_,k,_⟩
    exact SqL.of ((kp.trans k).lst hL2)
   ·rintro i y σ H' C hi ⟨⟨v,rfl⟩,k,tk,al⟩ nx
    obtain ⟨th,sl⟩:=ely y (List.mem_of_getElem? hi)
    refine ⟨_,rfl,y,rfl,((th.kp k2).kp kp).kp k,sl,tk _ (tb _ (t2 _ ht1)),fun H4 k4 t4=>⟨_,rfl,?_⟩⟩
    by_cases hl:letB y=true
    ·rw [hl]
     refine iteT (nx _ _ ⟨⟨_,rfl⟩,k.trans k4,tk.trans t4,fun z hz=>?_⟩)
     rw [List.take_add_one,hi] at hz
     rcases List.mem_append.mp hz with h | h
     ·exact al z h
     ·rw [show z=y by simpa using h]; exact hl
    ·have hl':letB y=false:=by simpa using hl
     rw [hl']
     refine iteF ⟨_,rfl,iteT ⟨s1,bad (fun ⟨L',ls,e,hL',_,_,z3⟩=>hl ?_) _ ((kp.trans k).trans k4) ((tb.trans tk).trans t4)⟩⟩
     cases e
     rw [hL] at hL'; cases hL'
     obtain ⟨c,hc,rfl⟩:=at_sg hi
     exact letB_sg1 (z3 c (List.mem_of_getElem? hc))
   rintro σ H4 ⟨_,k4,t4,al⟩
   rw [List.take_length] at al
   refine ⟨_,rfl,iteF ?_⟩
   obtain ⟨ls,els,loc⟩:∃ls,ys=txs (sgs ls)∧∀c∈ls,occ c=true:=by
    clear alt bad ely len y100 hL hL2 ty2
    induction ys with
    | nil=>exact ⟨[],rfl,nofun⟩
    | cons y ys ih=>
     obtain ⟨ls,e1,e2⟩:=ih (fun z hz=>al z (List.mem_cons_of_mem _ hz))
     obtain ⟨c,rfl,oc⟩:=letB_str (al _ (List.mem_cons_self ..))
     exact ⟨c :: ls,by rw [e1]; rfl,fun d hd=>(List.mem_cons.mp hd).elim (fun z=>z ▸ oc) (e2 d)⟩
   subst els
   have ll:ls.length=cs.length:=by
    rw [txs_len] at len; unfold sgs at len; rw [List.length_map] at len; exact len
   have k24:=kp.trans k4
   have t24:=tb.trans t4
   have hL4:=k24.lst hL2
   have sl:(sgs ls).length=ls.length:=List.length_map ..
   refine ⟨_,rfl,L,sgs ls,rfl,SqL.of hL4,by omega,?_⟩
   (intro p gp; generalize hEq:upd _ p _=H5; refine newC hEq gp ?_; clear hEq; intro S5 ep op)
   refine ⟨p,_,rfl,ep,?_⟩
   have hL5:=S5 _ _ hL4
   refine ⟨_,rfl,L,_,rfl,.inl (SqL.of hL5),rfl,_,rfl,?_⟩
   rw [txs_len]
   have k25:=k24.trans (Kp.same S5)
   have t25:=t24.same S5
   by_cases nd:ls.Nodup
   rotate_left
   ·have ne:¬V.int (((setAll (sgs ls)).length:Nat):Int)=V.int ((sgs ls).length:Int):=fun z=>by
     injection z with z
     exact nd (sgs_nodup.mp (setAll_nodup.mp (by omega)))
    refine ite2 (fun _=>⟨s1,bad (fun ⟨L',ls',e,hL',_,z2,_⟩=>nd ?_) _ k25 t25⟩) (fun z=>absurd ?_ z)
    ·cases e
     rw [hL] at hL'
     injection hL' with hL'
     injection hL' with hL'
     have:=txs_inj hL'
     have e3:ls=ls':=by
      unfold sgs at this
      exact (List.map_inj_right (fun _ _ z=>sg1_inj z)).mp this
     rw [e3]; exact z2
    ·show (!decide _)=true
     rw [decide_eq_false ne]; rfl
   rw [setAll_nodup.mpr (sgs_nodup.mpr nd),show (!decide (V.int ((sgs ls).length:Int)=V.int ((sgs ls).length:Int)))=false by simp]
   refine iteF ?_
   have hsg5:=k25.lst hsg
   refine ⟨_,rfl,_,rfl,sg,L,rfl,⟨_,SqL.of hsg5⟩,⟨_,SqL.of hL5⟩,?_⟩
   (intro D gD; generalize hEq:upd _ D _=H6; refine newC hEq gD ?_; clear hEq; intro S6 eD oD)
   have kl:=kvS_len (cs:=cs) (ls:=ls) ll.symm
   have kn:=kvS_nd (cs:=cs) (ls:=ls) ll.symm tg.nd
   refine lr_zipL (K:=K) (a:=sg) (b:=L) (xs:=txs (sgs cs)) (ys:=txs (sgs ls)) (fun i σ H'=>(∃v w,σ=[v,w])∧Same H5 H'∧H' D=some (.dK ((kvS cs ls).take i))) ⟨⟨_,_,rfl⟩,S6,eD⟩ (by rw [sgl,txs_len,sl]; exact ll.symm) ?_ ?_ ?_
   ·rintro i σ H' ⟨_,k,_⟩
    exact ⟨SqL.of (k _ _ hsg5),SqL.of (k _ _ hL5)⟩
   ·rintro i x y tt σ H' Cn hxi hyi gt ⟨⟨v,w,rfl⟩,k,hD⟩ nx
    obtain ⟨c0,hc0,rfl⟩:=at_sg hxi
    obtain ⟨d0,hd0,rfl⟩:=at_sg hyi
    have il:=(List.getElem?_eq_some_iff.mp hc0).1
    have kat:=kvS_at hc0 hd0
    have k4:Same H' (upd H' tt (.tup [.str (sg1 c0),.str (sg1 d0)])):=same_upd gt
    have et:(upd H' tt (.tup [.str (sg1 c0),.str (sg1 d0)])) tt=some (.tup [.str (sg1 c0),.str (sg1 d0)]):=upd_same
    generalize upd H' tt (.tup [.str (sg1 c0),.str (sg1 d0)])=H7 at k4 et
    have hD4:=k4 _ _ hD
    have new:valV ((kvS cs ls).take i) (Sum.inr (sg1 c0):Key)=none:=by
     refine valV_out fun m=>?_
     obtain ⟨p,hp,ep⟩:=List.mem_map.mp m
     obtain ⟨j,hj⟩:=List.getElem?_of_mem hp
     have jl:=(List.getElem?_eq_some_iff.mp hj).1
     rw [List.length_take] at jl
     rw [List.getElem?_take_of_lt (by omega)] at hj
     have q1:((kvS cs ls).map (·.1))[j]? = some (Sum.inr (sg1 c0):Key):=by rw [List.getElem?_map,hj,Option.map_some,ep]
     have q2:((kvS cs ls).map (·.1))[i]? = some (Sum.inr (sg1 c0):Key):=by rw [List.getElem?_map,kat]; rfl
     have:=(List.getElem?_inj (by rw [List.length_map]; omega) kn).mp (q1.trans q2.symm)
     omega
    refine ⟨tt,_,rfl,SqT.of et,rfl,_,_,rfl,_,_,rfl,rfl,?_⟩
    refine ⟨_,rfl,_,rfl,(Sum.inr (sg1 c0):Key),_,rfl,hD4,Nat.lt_of_le_of_lt (show _≤100 by rw [List.length_take]; omega) (by decide),nx _ _ ⟨⟨_,_,rfl⟩,fun b u e=>?_,?_⟩⟩
    ·rw [upd_ne (ne_of_none e gD)]; exact k4 _ _ (k _ _ e)
    ·rw [putK_new _ new,List.take_add_one,kat]; exact upd_same
   ·rintro σ H7 ⟨_,S7,hD⟩
    rw [sgl,← kl,List.take_length] at hD
    have k27:=k25.trans (Kp.same S7)
    have t27:=t25.same S7
    rcases alt with ⟨nl,_⟩ | ⟨L',ls',e,hL',z1,z2,z3,q⟩
    ·exact absurd ⟨L,ls,rfl,hL,ll,nd,loc⟩ nl
    ·cases e
     rw [hL] at hL'
     injection hL' with hL'
     injection hL' with hL'
     have:=txs_inj hL'
     have e3:ls=ls':=by
      unfold sgs at this
      exact (List.map_inj_right (fun _ _ z=>sg1_inj z)).mp this
     subst e3
     refine q D _ H7 (k2.trans k27) (t2.trans t27) (.of (k2.trans k25) gD) hD fun c hc=>?_
     obtain ⟨j,hj⟩:=List.getElem?_of_mem hc
     have jl:=(List.getElem?_eq_some_iff.mp hj).1
     have ej:ls[j]? = some (ls[j]'(by omega)):=List.getElem?_eq_getElem _
     rw [rf_at tg.nd hj ej]
     exact val_mem kn (kvS_at hj ej)
end
def TRow (H:Hp) (g:Nat→Nat) (x y:V):Prop:=∃a c p l b,x = .ref a∧H a=some (.tup [.str (sg1 c),p,l])∧y = .ref b∧H b=some (.tup [.str (sg1 (g c)),p,l])
theorem TRow.kp {H H':Hp} {g:Nat→Nat} {x y:V} (h:TRow H g x y) (k:Kp H H'):TRow H' g x y:=by
 obtain ⟨a,c,p,l,b,e1,h1,e2,h2⟩:=h
 exact ⟨a,c,p,l,b,e1,k.tup h1,e2,k.tup h2⟩
theorem TRow.tk {H H':Hp} {g:Nat→Nat} {x y:V} (h:TRow H g x y) (k:TupK H H'):TRow H' g x y:=by
 obtain ⟨a,c,p,l,b,e1,h1,e2,h2⟩:=h
 exact ⟨a,c,p,l,b,e1,k _ _ h1,e2,k _ _ h2⟩
structure Trs (H:Hp) (g:Nat→Nat) (xs ys:List V):Prop where
 len:ys.length=xs.length
 row:∀(i:Nat) (x y:V),xs[i]? = some x→ys[i]? = some y→TRow H g x y
theorem Trs.kp {H H':Hp} {g:Nat→Nat} {xs ys:List V} (h:Trs H g xs ys) (k:Kp H H'):Trs H' g xs ys:=⟨h.len,fun i x y e1 e2=>(h.row i x y e1 e2).kp k⟩
theorem Trs.tk {H H':Hp} {g:Nat→Nat} {xs ys:List V} (h:Trs H g xs ys) (k:TupK H H'):Trs H' g xs ys:=⟨h.len,fun i x y e1 e2=>(h.row i x y e1 e2).tk k⟩
theorem Trs.snoc {H:Hp} {g:Nat→Nat} {xs ys:List V} {i:Nat} {x y:V} (h:Trs H g (xs.take i) ys) (e:xs[i]? = some x) (r:TRow H g x y):Trs H g (xs.take (i + 1)) (ys ++ [y]):=by
 have il:=(List.getElem?_eq_some_iff.mp e).1
 have hl:=h.len
 rw [List.length_take] at hl
 rw [List.take_add_one,e]
 refine ⟨by simp; omega,fun j u v e1 e2=>?_⟩
 by_cases jl:j < ys.length
 ·rw [List.getElem?_append_left (by rw [List.length_take]; omega)] at e1
  rw [List.getElem?_append_left jl] at e2
  exact h.row j u v e1 e2
 ·have z:j=ys.length:=by
   have:=(List.getElem?_eq_some_iff.mp e2).1
   simp at this; omega
  subst z
  rw [List.getElem?_append_right (Nat.le_refl _),Nat.sub_self] at e2
  rw [List.getElem?_append_right (by rw [List.length_take]; omega),List.length_take,show ys.length - min i xs.length=0 by omega] at e1
  cases e1; cases e2; exact r
theorem in_prs {cs:List Nat} {p:Str} (h:p∈prs (sgs cs)):(∀c∈p.cps.toList,c∈cs)∧p.length≤2:=by
 unfold prs sgs at h
 obtain ⟨a,ha,hp⟩:=List.mem_flatMap.mp h
 obtain ⟨c,hc,rfl⟩:=List.mem_map.mp ha
 obtain ⟨b,hb,rfl⟩:=List.mem_map.mp hp
 obtain ⟨d,hd,rfl⟩:=List.mem_map.mp hb
 have e:(sg1 c ++ sg1 d).cps.toList=[c,d]:=by rw [app_list]; rfl
 refine ⟨fun x hx=>?_,?_⟩
 ·rw [e] at hx
  rcases List.mem_cons.mp hx with rfl | hx
  ·exact hc
  ·rw [List.mem_singleton.mp hx]; exact hd
 ·show (sg1 c ++ sg1 d).cps.size≤2
  rw [← Array.length_toList,e]; exact Nat.le_refl _
section
variable {P:Program} {w:World} {K:PySem.W.Frag} {mg:Str→Option Value} {base:Heap}
def CbBad (CT N:Addr) (H:Hp) (x y:V) (E:XK):Prop:=
 (∃v,OutT H x (some v)∧∀dx H',Kp H H'→TbK H H'→H' dx=some (.xd [("part",v)])→E (.ref CT) (some dx) H')∨
 ∃t cs fs ps lg,x = .ref t∧Tg H t cs fs ps lg∧ThL H y∧¬LetP H y cs.length∧∀H',Kp H H'→TbK H H'→E (.ref N) none H'
structure Lts (H:Hp) (L:Addr) (cs ls:List Nat):Prop where
 h:H L=some (.lst (txs (sgs ls)))
 len:ls.length=cs.length
 nd:ls.Nodup
 oc:∀c∈ls,occ c=true
theorem Lts.kp {H H':Hp} {L:Addr} {cs ls:List Nat} (h:Lts H L cs ls) (k:Kp H H'):Lts H' L cs ls:={h with h:=k.lst h.h}
theorem Lts.thl {H:Hp} {L:Addr} {cs ls:List Nat} (h:Lts H L cs ls) (c6:cs.length≤6):ThL H (.ref L):=by
 refine ⟨.lst h.h,fun a xs e e'=>?_⟩
 cases e
 rw [h.h] at e'; cases e'
 refine ⟨by rw [txs_len]; unfold sgs; rw [List.length_map,h.len]; omega,fun z hz=>?_⟩
 obtain ⟨s,hs,rfl⟩:=List.mem_map.mp hz
 obtain ⟨c,_,rfl⟩:=List.mem_map.mp hs
 exact ⟨.str _,fun s e=>by injection e with e; rw [← e]; exact Nat.le_trans (show (1:Nat)≤8 by decide) (by decide)⟩
theorem cb_of {CT N T1 T2 T3:Addr} {H:Hp} {x y:V} {Q:VK} {E:XK} (tx:ThT H x) (h1:Tab T1 H) (h2:Tab T2 H) (h3:Tab T3 H) (bad:CbBad CT N H x y E):spCallsBy CT N T1 T2 T3 [x,y] H Q E:=by
 refine ⟨x,y,rfl,tx,h1,h2,h3,?_⟩
 rcases bad with h | ⟨t,cs,fs,ps,lg,e,tg,ty,n,q⟩
 ·exact .inl h
 ·exact .inr ⟨t,cs,fs,ps,lg,e,tg,ty,.inl ⟨n,q⟩⟩
theorem cb_ok {CT N T1 T2 T3:Addr} {H:Hp} {t L:Addr} {cs ls:List Nat} {fs ps:List Str} {lg:Int} {Q:VK} {E:XK} (tg:Tg H t cs fs ps lg) (hl:Lts H L cs ls) (h1:Tab T1 H) (h2:Tab T2 H) (h3:Tab T3 H)
  (q:∀D kvs H',Kp H H'→TbK H H'→NewL H D→H' D=some (.dK kvs)→(∀c∈cs,valV kvs (Sum.inr (sg1 c):Key)=some (.str (sg1 (rf cs ls c))))→Q (.ref D) H'):spCallsBy CT N T1 T2 T3 [.ref t,.ref L] H Q E:=
 ⟨_,_,rfl,tg.out.1,h1,h2,h3,.inr ⟨t,cs,fs,ps,lg,rfl,tg,hl.thl tg.c6,.inr ⟨L,ls,rfl,hl.h,hl.len,hl.nd,hl.oc,q⟩⟩⟩
def spTT (CT N T1 T2 T3:Addr):Sp:=fun vs H Q E=>∃x y,vs=[x,y]∧ThT H x∧Tab T1 H∧Tab T2 H∧Tab T3 H∧(CbBad CT N H x y E∨
  ∃t L cs fs ps lg ls,x = .ref t∧y = .ref L∧Tg H t cs fs ps lg∧Lts H L cs ls∧
   ∀u S F G S0 xs ys H',Kp H H'→TbK H H'→NewL H S→NewL H F→NewL H G→S≠F→S≠G→F≠G→H' u=some (.tup [.ref S,.ref F,.ref G,.int lg])→(∃f0 p0,H t=some (.tup [.ref S0,f0,p0,.int lg]))→H S0=some (.lst xs)→H' S=some (.lst ys)→Trs H' (rf cs ls) xs ys→H' F=some (.lst (txs (fs.map (mapS (rf cs ls)))))→H' G=some (.lst (txs (ps.map (mapS (rf cs ls)))))→Q (.ref u) H')
theorem scTt:FnScope ["tongue","letters","calls","signs","firsts","pairs","longest"] ["tongue","letters"] (defScope sTTongue):=⟨rfl,rfl,rfl,by decide +kernel,rfl,by decide +kernel,by decide +kernel⟩
theorem ok_tt {CT N T1 T2 T3:Addr} {f fC fD:Addr} {fd fdC fdD:FuncData} (F:FunG K "turned_tongue" "turned_tongue" sTTongue .none f fd)
  (GC:FnOk P w K mg base (CXE P w) 8 fC fdC ["tongue","letters"] (spCallsBy CT N T1 T2 T3)) (mC:mg "calls_by" = some (.ref fC)) (kC:PySem.W.keepIn K (.ref fC)=true) (bC:Binds K fdC ["tongue","letters"] [])
  (GD:FnOk P w K mg base (CXE P w) 1 fD fdD ["calls","text"] spCalled) (mD:mg "called" = some (.ref fD)) (kD:PySem.W.keepIn K (.ref fD)=true) (bD:Binds K fdD ["calls","text"] []):FnOk P w K mg base (CXE P w) 9 f fd ["tongue","letters"] (spTT CT N T1 T2 T3):=by
 refine F.zokE scTt (fun vs H Q E h=>?_) (fun cdv A outer s H vs Q E hr h=>?_)
 ·obtain ⟨x,y,rfl,_⟩:=h
  rfl
 ·obtain ⟨x,y,rfl,hx,h1,h2,h3,alt⟩:=h
  refine ⟨_,(zpss_cons (zps_set (i:=2) scTt.nd rfl (Or.inr rfl) (zpe_call GC hr (by rfl) mC kC bC .nil (passes_fn fun _ _ _ z=>z) (zpac_n (zpv 0) (zpac_n (zpv 1) zpa_nil))))
   (zpss_cons (zps_asg (zpv 0) (zpg_tup rfl (zpgs_cons (zpg_name (i:=3) scTt.nd rfl (Or.inl rfl)) (zpgs_cons (zpg_name (i:=4) scTt.nd rfl (Or.inl rfl)) (zpgs_cons (zpg_name (i:=5) scTt.nd rfl (Or.inl rfl)) (zpgs_cons (zpg_name (i:=6) scTt.nd rfl (Or.inl rfl)) zpgs_nil))))))
   (zpss_one (zps_ret (zpe_tup (zpac_x (zpe_compL ["tongue","letters","calls","signs","firsts","pairs","longest"] ["sign","price","last"] [2] (defScope sTTongue) rfl rfl rfl ⟨by decide +kernel,by decide +kernel,by decide +kernel,by decide +kernel,by decide +kernel⟩ (zpi_list (zpv 3)) (fun s H fp=>(zpg_tupK K 3 rfl rfl (zpgs_cons (zpg_name (i:=0) (show List.Nodup [("sign" : Str),"price","last","calls"] by decide +kernel) rfl (Or.inl rfl)) (zpgs_cons (zpg_name (i:=1) (show List.Nodup [("sign" : Str),"price","last","calls"] by decide +kernel) rfl (Or.inl rfl)) (zpgs_cons (zpg_name (i:=2) (show List.Nodup [("sign" : Str),"price","last","calls"] by decide +kernel) rfl (Or.inl rfl)) zpgs_nil))))) (fun s H fp=>zpts_nil) (fun s H fp=>(zpe_tup (zpac_s (zpe_dget hr.units1 (zpv 3) (zpv 0) (fun _ _=>rfl)) (zpac_n (zpv 1) (zpac_n (zpv 2) zpa_nil)))))) (zpac_x (zpe_compL ["tongue","letters","calls","signs","firsts","pairs","longest"] ["sign"] [2] (defScope sTTongue) rfl rfl rfl ⟨by decide +kernel,by decide +kernel,by decide +kernel,by decide +kernel,by decide +kernel⟩ (zpi_list (zpv 4)) (fun s H fp=>(zpg_name (i:=0) (show List.Nodup [("sign" : Str),"calls"] by decide +kernel) rfl (Or.inl rfl))) (fun s H fp=>zpts_nil) (fun s H fp=>(zpe_dget hr.units1 (zpv 1) (zpv 0) (fun _ _=>rfl)))) (zpac_x (zpe_compL ["tongue","letters","calls","signs","firsts","pairs","longest"] ["pair"] [2] (defScope sTTongue) rfl rfl rfl ⟨by decide +kernel,by decide +kernel,by decide +kernel,by decide +kernel,by decide +kernel⟩ (zpi_list (zpv 5)) (fun s H fp=>(zpg_name (i:=0) (show List.Nodup [("pair" : Str),"calls"] by decide +kernel) rfl (Or.inl rfl))) (fun s H fp=>zpts_nil) (fun s H fp=>(zpe_call GD (hr.mono (by decide)) (by rfl) mD kD bD .nil passE0 (zpac_n (zpv 1) (zpac_n (zpv 0) zpa_nil))))) (zpac_n (zpv 6) zpa_nil))))))))),?_⟩
  rcases alt with bad | ⟨t,L,cs,fs,ps,lg,ls,rfl,rfl,tg,hl,q⟩
  ·refine ⟨_,rfl,_,rfl,?_⟩
   dsimp only [tNil]
   exact cb_of hx h1 h2 h3 bad
  ·refine ⟨_,rfl,_,rfl,?_⟩
   dsimp only [tNil]
   refine cb_ok tg hl h1 h2 h3 fun D kvs H1 k1 t1 nD hD hk=>?_
   obtain ⟨S0,F0,G0,xs,g1,g2,g3,g4,g5⟩:=tg.ex
   have c6:=tg.c6
   have xl:xs.length=cs.length:=g3.len
   obtain ⟨g,hg⟩:∃g,g=rf cs ls:=⟨_,rfl⟩
   rw [← hg] at hk q
   refine ⟨_,rfl,t,_,rfl,SqT.of (k1.tup g1),rfl,_,_,rfl,_,_,rfl,_,_,rfl,_,_,rfl,rfl,?_⟩
   refine ⟨_,rfl,S0,rfl,⟨_,SqL.of (k1.lst g2)⟩,?_⟩
   (intro S gS; generalize hEq:upd _ S _=H2; refine newC hEq gS ?_; clear hEq; intro S2 eS oS)
   refine lr_list (K:=K) (S:=S0) (xs:=xs) (fun i σ H'=>(∃v1 v2 v3,σ=[v1,v2,v3,some (.ref D)])∧Same H1 H'∧∃ys,H' S=some (.lst ys)∧Trs H' g (xs.take i) ys) ⟨⟨_,_,_,rfl⟩,S2,[],eS,⟨by simp,fun i x y e=>by simp at e⟩⟩ (fun i σ H' p=>SqL.of (p.2.1 _ _ (k1.lst g2))) ?_ ?_
   ·rintro i x σ H' C hi ⟨⟨v1,v2,v3,rfl⟩,k2,ys,hS,ds⟩ nx
    obtain ⟨c,hc,row⟩:=g3.at hi
    have K1':=k1.trans (Kp.same k2)
    obtain ⟨a,p,l,rfl,ha,_⟩:=(row.kp K1').ex
    have hv:=hk c (List.mem_of_getElem? hc)
    have yl:ys.length≤6:=by rw [ds.len,List.length_take]; omega
    refine ⟨a,_,rfl,SqT.of ha,rfl,_,_,rfl,_,_,rfl,_,_,rfl,rfl,?_⟩
    refine ⟨_,rfl,_,rfl,D,_,rfl,hv ▸ DGet.k (k:=(Sum.inr (sg1 c):Key)) (k2 _ _ hD),_,rfl,_,rfl,by show 3≤sizeLine; decide,?_⟩
    (intro u gu; generalize hEq:upd _ u _=H5; refine newC hEq gu ?_; clear hEq; intro s45 eu ou)
    have hS5:=s45 _ _ hS
    have dr:TRow H5 g (.ref a) (.ref u):=⟨a,c,p,l,u,rfl,s45 _ _ ha,rfl,eu⟩
    refine ⟨ys,hS5,Nat.lt_of_le_of_lt yl (by decide),nx _ _ ⟨⟨_,_,_,rfl⟩,fun b o e=>?_,_,upd_same,((ds.kp (Kp.same s45)).snoc hi dr).tk (TupK.set hS5)⟩⟩
    rw [upd_ne (ne_of_none e gS)]; exact s45 _ _ (k2 _ _ e)
   rintro σ H3 ⟨_,S3,ys,hS3,ds⟩
   rw [List.take_length] at ds
   have K3:=k1.trans (Kp.same S3)
   refine ⟨_,rfl,F0,rfl,⟨_,SqL.of (K3.lst g4)⟩,?_⟩
   (intro F' gF'; generalize hEq:upd _ F' _=H4; refine newC hEq gF' ?_; clear hEq; intro S4 eF oF)
   have fl:=tg.flen
   refine lr_list (K:=K) (S:=F0) (xs:=txs fs) (fun i σ H'=>(∃v,σ=[v,some (.ref D)])∧Same H3 H'∧H' F'=some (.lst (txs ((fs.take i).map (mapS g))))) ⟨⟨_,rfl⟩,S4,eF⟩ (fun i σ H' p=>SqL.of (p.2.1 _ _ (K3.lst g4))) ?_ ?_
   ·rintro i x σ H' C hi ⟨⟨v,rfl⟩,k2,hF⟩ nx
    obtain ⟨z,hz,rfl⟩:∃z,fs[i]? = some z∧x = .str z:=by
     unfold txs at hi
     rw [List.getElem?_map] at hi
     obtain ⟨z,e1,e2⟩:=Option.map_eq_some_iff.mp hi
     exact ⟨z,e1,e2.symm⟩
    obtain ⟨c,hc,rfl⟩:=List.mem_map.mp (tg.fsub z (List.mem_of_getElem? hz))
    have hv:=hk c hc
    refine ⟨_,rfl,_,rfl,D,_,rfl,hv ▸ DGet.k (k:=(Sum.inr (sg1 c):Key)) (k2 _ _ (S3 _ _ hD)),_,hF,?_,nx _ _ ⟨⟨_,rfl⟩,fun b o e=>?_,?_⟩⟩
    ·rw [txs_len,List.length_map,List.length_take]
     exact Nat.lt_of_le_of_lt (show min i fs.length≤6 by omega) (by decide)
    ·rw [upd_ne (ne_of_none e gF')]; exact k2 _ _ e
    ·rw [List.take_add_one,hz,List.map_append,txs_app]; exact upd_same
   rintro σ H5 ⟨_,S5,hF5⟩
   rw [txs_len,List.take_length] at hF5
   have K5:=K3.trans (Kp.same S5)
   refine ⟨_,rfl,G0,rfl,⟨_,SqL.of (K5.lst g5)⟩,?_⟩
   (intro G' gG'; generalize hEq:upd _ G' _=H6; refine newC hEq gG' ?_; clear hEq; intro S6 eG oG)
   have pl:=tg.plen
   refine lr_list (K:=K) (S:=G0) (xs:=txs ps) (fun i σ H'=>(∃v,σ=[v,some (.ref D)])∧Same H5 H'∧H' G'=some (.lst (txs ((ps.take i).map (mapS g))))) ⟨⟨_,rfl⟩,S6,eG⟩ (fun i σ H' p=>SqL.of (p.2.1 _ _ (K5.lst g5))) ?_ ?_
   ·rintro i x σ H' C hi ⟨⟨v,rfl⟩,k2,hF⟩ nx
    obtain ⟨z,hz,rfl⟩:∃z,ps[i]? = some z∧x = .str z:=by
     unfold txs at hi
     rw [List.getElem?_map] at hi
     obtain ⟨z,e1,e2⟩:=Option.map_eq_some_iff.mp hi
     exact ⟨z,e1,e2.symm⟩
    obtain ⟨zc,z2⟩:=in_prs (tg.psub z (List.mem_of_getElem? hz))
    refine ⟨_,rfl,_,rfl,D,kvs,z,g,rfl,k2 _ _ (S5 _ _ (S3 _ _ hD)),fun c hc=>hk c (zc c hc),by omega,fun H7 S7=>?_⟩
    refine ⟨_,S7 _ _ hF,?_,nx _ _ ⟨⟨_,rfl⟩,fun b o e=>?_,?_⟩⟩
    ·rw [txs_len,List.length_map,List.length_take]
     exact Nat.lt_of_le_of_lt (show min i ps.length≤36 by omega) (by decide)
    ·rw [upd_ne (ne_of_none e gG')]; exact S7 _ _ (k2 _ _ e)
    ·rw [List.take_add_one,hz,List.map_append,txs_app]; exact upd_same
   rintro σ H7 ⟨_,S7,hG7⟩
   rw [txs_len,List.take_length] at hG7
   refine ⟨_,rfl,by show 4≤sizeLine; decide,?_⟩
   (intro u gu; generalize hEq:upd _ u _=H8; refine newC hEq gu ?_; clear hEq; intro S8 eu ou)
   have SF:S≠F':=fun z=>by rw [z,gF'] at hS3; cases hS3
   have SG:S≠G':=fun z=>by rw [z] at hS3; rw [S5 _ _ hS3] at gG'; cases gG'
   have FG:F'≠G':=fun z=>by rw [z,gG'] at hF5; cases hF5
   have S38:=(S5.trans S7).trans S8
   exact q u S F' G' S0 xs ys H8 (K3.trans (Kp.same S38)) (t1.same (S3.trans S38)) (.of k1 gS) (.of K3 gF') (.of K5 gG') SF SG FG eu ⟨_,_,g1⟩ g2 (S38 _ _ hS3) (ds.kp (Kp.same S38)) ((S7.trans S8) _ _ hF5) (S8 _ _ hG7)
def spTX (CT N T1 T2 T3:Addr):Sp:=fun vs H Q E=>∃x y z,vs=[x,y,z]∧ThT H x∧Tab T1 H∧Tab T2 H∧Tab T3 H∧(CbBad CT N H x y E∨
 ∃t L cs fs ps lg ls zs,x = .ref t∧y = .ref L∧z = .str zs∧Tg H t cs fs ps lg∧Lts H L cs ls∧(∀c∈zs.cps.toList,c∈cs)∧zs.length≤100∧∀H',Kp H H'→TbK H H'→Q (.str (mapS (rf cs ls) zs)) H')
theorem scTx:FnScope ["tongue","letters","text"] ["tongue","letters","text"] (defScope sTText):=⟨rfl,rfl,rfl,by decide +kernel,rfl,by decide +kernel,by decide +kernel⟩
theorem ok_tx {CT N T1 T2 T3:Addr} {f fC fD:Addr} {fd fdC fdD:FuncData} (F:FunG K "turned_text" "turned_text" sTText .none f fd)
  (GC:FnOk P w K mg base (CXE P w) 8 fC fdC ["tongue","letters"] (spCallsBy CT N T1 T2 T3)) (mC:mg "calls_by" = some (.ref fC)) (kC:PySem.W.keepIn K (.ref fC)=true) (bC:Binds K fdC ["tongue","letters"] [])
  (GD:FnOk P w K mg base (CXE P w) 1 fD fdD ["calls","text"] spCalled) (mD:mg "called" = some (.ref fD)) (kD:PySem.W.keepIn K (.ref fD)=true) (bD:Binds K fdD ["calls","text"] []):FnOk P w K mg base (CXE P w) 9 f fd ["tongue","letters","text"] (spTX CT N T1 T2 T3):=by
 refine F.zokE scTx (fun vs H Q E h=>?_) (fun cdv A outer s H vs Q E hr h=>?_)
 ·obtain ⟨x,y,z,rfl,_⟩:=h
  rfl
 ·obtain ⟨x,y,z,rfl,hx,h1,h2,h3,alt⟩:=h
  refine ⟨_,(zpss_one (zps_ret (zpe_call GD (hr.mono (by decide)) (by rfl) mD kD bD .nil passE0 (zpac_f (zpe_call GC hr (by rfl) mC kC bC .nil (passes_fn fun _ _ _ z=>z) (zpac_n (zpv 0) (zpac_n (zpv 1) zpa_nil))) (zpac_n (zpv 2) zpa_nil))))),?_⟩
  rcases alt with bad | ⟨t,L,cs,fs,ps,lg,ls,zs,rfl,rfl,rfl,tg,hl,zc,zl,q⟩
  ·refine ⟨_,rfl,_,rfl,?_⟩
   dsimp only [tNil]
   exact cb_of hx h1 h2 h3 bad
  ·refine ⟨_,rfl,_,rfl,?_⟩
   dsimp only [tNil]
   refine cb_ok tg hl h1 h2 h3 fun D kvs H1 k1 t1 nD hD hk=>?_
   exact ⟨_,rfl,D,kvs,zs,rf cs ls,rfl,hD,fun c hc=>hk c (zc c hc),zl,fun H2 S2=>q H2 (k1.trans (Kp.same S2)) (t1.same S2)⟩
def spTB (CT N T1 T2 T3:Addr):Sp:=fun vs H Q E=>∃x y z,vs=[x,y,z]∧ThT H x∧Tab T1 H∧Tab T2 H∧Tab T3 H∧(CbBad CT N H x y E∨
 ∃t L B cs fs ps lg ls zs,x = .ref t∧y = .ref L∧z = .ref B∧H B=some (.lst (txs zs))∧zs.length≤100∧Tg H t cs fs ps lg∧Lts H L cs ls∧(∀z∈zs,(∀c∈z.cps.toList,c∈cs)∧z.length≤100)∧
  ∀l H',Kp H H'→TbK H H'→NewL H l→H' l=some (.lst (txs (zs.map (mapS (rf cs ls)))))→Q (.ref l) H')
theorem scTb:FnScope ["tongue","letters","book","calls"] ["tongue","letters","book"] (defScope sTBook):=⟨rfl,rfl,rfl,by decide +kernel,rfl,by decide +kernel,by decide +kernel⟩
theorem ok_tb {CT N T1 T2 T3:Addr} {f fC fD:Addr} {fd fdC fdD:FuncData} (F:FunG K "turned_book" "turned_book" sTBook .none f fd)
  (GC:FnOk P w K mg base (CXE P w) 8 fC fdC ["tongue","letters"] (spCallsBy CT N T1 T2 T3)) (mC:mg "calls_by" = some (.ref fC)) (kC:PySem.W.keepIn K (.ref fC)=true) (bC:Binds K fdC ["tongue","letters"] [])
  (GD:FnOk P w K mg base (CXE P w) 1 fD fdD ["calls","text"] spCalled) (mD:mg "called" = some (.ref fD)) (kD:PySem.W.keepIn K (.ref fD)=true) (bD:Binds K fdD ["calls","text"] []):FnOk P w K mg base (CXE P w) 9 f fd ["tongue","letters","book"] (spTB CT N T1 T2 T3):=by
 refine F.zokE scTb (fun vs H Q E h=>?_) (fun cdv A outer s H vs Q E hr h=>?_)
 ·obtain ⟨x,y,z,rfl,_⟩:=h
  rfl
 ·obtain ⟨x,y,z,rfl,hx,h1,h2,h3,alt⟩:=h
  refine ⟨_,(zpss_cons (zps_set (i:=3) scTb.nd rfl (Or.inr rfl) (zpe_call GC hr (by rfl) mC kC bC .nil (passes_fn fun _ _ _ z=>z) (zpac_n (zpv 0) (zpac_n (zpv 1) zpa_nil))))
   (zpss_one (zps_ret (zpe_compL ["tongue","letters","book","calls"] ["word"] [3] (defScope sTBook) rfl rfl rfl ⟨by decide +kernel,by decide +kernel,by decide +kernel,by decide +kernel,by decide +kernel⟩ (zpi_list (zpv 2)) (fun s H fp=>(zpg_name (i:=0) (show List.Nodup [("word" : Str),"calls"] by decide +kernel) rfl (Or.inl rfl))) (fun s H fp=>zpts_nil) (fun s H fp=>(zpe_call GD (hr.mono (by decide)) (by rfl) mD kD bD .nil passE0 (zpac_n (zpv 1) (zpac_n (zpv 0) zpa_nil)))))))),?_⟩
  rcases alt with bad | ⟨t,L,B,cs,fs,ps,lg,ls,zs,rfl,rfl,rfl,hB,z1,tg,hl,zok,q⟩
  ·refine ⟨_,rfl,_,rfl,?_⟩
   dsimp only [tNil]
   exact cb_of hx h1 h2 h3 bad
  ·refine ⟨_,rfl,_,rfl,?_⟩
   dsimp only [tNil]
   refine cb_ok tg hl h1 h2 h3 fun D kvs H1 k1 t1 nD hD hk=>?_
   refine ⟨_,rfl,B,rfl,⟨_,SqL.of (k1.lst hB)⟩,?_⟩
   (intro G' gG'; generalize hEq:upd _ G' _=H6; refine newC hEq gG' ?_; clear hEq; intro S6 eG oG)
   refine lr_list (K:=K) (S:=B) (xs:=txs zs) (fun i σ H'=>(∃v,σ=[v,some (.ref D)])∧Same H1 H'∧H' G'=some (.lst (txs ((zs.take i).map (mapS (rf cs ls)))))) ⟨⟨_,rfl⟩,S6,eG⟩ (fun i σ H' p=>SqL.of (p.2.1 _ _ (k1.lst hB))) ?_ ?_
   ·rintro i x σ H' C hi ⟨⟨v,rfl⟩,k2,hF⟩ nx
    obtain ⟨z,hz,rfl⟩:∃z,zs[i]? = some z∧x = .str z:=by
     unfold txs at hi
     rw [List.getElem?_map] at hi
     obtain ⟨z,e1,e2⟩:=Option.map_eq_some_iff.mp hi
     exact ⟨z,e1,e2.symm⟩
    obtain ⟨zc,z2⟩:=zok z (List.mem_of_getElem? hz)
    have il:=(List.getElem?_eq_some_iff.mp hz).1
    refine ⟨_,rfl,_,rfl,D,kvs,z,_,rfl,k2 _ _ hD,fun c hc=>hk c (zc c hc),z2,fun H7 S7=>?_⟩
    refine ⟨_,S7 _ _ hF,?_,nx _ _ ⟨⟨_,rfl⟩,fun b o e=>?_,?_⟩⟩
    ·rw [txs_len,List.length_map,List.length_take]
     exact Nat.lt_of_le_of_lt (show min i zs.length≤100 by omega) (by decide)
    ·rw [upd_ne (ne_of_none e gG')]; exact S7 _ _ (k2 _ _ e)
    ·rw [List.take_add_one,hz,List.map_append,txs_app]; exact upd_same
   ·rintro σ H7 ⟨_,S7,hG7⟩
    rw [txs_len,List.take_length] at hG7
    exact q G' H7 (k1.trans (Kp.same S7)) (t1.same S7) (.of k1 gG') hG7
end
theorem cut_len {xs:List V} {lo hi:Option Int}:(cutV xs lo hi).length≤xs.length:=cutV_length xs lo hi
theorem cut_sub {xs:List V} {lo hi:Option Int} {y:V} (h:y∈cutV xs lo hi):y∈xs:=by
 unfold cutV at h
 exact List.mem_of_mem_drop (List.mem_of_mem_take h)
section
variable {P:Program} {w:World} {K:PySem.W.Frag} {mg:Str→Option Value} {base:Heap}
def spDText:Sp:=fun vs H Q _=>∃(t:Addr) (z k:Int) (cs:List Nat) (fs ps:List Str) (lg:Int),vs=[.ref t,.int z,.int k]∧Tg H t cs fs ps lg∧0≤k∧k≤1000∧∀u H',Same H H'→(∀c∈u.cps.toList,c∈cs)→u.length≤20→Q (.str u) H'
theorem scDt:FnScope ["_law_tongue_here","_law_cell_here","_law_k","_law_row"] ["_law_tongue_here","_law_cell_here","_law_k"] (defScope sDText):=⟨rfl,rfl,rfl,by decide +kernel,rfl,by decide +kernel,by decide +kernel⟩
theorem ok_dtext {f fD:Addr} {fd fdD:FuncData} (F:FunG K "_law_drawn_text" "_law_drawn_text" sDText .none f fd) (B:Bl mg)
  (GD:FnOk P w K mg base (CXE P w) 1 fD fdD ["_law_cell_here","_law_k","_law_sizes"] spDraws) (mD:mg "_law_draws" = some (.ref fD)) (kD:PySem.W.keepIn K (.ref fD)=true) (bD:Binds K fdD ["_law_cell_here","_law_k","_law_sizes"] []):FnOk P w K mg base (CXE P w) 2 f fd ["_law_tongue_here","_law_cell_here","_law_k"] spDText:=by
 refine F.zokN scDt (fun vs H Q E h=>?_) (fun cdv A outer s H vs Q E hr h=>?_)
 ·obtain ⟨t,z,k,cs,fs,ps,lg,rfl,_⟩:=h
  rfl
 ·obtain ⟨t,z,k,cs,fs,ps,lg,rfl,tg,k0,k1,q⟩:=h
  refine ⟨_,(zpss_cons (zps_set (i:=3) scDt.nd rfl (Or.inl rfl) (zpe_call GD hr (by rfl) mD kD bD .nil passE0 (zpac_n (zpv 1) (zpac_n (zpv 2) (zpac_b (zpe_op op_cat (zpe_lst (zpac_c zpe_int zpa_nil)) (zpe_op op_rep (zpe_lst (zpac_c zpe_int zpa_nil)) zpe_int)) zpa_nil)))))
   (zpss_one (zps_ret (zpe_bm PySem.F.plainAttrs_str PySem.F.slot_str_join PySem.F.type_str_join mt_join zpe_str (zpac_x (zpe_compL ["_law_tongue_here","_law_cell_here","_law_k","_law_row"] ["_law_place"] [0] (defScope sDText) rfl rfl rfl ⟨by decide +kernel,by decide +kernel,by decide +kernel,by decide +kernel,by decide +kernel⟩ (zpi_list (zpe_slice sl_list (zpv 3) (zpo_some zpe_int) (zpo_some (zpe_op op_add zpe_int (zpe_ix ix_list (zpv 3) zpe_int (fun _ _=>rfl)))))) (fun s H fp=>(zpg_name (i:=0) (show List.Nodup [("_law_place" : Str),"_law_tongue_here"] by decide +kernel) rfl (Or.inl rfl))) (fun s H fp=>zpts_nil) (fun s H fp=>(zpe_ix (ix_tupK K rfl) (zpe_ix (ix_listK K rfl) (zpe_ix (ix_tupK K rfl) (zpv 1) zpe_int (fun _ _=>rfl)) (zpe_op op_mod (zpv 0) (zpe_callB (call_len_seqK K rfl) (by rfl) B.len PySem.boot_len (zpac_s (zpe_ix (ix_tupK K rfl) (zpv 1) zpe_int (fun _ _=>rfl)) zpa_nil))) (fun _ _=>rfl)) zpe_int (fun _ _=>rfl)))) zpa_nil))))),?_⟩
  obtain ⟨S,F0,G0,xs,g1,g2,g3,g4,g5⟩:=tg.ex
  have c2:=tg.c2
  have c6:=tg.c6
  have xl:xs.length=cs.length:=g3.len
  have s1:1≤sizeLine:=by decide
  refine ⟨_,rfl,_,rfl,s1,?_⟩
  (intro l1 gl1; generalize hEq:upd _ l1 _=H1; refine newC hEq gl1 ?_; clear hEq; intro S1 el1 ol1)
  refine ⟨s1,?_⟩
  (intro l2 gl2; generalize hEq:upd _ l2 _=H2; refine newC hEq gl2 ?_; clear hEq; intro S2 el2 ol2)
  refine ⟨l2,_,[V.int 6],rfl,rfl,el2,by decide,by decide,Nat.le_trans (show 1 * (12:Int).toNat≤100 by decide) (by decide),?_⟩
  (intro l3 gl3; generalize hEq:upd _ l3 _=H3; refine newC hEq gl3 ?_; clear hEq; intro S3 el3 ol3)
  rw [show (List.replicate (12:Int).toNat [V.int 6]).flatten=(List.replicate 12 (6:Int)).map V.int from rep_ints 12 6] at el3
  refine ⟨l1,l3,_,_,rfl,rfl,S3 _ _ (S2 _ _ el1),el3,Nat.le_trans (show 1 + 12≤100 by decide) (by decide),?_⟩
  (intro l4 gl4; generalize hEq:upd _ l4 _=H4; refine newC hEq gl4 ?_; clear hEq; intro S4 el4 ol4)
  have el4:H4 l4=some (.lst (((13:Int) :: List.replicate 12 6).map V.int)):=el4
  refine ⟨z,k,l4,13 :: List.replicate 12 6,rfl,k0,k1,el4,by decide,fun s hs=>?_,fun R ds H5 S5 gR eR bl=>?_⟩
  ·rcases List.mem_cons.mp hs with rfl | hs
   ·exact ⟨by decide,by decide +kernel⟩
   ·rw [(List.mem_replicate.mp hs).2]; exact ⟨by decide,by decide +kernel⟩
  obtain ⟨d0,h0,a0,b0⟩:=bl.at (i:=0) (s:=13) rfl
  have dl:ds.length=13:=by rw [bl.1]; rfl
  have S05:=(((S1.trans S2).trans S3).trans S4).trans S5
  have dpos:∀v∈ds.map V.int,∃d:Int,v = .int d∧0≤d:=fun v hv=>by
   obtain ⟨d,hd,rfl⟩:=List.mem_map.mp hv
   obtain ⟨i,hi⟩:=List.getElem?_of_mem hd
   have il:=(List.getElem?_eq_some_iff.mp hi).1
   have es:((13:Int) :: List.replicate 12 6)[i]? = some (((13:Int) :: List.replicate 12 6)[i]'(by rw [List.length_cons,List.length_replicate]; omega)):=List.getElem?_eq_getElem _
   exact ⟨d,rfl,(bl.2 i d _ hi es).1⟩
  refine ⟨rfl,?_⟩
  refine ⟨_,rfl,_,rfl,_,rfl,R,_,_,_,rfl,rfl,SqL.of eR,atInts h0 rfl,_,_,rfl,rfl,_,rfl,R,_,rfl,SqL.of eR,?_⟩
  (intro sl gsl; generalize hEq:upd _ sl _=H6; refine newC hEq gsl ?_; clear hEq; intro S6 esl osl)
  have sll:(cutV (ds.map V.int) (some 1) (some (1 + d0))).length≤13:=by
   have:=cut_len (xs:=ds.map V.int) (lo:=some 1) (hi:=some (1 + d0))
   rw [List.length_map] at this; omega
  refine ⟨sl,rfl,⟨_,SqL.of esl⟩,?_⟩
  (intro l gl; generalize hEq:upd _ l _=H7; refine newC hEq gl ?_; clear hEq; intro S7 el ol)
  have S07:=(S05.trans S6).trans S7
  refine lr_list (K:=K) (S:=sl) (xs:=cutV (ds.map V.int) (some 1) (some (1 + d0))) (fun i σ H'=>(∃v,σ=[v,some (.ref t)])∧Same H6 H'∧∃es:List Nat,H' l=some (.lst (txs (es.map sg1)))∧es.length=i∧∀c∈es,c∈cs) ⟨⟨_,rfl⟩,S7,[],el,rfl,nofun⟩ (fun i σ H' p=>SqL.of (p.2.1 _ _ esl)) ?_ ?_
  ·rintro i x σ H' C hi ⟨⟨v,rfl⟩,k2,es,hl,esl',ein⟩ nx
   obtain ⟨d,rfl,d0'⟩:=dpos x (cut_sub (List.mem_of_getElem? hi))
   have il:=(List.getElem?_eq_some_iff.mp hi).1
   have S0':Same H H':=(S05.trans S6).trans k2
   have g1':=S0' _ _ g1
   have g2':=S0' _ _ g2
   have lpos:(0:Int) < (xs.length:Int):=by omega
   have m0:=Int.emod_nonneg d (show (xs.length:Int)≠0 by omega)
   have m1:=Int.emod_lt_of_pos d lpos
   obtain ⟨m,em⟩:=Int.eq_ofNat_of_zero_le m0
   have mlt:m < xs.length:=by omega
   have ex:xs[m]? = some xs[m]:=List.getElem?_eq_getElem mlt
   generalize xs[m]=xm at ex
   obtain ⟨c,hc,row⟩:=(g3.kp (Kp.same S0')).at ex
   obtain ⟨a,p,la,rfl,ha,_⟩:=row.ex
   refine ⟨_,rfl,t,_,_,_,rfl,rfl,SqT.of g1',rfl,_,rfl,_,rfl,t,_,_,_,rfl,rfl,SqT.of g1',rfl,S,_,rfl,.inl (SqL.of g2'),_,_,rfl,rfl,lpos,S,_,_,.ref a,rfl,rfl,SqL.of g2',by rw [em]; exact atI_nat ex,a,_,_,_,rfl,rfl,SqT.of ha,rfl,_,hl,?_,nx _ _ ⟨⟨_,rfl⟩,fun b o e=>?_,es ++ [c],?_,by rw [List.length_append,esl']; rfl,fun c' hc'=>?_⟩⟩
   ·rw [txs_len,List.length_map]; exact Nat.lt_of_le_of_lt (show _≤100 by omega) (by decide)
   ·rw [upd_ne (ne_of_none e gl)]; exact k2 _ _ e
   ·rw [List.map_append,txs_app]; exact upd_same
   ·rcases List.mem_append.mp hc' with h | h
    ·exact ein c' h
    ·rw [List.mem_singleton.mp h]; exact List.mem_of_getElem? hc
  ·rintro σ H8 ⟨_,S8,es,hl,esl',ein⟩
   refine ⟨_,l,_,rfl,rfl,SqL.of hl,?_,?_⟩
   ·rw [sum_ones,List.length_map]
    show es.length + _ * 0≤16777216
    omega
   ·rw [join_cat,cat_sg1]
    refine q _ H8 ((S05.trans S6).trans S8) (fun c hc=>ein c (by simpa using hc)) ?_
    show es.toArray.size≤20
    simp; omega
def spDLetters (K:PySem.W.Frag):Sp:=fun vs H Q _=>∃(z k:Int) (n:Nat),vs=[.int z,.int k,.int n]∧0≤k∧k≤1000∧n≤8∧∀l ls H',Same H H'→H' l=some (.lst (txs (sgs ls)))→ls.length=n→ls.Nodup→(∀c∈ls,occ c=true)→Q (.ref l) H'
theorem scDl:FnScope ["_law_cell_here","_law_k","_law_many","_law_row"] ["_law_cell_here","_law_k","_law_many"] (defScope sDLetters):=⟨rfl,rfl,rfl,by decide +kernel,rfl,by decide +kernel,by decide +kernel⟩
theorem ok_dletters {f fD fL:Addr} {fd fdD fdL:FuncData} (F:FunG K "_law_drawn_letters" "_law_drawn_letters" sDLetters .none f fd) (B:Bl mg)
  (GD:FnOk P w K mg base (CXE P w) 1 fD fdD ["_law_cell_here","_law_k","_law_sizes"] spDraws) (mD:mg "_law_draws" = some (.ref fD)) (kD:PySem.W.keepIn K (.ref fD)=true) (bD:Binds K fdD ["_law_cell_here","_law_k","_law_sizes"] [])
  (GL:FnOk P w K mg base (CXE P w) 1 fL fdL ["_law_row","_law_many"] (spLetters K)) (mL:mg "_law_letters" = some (.ref fL)) (kL:PySem.W.keepIn K (.ref fL)=true) (bL:Binds K fdL ["_law_row","_law_many"] []):FnOk P w K mg base (CXE P w) 2 f fd ["_law_cell_here","_law_k","_law_many"] (spDLetters K):=by
 refine F.zokN scDl (fun vs H Q E h=>?_) (fun cdv A outer s H vs Q E hr h=>?_)
 ·obtain ⟨z,k,n,rfl,_⟩:=h
  rfl
 ·obtain ⟨z,k,n,rfl,k0,k1,n8,q⟩:=h
  refine ⟨_,(zpss_cons (zps_set (i:=3) scDl.nd rfl (Or.inl rfl) (zpe_call GD hr (by rfl) mD kD bD .nil passE0 (zpac_n (zpv 0) (zpac_n (zpv 1) (zpac_l (zpe_lst (zpac_c zpe_int (zpac_c zpe_int zpa_nil))) zpa_nil)))))
   (zpss_one (zps_ret (zpe_call GL hr (by rfl) mL kL bL .nil passE0 (zpac_l (zpe_lst (zpac_c zpe_int (zpac_c zpe_int (zpac_s (zpe_ix ix_list (zpv 3) zpe_int (fun _ _=>rfl)) (zpac_s (zpe_ix ix_list (zpv 3) zpe_int (fun _ _=>rfl)) zpa_nil))))) (zpac_n (zpv 2) zpa_nil)))))),?_⟩
  refine ⟨_,rfl,_,rfl,by show 2≤sizeLine; decide,?_⟩
  (intro l1 gl1; generalize hEq:upd _ l1 _=H1; refine newC hEq gl1 ?_; clear hEq; intro S1 el1 ol1)
  refine ⟨z,k,l1,[26,6],rfl,k0,k1,el1,by decide,fun s hs=>?_,fun R ds H2 S2 gR eR bl=>?_⟩
  ·simp only [List.mem_cons,List.not_mem_nil,or_false] at hs
   rcases hs with rfl | rfl <;> exact ⟨by decide,by decide +kernel⟩
  obtain ⟨d0,h0,a0,b0⟩:=bl.at (i:=0) (s:=26) rfl
  obtain ⟨d1,h1,a1,b1⟩:=bl.at (i:=1) (s:=6) rfl
  obtain ⟨d0,rfl⟩:=Int.eq_ofNat_of_zero_le a0
  obtain ⟨d1,rfl⟩:=Int.eq_ofNat_of_zero_le a1
  refine ⟨_,rfl,R,_,_,_,rfl,rfl,SqL.of eR,atInts h0 rfl,_,rfl,R,_,_,_,rfl,rfl,SqL.of eR,atInts h1 rfl,by show 4≤sizeLine; decide,?_⟩
  (intro l4 gl4; generalize hEq:upd _ l4 _=H3; refine newC hEq gl4 ?_; clear hEq; intro S3 el4 ol4)
  refine ⟨_,rfl,l4,_,d0,d1,n,rfl,SqL.of el4,rfl,rfl,by omega,by omega,n8,fun l ls H4 gl S4 hl ll nd oc=>?_⟩
  exact q l ls H4 (((S1.trans S2).trans S3).trans S4) hl ll nd oc
def spLTurned (K:PySem.W.Frag):Sp:=fun vs H Q _=>∃(t L:Addr) (cs:List Nat) (fs ps:List Str) (lg:Int) (ls:List Nat),vs=[.ref t,.ref L]∧Tg H t cs fs ps lg∧Lts H L cs ls∧
   ∀u S F G S0 xs ys H',Same H H'→H' u=some (.tup [.ref S,.ref F,.ref G,.int lg])→(∃f0 p0,H t=some (.tup [.ref S0,f0,p0,.int lg]))→H S0=some (.lst xs)→H' S=some (.lst ys)→Trs H' (rf cs ls) xs ys→H' F=some (.lst (txs (fs.map (mapS (rf cs ls)))))→H' G=some (.lst (txs (ps.map (mapS (rf cs ls)))))→Q (.ref u) H'
theorem scLu:FnScope ["_law_tongue_here","_law_letters_here","_law_signs","_law_firsts"] ["_law_tongue_here","_law_letters_here"] (defScope sLTurned):=⟨rfl,rfl,rfl,by decide +kernel,rfl,by decide +kernel,by decide +kernel⟩
theorem ok_lturned {f fC:Addr} {fd fdC:FuncData} (F:FunG K "_law_turned" "_law_turned" sLTurned .none f fd) (B:Bl mg)
  (GC:FnOk P w K mg base (CXE P w) 1 fC fdC ["_law_tongue_here","_law_letters_here","_law_text"] (spLCalled K)) (mC:mg "_law_called" = some (.ref fC)) (kC:PySem.W.keepIn K (.ref fC)=true) (bC:Binds K fdC ["_law_tongue_here","_law_letters_here","_law_text"] []):FnOk P w K mg base (CXE P w) 2 f fd ["_law_tongue_here","_law_letters_here"] (spLTurned K):=by
 refine F.zokN scLu (fun vs H Q E h=>?_) (fun cdv A outer s H vs Q E hr h=>?_)
 ·obtain ⟨t,L,cs,fs,ps,lg,ls,rfl,_⟩:=h
  rfl
 ·obtain ⟨t,L,cs,fs,ps,lg,ls,rfl,tg,hl,q⟩:=h
  refine ⟨_,(zpss_cons (zps_compL (i:=2) ["_law_tongue_here","_law_letters_here","_law_signs","_law_firsts"] ["_law_k","_law_one"] [1] (defScope sLTurned) rfl rfl rfl ⟨by decide +kernel,by decide +kernel,by decide +kernel,by decide +kernel,by decide +kernel⟩ scLu.nd rfl (Or.inl rfl) (zpi_enum (by rfl) B.enum (zpac_s (zpe_ix ix_tup (zpv 0) zpe_int (fun _ _=>rfl)) zpa_nil)) (fun s H fp=>(zpg_tupK K 2 rfl rfl (zpgs_cons (zpg_name (i:=0) (show List.Nodup [("_law_k" : Str),"_law_one","_law_letters_here"] by decide +kernel) rfl (Or.inl rfl)) (zpgs_cons (zpg_name (i:=1) (show List.Nodup [("_law_k" : Str),"_law_one","_law_letters_here"] by decide +kernel) rfl (Or.inl rfl)) zpgs_nil)))) (fun s H fp=>zpts_nil) (fun s H fp=>(zpe_tup (zpac_s (zpe_ix (ix_listK K rfl) (zpv 2) (zpv 0) (fun _ _=>rfl)) (zpac_s (zpe_ix (ix_tupK K rfl) (zpv 1) zpe_int (fun _ _=>rfl)) (zpac_s (zpe_ix (ix_tupK K rfl) (zpv 1) zpe_int (fun _ _=>rfl)) zpa_nil))))))
   (zpss_cons (zps_compL (i:=3) ["_law_tongue_here","_law_letters_here","_law_signs","_law_firsts"] ["_law_sign_here"] [0,1] (defScope sLTurned) rfl rfl rfl ⟨by decide +kernel,by decide +kernel,by decide +kernel,by decide +kernel,by decide +kernel⟩ scLu.nd rfl (Or.inl rfl) (zpi_list (zpe_ix ix_tup (zpv 0) zpe_int (fun _ _=>rfl))) (fun s H fp=>(zpg_name (i:=0) (show List.Nodup [("_law_sign_here" : Str),"_law_tongue_here","_law_letters_here"] by decide +kernel) rfl (Or.inl rfl))) (fun s H fp=>zpts_nil) (fun s H fp=>(zpe_call GC hr (by rfl) mC kC bC .nil passE0 (zpac_n (zpv 1) (zpac_n (zpv 2) (zpac_n (zpv 0) zpa_nil))))))
   (zpss_one (zps_ret (zpe_tup (zpac_n (zpv 2) (zpac_n (zpv 3) (zpac_x (zpe_compL ["_law_tongue_here","_law_letters_here","_law_signs","_law_firsts"] ["_law_pair"] [0,1] (defScope sLTurned) rfl rfl rfl ⟨by decide +kernel,by decide +kernel,by decide +kernel,by decide +kernel,by decide +kernel⟩ (zpi_list (zpe_ix ix_tup (zpv 0) zpe_int (fun _ _=>rfl))) (fun s H fp=>(zpg_name (i:=0) (show List.Nodup [("_law_pair" : Str),"_law_tongue_here","_law_letters_here"] by decide +kernel) rfl (Or.inl rfl))) (fun s H fp=>zpts_nil) (fun s H fp=>(zpe_call GC hr (by rfl) mC kC bC .nil passE0 (zpac_n (zpv 1) (zpac_n (zpv 2) (zpac_n (zpv 0) zpa_nil)))))) (zpac_s (zpe_ix ix_tup (zpv 0) zpe_int (fun _ _=>rfl)) zpa_nil))))))))),?_⟩
  obtain ⟨S0,F0,G0,xs,g1,g2,g3,g4,g5⟩:=tg.ex
  have c6:=tg.c6
  have xl:xs.length=cs.length:=g3.len
  have fl:=tg.flen
  have pl:=tg.plen
  obtain ⟨g,hg⟩:∃g,g=rf cs ls:=⟨_,rfl⟩
  refine ⟨_,rfl,t,_,_,_,rfl,rfl,SqT.of g1,rfl,S0,rfl,⟨_,SqL.of g2⟩,?_⟩
  (intro S gS; generalize hEq:upd _ S _=H2; refine newC hEq gS ?_; clear hEq; intro S2 eS oS)
  refine lr_enum (K:=K) (S:=S0) (xs:=xs) (fun i σ H'=>(∃v1 v2,σ=[v1,v2,some (.ref L)])∧Same H H'∧∃ys,H' S=some (.lst ys)∧Trs H' (rf cs ls) (xs.take i) ys) ⟨⟨_,_,rfl⟩,S2,[],eS,⟨by simp,fun i x y e=>by simp at e⟩⟩ (fun i σ H' p=>SqL.of (p.2.1 _ _ g2)) ?_ ?_
  ·rintro i x tt σ H' C hi ⟨⟨v1,v2,rfl⟩,k2,ys,hS,ds⟩ gt nx
   obtain ⟨c,hc,row⟩:=g3.at hi
   have il:=(List.getElem?_eq_some_iff.mp hi).1
   have s3:=same_upd (o:=.tup [.int i,x]) gt
   have et:upd H' tt (.tup [.int i,x]) tt=some (.tup [.int i,x]):=upd_same
   generalize upd H' tt (.tup [.int i,x])=H3 at s3 et
   have k3:=k2.trans s3
   obtain ⟨a,p,l,rfl,ha,_⟩:=(row.kp (Kp.same k3)).ex
   have ll:=hl.len
   have ej:ls[i]? = some (ls[i]'(by omega)):=List.getElem?_eq_getElem _
   generalize ls[i]'(by omega)=d at ej
   have er:=rf_at tg.nd hc ej
   have yl:ys.length≤6:=by rw [ds.len,List.length_take]; omega
   have atd:atI (txs (sgs ls)) (i:Int)=some (.str (sg1 d)):=atI_nat (txs_at (by unfold sgs; rw [List.getElem?_map,ej]; rfl))
   refine ⟨tt,_,rfl,SqT.of et,rfl,_,_,rfl,_,_,rfl,rfl,?_⟩
   refine ⟨_,rfl,_,rfl,L,_,_,_,rfl,rfl,SqL.of (k3 _ _ hl.h),atd,_,rfl,a,_,_,_,rfl,rfl,SqT.of ha,rfl,_,rfl,a,_,_,_,rfl,rfl,SqT.of ha,rfl,by show 3≤sizeLine; decide,?_⟩
   (intro u gu; generalize hEq:upd _ u _=H5; refine newC hEq gu ?_; clear hEq; intro s45 eu ou)
   have S35:=s3.trans s45
   have hS5:=S35 _ _ hS
   have dr:TRow H5 (rf cs ls) (.ref a) (.ref u):=⟨a,c,p,l,u,rfl,s45 _ _ ha,rfl,by rw [er]; exact eu⟩
   refine ⟨ys,hS5,Nat.lt_of_le_of_lt yl (by decide),nx _ _ ⟨⟨_,_,rfl⟩,fun b o e=>?_,_,upd_same,((ds.kp (Kp.same S35)).snoc hi dr).tk (TupK.set hS5)⟩⟩
   rw [upd_ne (ne_of_none e gS)]; exact S35 _ _ (k2 _ _ e)
  rintro σ H3 ⟨_,S3,ys,hS3,ds⟩
  rw [List.take_length] at ds
  have call:∀{H':Hp} {z:Str},Same H H'→(∀c∈z.cps.toList,c∈cs)→z.length≤100→∀{Q':VK} {E':XK},(∀H'',Same H' H''→Q' (.str (mapS (rf cs ls) z)) H'')→spLCalled K [.ref t,.ref L,.str z] H' Q' E':=fun {H' z} s zc zl Q' E' qq=>
   ⟨t,L,S0,_,_,_,xs,cs,ls,z,rfl,s _ _ g1,s _ _ g2,g3.kp (Kp.same s),tg.nd,tg.c6,SqL.of (s _ _ hl.h),hl.len,zc,zl,qq⟩
  refine ⟨_,rfl,t,_,_,_,rfl,rfl,SqT.of (S3 _ _ g1),rfl,F0,rfl,⟨_,SqL.of (S3 _ _ g4)⟩,?_⟩
  (intro F' gF'; generalize hEq:upd _ F' _=H4; refine newC hEq gF' ?_; clear hEq; intro S4 eF oF)
  refine lr_list (K:=K) (S:=F0) (xs:=txs fs) (fun i σ H'=>(∃v,σ=[v,some (.ref t),some (.ref L)])∧Same H3 H'∧H' F'=some (.lst (txs ((fs.take i).map (mapS (rf cs ls)))))) ⟨⟨_,rfl⟩,S4,eF⟩ (fun i σ H' p=>SqL.of (p.2.1 _ _ (S3 _ _ g4))) ?_ ?_
  ·rintro i x σ H' C hi ⟨⟨v,rfl⟩,k2,hF⟩ nx
   obtain ⟨z,hz,rfl⟩:∃z,fs[i]? = some z∧x = .str z:=by
    unfold txs at hi
    rw [List.getElem?_map] at hi
    obtain ⟨z,e1,e2⟩:=Option.map_eq_some_iff.mp hi
    exact ⟨z,e1,e2.symm⟩
   obtain ⟨c,hc,rfl⟩:=List.mem_map.mp (tg.fsub z (List.mem_of_getElem? hz))
   refine ⟨_,rfl,_,rfl,_,rfl,?_⟩
   dsimp only [tNil]
   refine call (S3.trans k2) (fun x hx=>by rw [List.mem_singleton.mp (show x∈[c] from hx)]; exact hc) (by show 1≤100; decide) fun H7 S7=>?_
   refine ⟨_,S7 _ _ hF,?_,nx _ _ ⟨⟨_,rfl⟩,fun b o e=>?_,?_⟩⟩
   ·rw [txs_len,List.length_map,List.length_take]
    exact Nat.lt_of_le_of_lt (show min i fs.length≤6 by omega) (by decide)
   ·rw [upd_ne (ne_of_none e gF')]; exact S7 _ _ (k2 _ _ e)
   ·rw [List.take_add_one,hz,List.map_append,txs_app]; exact upd_same
  rintro σ H5 ⟨_,S5,hF5⟩
  rw [txs_len,List.take_length] at hF5
  have S05:=S3.trans S5
  refine ⟨_,rfl,_,rfl,_,rfl,t,_,_,_,rfl,rfl,SqT.of (S05 _ _ g1),rfl,G0,rfl,⟨_,SqL.of (S05 _ _ g5)⟩,?_⟩
  (intro G' gG'; generalize hEq:upd _ G' _=H6; refine newC hEq gG' ?_; clear hEq; intro S6 eG oG)
  refine lr_list (K:=K) (S:=G0) (xs:=txs ps) (fun i σ H'=>(∃v,σ=[v,some (.ref t),some (.ref L)])∧Same H5 H'∧H' G'=some (.lst (txs ((ps.take i).map (mapS (rf cs ls)))))) ⟨⟨_,rfl⟩,S6,eG⟩ (fun i σ H' p=>SqL.of (p.2.1 _ _ (S05 _ _ g5))) ?_ ?_
  ·rintro i x σ H' C hi ⟨⟨v,rfl⟩,k2,hF⟩ nx
   obtain ⟨z,hz,rfl⟩:∃z,ps[i]? = some z∧x = .str z:=by
    unfold txs at hi
    rw [List.getElem?_map] at hi
    obtain ⟨z,e1,e2⟩:=Option.map_eq_some_iff.mp hi
    exact ⟨z,e1,e2.symm⟩
   obtain ⟨zc,z2⟩:=in_prs (tg.psub z (List.mem_of_getElem? hz))
   refine ⟨_,rfl,_,rfl,_,rfl,?_⟩
   dsimp only [tNil]
   refine call (S05.trans k2) zc (by omega) fun H7 S7=>?_
   refine ⟨_,S7 _ _ hF,?_,nx _ _ ⟨⟨_,rfl⟩,fun b o e=>?_,?_⟩⟩
   ·rw [txs_len,List.length_map,List.length_take]
    exact Nat.lt_of_le_of_lt (show min i ps.length≤36 by omega) (by decide)
   ·rw [upd_ne (ne_of_none e gG')]; exact S7 _ _ (k2 _ _ e)
   ·rw [List.take_add_one,hz,List.map_append,txs_app]; exact upd_same
  rintro σ H7 ⟨_,S7,hG7⟩
  rw [txs_len,List.take_length] at hG7
  have S07:=S05.trans S7
  refine ⟨_,rfl,t,_,_,_,rfl,rfl,SqT.of (S07 _ _ g1),rfl,by show 4≤sizeLine; decide,?_⟩
  (intro u gu; generalize hEq:upd _ u _=H8; refine newC hEq gu ?_; clear hEq; intro S8 eu ou)
  exact q u S F' G' S0 xs ys H8 (S07.trans S8) eu ⟨_,_,g1⟩ g2 (S8 _ _ (S7 _ _ (S5 _ _ hS3))) (ds.kp (Kp.same ((S5.trans S7).trans S8))) (S8 _ _ (S7 _ _ hF5)) (S8 _ _ hG7)
end
end G1
namespace L2
open PySem
theorem op_notIn_seqK {X:Cx} (K:PySem.W.Frag) (h:X.K=K):OpR X (compareOp .NotIn) (rIn K true):=h ▸ op_notIn_seq
end L2
namespace G1
open PySem L2 GM
def NLt (H:Hp) (n:Nat) (y:V):Prop:=ThL H y∧¬LetP H y n
theorem NLt.kp {H H':Hp} {n:Nat} {y:V} (h:NLt H n y) (k:Kp H H'):NLt H' n y:=⟨h.1.kp k,fun z=>h.2 (z.back h.1.th k)⟩
theorem nl_flat {H:Hp} {n:Nat} {y:V} (f:flatV y=true):NLt H n y:=⟨⟨flat_th f,fun a xs e=>by rw [e] at f; cases f⟩,fun ⟨L,ls,e,_⟩=>by rw [e] at f; cases f⟩
theorem nl_tup {H:Hp} {n:Nat} {a:Addr} {xs:List V} (h:H a=some (.tup xs)):NLt H n (.ref a):=⟨⟨.tup h,fun b ys e e'=>by cases e; rw [h] at e'; cases e'⟩,fun ⟨L,ls,e,hL,_⟩=>by cases e; rw [h] at hL; cases hL⟩
theorem nl_dct {H:Hp} {n:Nat} {a:Addr} {xs:List (Key × V)} (h:H a=some (.dK xs)):NLt H n (.ref a):=⟨⟨.dK h,fun b ys e e'=>by cases e; rw [h] at e'; cases e'⟩,fun ⟨L,ls,e,hL,_⟩=>by cases e; rw [h] at hL; cases hL⟩
def Plain (y:V):Prop:=(flatV y=true∧∀s,y = .str s→s.length≤100)
theorem nl_lst {H:Hp} {n:Nat} {a:Addr} {xs:List V} (h:H a=some (.lst xs)) (l:xs.length≤100) (el:∀y∈xs,Plain y∨∃b zs,y = .ref b∧H b=some (.lst zs)) (bad:xs.length≠n∨(∃y∈xs,letB y=false)∨∃ms,xs=txs (sgs ms)∧¬ms.Nodup):NLt H n (.ref a):=by
 refine ⟨⟨.lst h,fun b ys e e'=>?_⟩,fun ⟨L,ls,e,hL,z1,z2,z3⟩=>?_⟩
 ·cases e
  rw [h] at e'; cases e'
  refine ⟨l,fun z hz=>?_⟩
  rcases el z hz with ⟨f,sl⟩ | ⟨b,zs,rfl,hb⟩
  ·exact ⟨flat_th f,fun s e=>Nat.le_trans (sl s e) (by decide)⟩
  ·exact ⟨.lst hb,nofun⟩
 ·cases e
  rw [h] at hL; cases hL
  rcases bad with b | ⟨y,hy,b⟩ | ⟨ms,e,b⟩
  ·apply b
   rw [txs_len]; unfold sgs; rw [List.length_map]; exact z1
  ·obtain ⟨s,hs,rfl⟩:=List.mem_map.mp hy
   obtain ⟨c,hc,rfl⟩:=List.mem_map.mp hs
   rw [letB_sg1 (z3 c hc)] at b; cases b
  ·have:=txs_inj e
   unfold sgs at this
   rw [(List.map_inj_right (fun _ _ z=>sg1_inj z)).mp this] at z2
   exact b z2
theorem plain_sg (c:Nat):Plain (.str (sg1 c)):=⟨rfl,fun s e=>by injection e with e; rw [← e]; show 1≤100; decide⟩
theorem plain_txs {ls:List Nat}:∀y∈txs (sgs ls),Plain y:=fun y hy=>by
 obtain ⟨s,hs,rfl⟩:=List.mem_map.mp hy
 obtain ⟨c,hc,rfl⟩:=List.mem_map.mp hs
 exact plain_sg c
theorem cut_but (xs:List V) (h:1≤xs.length):cutV xs none (some (-1))=xs.take (xs.length - 1):=by
 unfold cutV
 rw [HT.sIx_none,List.drop_zero]
 congr 1
 unfold HT.sIx
 simp
 omega
theorem some_more {ls:List Nat} (h:ls.length≤6):∃c∈letters.cps.toList,c∉ls:=Classical.byContradiction fun n=>by
 have all:∀c∈letters.cps.toList,c∈ls:=fun c hc=>Classical.byContradiction fun z=>n ⟨c,hc,z⟩
 have nd:letters.cps.toList.Nodup:=by decide +kernel
 have sub:(letters.cps.toList.map sg1).length≤(ls.map sg1).length:=nodup_le (List.Pairwise.map _ (fun a b h e=>h (sg1_inj e)) nd) fun f hf=>by
  obtain ⟨c,hc,rfl⟩:=List.mem_map.mp hf
  exact List.mem_map.mpr ⟨c,all c hc,rfl⟩
 rw [List.length_map,List.length_map] at sub
 have l26:letters.cps.toList.length=26:=by decide +kernel
 omega
section
variable {P:Program} {w:World} {K:PySem.W.Frag} {mg:Str→Option Value} {base:Heap}
def spNoLet:Sp:=fun vs H Q _=>∃(L:Addr) (z k:Int) (ls:List Nat),vs=[.ref L,.int z,.int k]∧H L=some (.lst (txs (sgs ls)))∧2≤ls.length∧ls.length≤6∧0≤k∧k≤1000∧∀y H',Same H H'→NLt H' ls.length y→Q y H'
theorem scNl:FnScope ["_law_letters_here","_law_cell_here","_law_k","_law_more","_law_some","_law_odd","_law_place"] ["_law_letters_here","_law_cell_here","_law_k"] (defScope sNoLet):=⟨rfl,rfl,rfl,by decide +kernel,rfl,by decide +kernel,by decide +kernel⟩
theorem ok_noLet {f fD:Addr} {fd fdD:FuncData} (F:FunG K "_law_no_letters" "_law_no_letters" sNoLet .none f fd) (B:Bl mg)
  (GD:FnOk P w K mg base (CXE P w) 1 fD fdD ["_law_cell_here","_law_k","_law_sizes"] spDraws) (mD:mg "_law_draws" = some (.ref fD)) (kD:PySem.W.keepIn K (.ref fD)=true) (bD:Binds K fdD ["_law_cell_here","_law_k","_law_sizes"] []):FnOk P w K mg base (CXE P w) 2 f fd ["_law_letters_here","_law_cell_here","_law_k"] spNoLet:=by
 refine F.zokN scNl (fun vs H Q E h=>?_) (fun cdv A outer s H vs Q E hr h=>?_)
 ·obtain ⟨L,z,k,ls,rfl,_⟩:=h
  rfl
 ·obtain ⟨L,z,k,ls,rfl,hL,n2,n6,k0,k1,q⟩:=h
  refine ⟨_,(zpss_cons (zps_compL (i:=3) ["_law_letters_here","_law_cell_here","_law_k","_law_more","_law_some","_law_odd","_law_place"] ["_law_one"] [0] (defScope sNoLet) rfl rfl rfl ⟨by decide +kernel,by decide +kernel,by decide +kernel,by decide +kernel,by decide +kernel⟩ scNl.nd rfl (Or.inl rfl) (zpi_str zpe_str) (fun s H fp=>(zpg_name (i:=0) (show List.Nodup [("_law_one" : Str),"_law_letters_here"] by decide +kernel) rfl (Or.inl rfl))) (fun s H fp=>(zpts_one (zpt_cmpR (op_notIn_seqK K rfl) (zpv 0) (zpv 1) rfl))) (fun s H fp=>(zpv 0)))
   (zpss_cons (zps_set (i:=4) scNl.nd rfl (Or.inl rfl) (zpe_lst (zpac_c zpe_non (zpac_c zpe_bl (zpac_s (zpe_slice sl_str zpe_str zpo_none (zpo_some (zpe_callB call_len_seq (by rfl) B.len PySem.boot_len (zpac_n (zpv 0) zpa_nil)))) (zpac_f (zpe_callTy call_tuple_of (by rfl) B.tuple boot_tuple (zpac_n (zpv 0) zpa_nil)) (zpac_s (zpe_slice sl_list (zpv 0) (zpo_some zpe_int) zpo_none) (zpac_b (zpe_op op_cat (zpv 0) (zpe_lst (zpac_c zpe_str zpa_nil))) (zpac_b (zpe_op op_cat (zpv 0) (zpe_slice sl_list (zpv 3) zpo_none (zpo_some zpe_int))) zpa_nil)))))))))
   (zpss_cons (zps_expr (zpe_bm PySem.F.plainAttrs_list PySem.F.slot_list_append PySem.F.type_list_append mt_append (zpv 4) (zpac_b (zpe_op op_cat (zpe_slice sl_list (zpv 0) zpo_none (zpo_some (zpe_un un_neg zpe_int))) (zpe_slice sl_list (zpv 0) zpo_none (zpo_some zpe_int))) zpa_nil)))
   (zpss_cons (zps_set (i:=5) scNl.nd rfl (Or.inl rfl) (zpe_ix ix_list (zpe_lst (zpac_c zpe_str (zpac_c zpe_str (zpac_c zpe_str (zpac_c zpe_str (zpac_c zpe_non (zpac_c zpe_int (zpac_l (zpe_lst (zpac_c zpe_str zpa_nil)) (zpac_c zpe_str zpa_nil))))))))) (zpe_ix ix_list (zpe_call GD hr (by rfl) mD kD bD .nil passE0 (zpac_n (zpv 1) (zpac_n (zpv 2) (zpac_l (zpe_lst (zpac_c zpe_int zpa_nil)) zpa_nil)))) zpe_int (fun _ _=>rfl)) (fun _ _=>rfl)))
   (zpss_cons (zps_set (i:=6) scNl.nd rfl (Or.inl rfl) (zpe_op op_mod (zpe_ix ix_list (zpe_call GD hr (by rfl) mD kD bD .nil passE0 (zpac_n (zpv 1) (zpac_n (zpv 2) (zpac_l (zpe_lst (zpac_c zpe_int (zpac_c zpe_int zpa_nil))) zpa_nil)))) zpe_int (fun _ _=>rfl)) (zpe_callB call_len_seq (by rfl) B.len PySem.boot_len (zpac_n (zpv 0) zpa_nil))))
   (zpss_cons (zps_set (i:=4) scNl.nd rfl (Or.inl rfl) (zpe_op op_cat (zpv 4) (zpe_lst (zpac_b (zpe_op op_cat (zpe_op op_cat (zpe_slice sl_list (zpv 0) zpo_none (zpo_some (zpv 6))) (zpe_lst (zpac_n (zpv 5) zpa_nil))) (zpe_slice sl_list (zpv 0) (zpo_some (zpe_op op_add (zpv 6) zpe_int)) zpo_none)) (zpac_l (zpe_lst zpa_nil) (zpac_d zpe_dict0 (zpac_c zpe_int (zpac_b (zpe_op op_cat (zpe_slice sl_list (zpv 0) zpo_none (zpo_some (zpe_un un_neg zpe_int))) (zpe_lst (zpac_b (zpe_op op_mulS (zpe_ix ix_list (zpv 0) (zpe_un un_neg zpe_int) (fun _ _=>rfl)) zpe_int) zpa_nil))) zpa_nil))))))))
   (zpss_one (zps_ret (zpe_ix ix_list (zpv 4) (zpe_op op_mod (zpe_ix ix_list (zpe_call GD hr (by rfl) mD kD bD .nil passE0 (zpac_n (zpv 1) (zpac_n (zpv 2) (zpac_l (zpe_lst (zpac_c zpe_int (zpac_c zpe_int (zpac_c zpe_int zpa_nil)))) zpa_nil)))) zpe_int (fun _ _=>rfl)) (zpe_callB call_len_seq (by rfl) B.len PySem.boot_len (zpac_n (zpv 4) zpa_nil))) (fun _ _=>rfl)))))))))),?_⟩
  have sz:∀{m:Nat},m≤100→m≤sizeLine:=fun h=>Nat.le_trans h (by decide)
  have s1:1≤sizeLine:=sz (show 1≤100 by decide)
  obtain ⟨n,hn⟩:∃n,ls.length=n:=⟨_,rfl⟩
  rw [hn] at n2 n6 q
  have tl:(txs (sgs ls)).length=n:=by rw [txs_len]; unfold sgs; rw [List.length_map,hn]
  have pt:=@plain_txs ls
  refine ⟨letters,rfl,?_⟩
  (intro M gM; generalize hEq:upd _ M _=H1; refine newC hEq gM ?_; clear hEq; intro S1 eM oM)
  refine lr_str (z:=letters) (fun i σ H'=>(∃v,σ=[v,some (.ref L)])∧Same H H'∧∃ms:List Nat,H' M=some (.lst (txs (sgs ms)))∧ms.length≤i∧(∀c∈letters.cps.toList.take i,c∉ls→ms≠[])) ⟨⟨_,rfl⟩,S1,[],eM,Nat.le_refl _,fun c h=>by simp at h⟩ ?_ ?_
  ·rintro i c σ H' C hc ⟨⟨v,rfl⟩,k2,ms,hM,ml,mne⟩ nx
   have hc':=str_at hc
   have il:=(List.getElem?_eq_some_iff.mp hc').1
   have l26:letters.cps.toList.length=26:=by decide +kernel
   refine ⟨_,rfl,_,rfl,L,_,rfl,.inl (SqL.of (k2 _ _ hL)),rfl,txs_flat _,_,rfl,?_⟩
   rw [inV_txs]
   have isin:(⟨#[c]⟩:Str)∈sgs ls↔c∈ls:=⟨fun h=>by
    obtain ⟨d,hd,e⟩:=List.mem_map.mp h
    have e:sg1 d=sg1 c:=e
    rw [← sg1_inj e]; exact hd,fun h=>List.mem_map.mpr ⟨c,h,rfl⟩⟩
   by_cases m:c∈ls
   ·rw [if_pos rfl,decide_eq_true (isin.mpr m)]
    refine iteF (nx _ _ ⟨⟨_,rfl⟩,k2,ms,hM,by omega,fun d hd nd=>?_⟩)
    rw [List.take_add_one,hc'] at hd
    rcases List.mem_append.mp hd with h | h
    ·exact mne d h nd
    ·rw [show d=c by simpa using h] at nd; exact absurd m nd
   ·rw [if_pos rfl,decide_eq_false (fun h=>m (isin.mp h))]
    refine iteT ⟨_,rfl,_,hM,?_,nx _ _ ⟨⟨_,rfl⟩,fun b o e=>?_,ms ++ [c],?_,by rw [List.length_append]; show ms.length + 1≤i + 1; omega,fun d hd nd=>by simp⟩⟩
    ·rw [txs_len]; unfold sgs; rw [List.length_map]
     exact Nat.lt_of_le_of_lt (show ms.length≤26 by omega) (by decide)
    ·rw [upd_ne (ne_of_none e gM)]; exact k2 _ _ e
    ·have:txs (sgs (ms ++ [c]))=txs (sgs ms) ++ [V.str (sg1 c)]:=by unfold sgs; rw [List.map_append,txs_app]; rfl
     rw [this]; exact upd_same
  rintro σ0 H2 ⟨_,S2,ms,hM,ml,mne⟩
  have l26:letters.cps.size=26:=by decide +kernel
  rw [l26] at ml
  have mne:ms≠[]:=by
   obtain ⟨c,hc,nc⟩:=some_more (ls:=ls) (by omega)
   exact mne c (by rw [show letters.cps.size=letters.cps.toList.length by rw [Array.length_toList],List.take_length]; exact hc) nc
  have hL2:=S2 _ _ hL
  have S02:Same H H2:=S2
  refine ⟨_,rfl,L,_,rfl,.inl (SqL.of hL2),_,rfl,_,rfl,by show 6≤sizeLine; exact sz (by decide),?_⟩
  obtain ⟨w3,hw3⟩:∃w3:Str,w3=cutS "abcdef" none (some ((txs (sgs ls)).length:Int)):=⟨_,rfl⟩
  rw [← hw3]
  refine ⟨_,rfl,L,_,rfl,.inl ⟨SqL.of hL2,?_⟩⟩
  (intro a1 g1; generalize hEq:upd _ a1 _=A1; refine newC hEq g1 ?_; clear hEq; intro X1 e1 o1)
  refine ⟨_,rfl,_,rfl,L,_,rfl,SqL.of (X1 _ _ hL2),?_⟩
  (intro a2 g2; generalize hEq:upd _ a2 _=A2; refine newC hEq g2 ?_; clear hEq; intro X2 e2 o2)
  rw [show cutV (txs (sgs ls)) (some 1) none=(txs (sgs ls)).drop 1 from cut_from _ 1] at e2
  have Y2:=X1.trans X2
  refine ⟨_,rfl,s1,?_⟩
  (intro a3 g3; generalize hEq:upd _ a3 _=A3; refine newC hEq g3 ?_; clear hEq; intro X3 e3 o3)
  have Y3:=Y2.trans X3
  refine ⟨L,a3,_,_,rfl,rfl,Y3 _ _ hL2,e3,sz (show _ + 1≤100 by omega),?_⟩
  (intro a4 g4; generalize hEq:upd _ a4 _=A4; refine newC hEq g4 ?_; clear hEq; intro X4 e4 o4)
  have Y4:=Y3.trans X4
  refine ⟨_,rfl,_,rfl,_,rfl,M,_,rfl,SqL.of (Y4 _ _ hM),?_⟩
  (intro a5 g5; generalize hEq:upd _ a5 _=A5; refine newC hEq g5 ?_; clear hEq; intro X5 e5 o5)
  rw [show cutV (txs (sgs ms)) none (some 1)=(txs (sgs ms)).take 1 from cut_to _ 1] at e5
  have Y5:=Y4.trans X5
  obtain ⟨m0,em0⟩:∃m0,(txs (sgs ms)).take 1=[V.str (sg1 m0)]:=by
   match ms,mne with
   | m0 :: _,_=>exact ⟨m0,rfl⟩
  rw [em0] at e5
  refine ⟨L,a5,_,_,rfl,rfl,Y5 _ _ hL2,e5,sz (show _ + 1≤100 by omega),?_⟩
  (intro a6 g6; generalize hEq:upd _ a6 _=A6; refine newC hEq g6 ?_; clear hEq; intro X6 e6 o6)
  have Y6:=Y5.trans X6
  refine ⟨sz (show 7≤100 by decide),?_⟩
  (intro S gS; generalize hEq:upd _ S _=B1; refine newC hEq gS ?_; clear hEq; intro Z1 eS oS)
  have S0A6:=S02.trans Y6
  have gS0:H S=none:=none_of S0A6 gS
  have dl:((txs (sgs ls)).drop 1).length=n - 1:=by rw [List.length_drop,tl]
  have w3l:∀s,V.str w3 = .str s→True:=fun _ _=>trivial
  have i7:∀y∈[V.non,.bl true,.str w3,.ref a1,.ref a2,.ref a4,.ref a6],NLt A6 n y:=fun y hy=>by
   simp only [List.mem_cons,List.not_mem_nil,or_false] at hy
   rcases hy with rfl | rfl | rfl | rfl | rfl | rfl | rfl
   ·exact nl_flat rfl
   ·exact nl_flat rfl
   ·exact nl_flat rfl
   ·exact nl_tup (X6 _ _ (X5 _ _ (X4 _ _ (X3 _ _ (X2 _ _ e1)))))
   ·exact nl_lst (X6 _ _ (X5 _ _ (X4 _ _ (X3 _ _ e2)))) (by omega) (fun y hy=>.inl (pt y (List.mem_of_mem_drop hy))) (.inl (by omega))
   ·refine nl_lst (X6 _ _ (X5 _ _ e4)) (by rw [List.length_append,tl]; show n + 1≤100; omega) (fun y hy=>.inl ?_) (.inl (by rw [List.length_append,tl]; show n + 1≠n; omega))
    rcases List.mem_append.mp hy with h | h
    ·exact pt y h
    ·rw [List.mem_singleton.mp h]; exact ⟨rfl,fun s e=>by injection e with e; rw [← e]; decide⟩
   ·refine nl_lst e6 (by rw [List.length_append,tl]; show n + 1≤100; omega) (fun y hy=>.inl ?_) (.inl (by rw [List.length_append,tl]; show n + 1≠n; omega))
    rcases List.mem_append.mp hy with h | h
    ·exact pt y h
    ·rw [List.mem_singleton.mp h]; exact plain_sg m0
  clear e1 e2 e3 e4 e5 e6 X1 X2 X3 X4 X5 X6 Y2 Y3 Y4 Y5 o1 o2 o3 o4 o5 o6
  have hL7:=Z1 _ _ (Y6 _ _ hL2)
  have tk1:cutV (txs (sgs ls)) none (some (-1))=(txs (sgs ls)).take (n - 1):=by rw [cut_but _ (by omega),tl]
  have tkl:((txs (sgs ls)).take (n - 1)).length=n - 1:=by rw [List.length_take,tl]; omega
  refine ⟨_,rfl,.inl ⟨rfl,_,SqL.of eS⟩,_,rfl,_,rfl,_,rfl,L,_,rfl,SqL.of hL7,?_⟩
  (intro b1 gb1; generalize hEq:upd _ b1 _=B2; refine newC hEq gb1 ?_; clear hEq; intro Z2 f1 p1)
  rw [tk1] at f1
  refine ⟨_,rfl,_,rfl,L,_,rfl,SqL.of (Z2 _ _ hL7),?_⟩
  (intro b2 gb2; generalize hEq:upd _ b2 _=B3; refine newC hEq gb2 ?_; clear hEq; intro Z3 f2 p2)
  rw [show cutV (txs (sgs ls)) none (some 1)=(txs (sgs ls)).take 1 from cut_to _ 1] at f2
  have t1l:((txs (sgs ls)).take 1).length=1:=by rw [List.length_take,tl]; omega
  refine ⟨b1,b2,_,_,rfl,rfl,Z3 _ _ f1,f2,sz (show _ + _≤100 by omega),?_⟩
  (intro b3 gb3; generalize hEq:upd _ b3 _=B4; refine newC hEq gb3 ?_; clear hEq; intro Z4 f3 p3)
  have Z14:=(Z2.trans Z3).trans Z4
  have eS4:=Z14 _ _ eS
  have b3S:b3≠S:=fun z=>by rw [z,Z3 _ _ (Z2 _ _ eS)] at gb3; cases gb3
  refine ⟨S,_,_,rfl,rfl,eS4,Nat.lt_of_lt_of_le (show 7 < 100 by decide) (sz (Nat.le_refl _)),?_⟩
  obtain ⟨I8,hI8⟩:∃I8,I8=[V.non,.bl true,.str w3,.ref a1,.ref a2,.ref a4,.ref a6] ++ [V.ref b3]:=⟨_,rfl⟩
  rw [← hI8]
  have eS8:upd B4 S (.lst I8) S=some (.lst I8):=upd_same
  have A6S:Same A6 (upd B4 S (.lst I8)):=fun b o e=>by rw [upd_ne (ne_of_none e gS)]; exact Z14 _ _ (Z1 _ _ e)
  have H0S:Same H (upd B4 S (.lst I8)):=S0A6.trans A6S
  have eb3:upd B4 S (.lst I8) b3=some (.lst ((txs (sgs ls)).take (n - 1) ++ (txs (sgs ls)).take 1)):=by rw [upd_ne b3S]; exact f3
  generalize upd B4 S (.lst I8)=C0 at eS8 A6S H0S eb3
  have l8:I8.length=8:=by rw [hI8]; rfl
  have i8:∀y∈I8,NLt C0 n y:=fun y hy=>by
   rw [hI8] at hy
   rcases List.mem_append.mp hy with h | h
   ·exact (i7 y h).kp (Kp.same A6S)
   ·rw [List.mem_singleton.mp h]
    refine nl_lst eb3 (by rw [List.length_append]; omega) (fun y hy=>.inl ?_) (.inr (.inr ⟨ls.take (n - 1) ++ ls.take 1,?_,?_⟩))
    ·rcases List.mem_append.mp hy with h | h
     ·exact pt y (List.mem_of_mem_take h)
     ·exact pt y (List.mem_of_mem_take h)
    ·unfold sgs
     simp only [List.map_append,txs_app,List.map_take,txs_take]
    ·match ls,hn with
     | x :: y :: r,hn=>
      have hn':n=r.length + 2:=by simpa using hn.symm
      subst hn'
      show ¬(x :: (List.take r.length (y :: r)) ++ [x]).Nodup
      intro nd
      exact (List.nodup_append.mp nd).2.2 x (List.mem_cons_self ..) x (List.mem_singleton.mpr rfl) rfl
     | [_],hn=>simp at hn; omega
     | [],hn=>simp at hn; omega
  clear hI8 i7 f1 f2 f3 eb3 eS4 p1 p2 p3 Z2 Z3 Z4 eS A6S
  have pos:∀s∈[(8:Int),6,1009],0 < s∧s.natAbs < big:=fun s hs=>by
   simp only [List.mem_cons,List.not_mem_nil,or_false] at hs
   rcases hs with rfl | rfl | rfl <;> exact ⟨by decide,by decide +kernel⟩
  refine ⟨s1,?_⟩
  (intro c1 gc1; generalize hEq:upd _ c1 _=C1; refine newC hEq gc1 ?_; clear hEq; intro W1 f1 p1)
  refine ⟨sz (show 8≤100 by decide),?_⟩
  (intro c2 gc2; generalize hEq:upd _ c2 _=C2; refine newC hEq gc2 ?_; clear hEq; intro W2 f2 p2)
  refine ⟨_,rfl,_,rfl,s1,?_⟩
  (intro c3 gc3; generalize hEq:upd _ c3 _=C3; refine newC hEq gc3 ?_; clear hEq; intro W3 f3 p3)
  refine ⟨z,k,c3,[8],rfl,k0,k1,f3,by decide,fun s hs=>pos s (by rw [List.mem_singleton.mp hs]; simp),fun R1 ds1 C4 W4 gR1 eR1 bl1=>?_⟩
  obtain ⟨q1,hq1,q10,q11⟩:=bl1.at (i:=0) (s:=8) rfl
  have V4:=(W2.trans W3).trans W4
  have f14:=V4 _ _ f1
  obtain ⟨odd,hodd,oddb,oddp⟩:∃odd:V,atI [V.str "A",.str "",.str "ab",.str "1",.non,.int 0,.ref c1,.str "\n"] q1=some odd∧letB odd=false∧(Plain odd∨∃b zs,odd = .ref b∧C4 b=some (.lst zs)):=by
   have pl:∀{s:Str},s.length≤100→Plain (.str s):=fun h=>⟨rfl,fun s e=>by injection e with e; rw [← e]; exact h⟩
   rcases (show q1=0∨q1=1∨q1=2∨q1=3∨q1=4∨q1=5∨q1=6∨q1=7 by omega) with rfl | rfl | rfl | rfl | rfl | rfl | rfl | rfl
   ·exact ⟨_,rfl,by decide +kernel,.inl (pl (by decide))⟩
   ·exact ⟨_,rfl,by decide +kernel,.inl (pl (by decide))⟩
   ·exact ⟨_,rfl,by decide +kernel,.inl (pl (by decide))⟩
   ·exact ⟨_,rfl,by decide +kernel,.inl (pl (by decide))⟩
   ·exact ⟨_,rfl,rfl,.inl ⟨rfl,nofun⟩⟩
   ·exact ⟨_,rfl,rfl,.inl ⟨rfl,nofun⟩⟩
   ·exact ⟨_,rfl,rfl,.inr ⟨c1,_,rfl,f14⟩⟩
   ·exact ⟨_,rfl,by decide +kernel,.inl (pl (by decide))⟩
  refine ⟨R1,_,_,_,rfl,rfl,SqL.of eR1,atInts hq1 rfl,c2,_,_,_,rfl,rfl,SqL.of ((W3.trans W4) _ _ f2),hodd,?_⟩
  have U4:=W1.trans V4
  clear f1 f2 f3 hodd p1 p2 p3 f14 V4 W1 W2 W3 W4
  refine ⟨_,rfl,_,rfl,sz (show 2≤100 by decide),?_⟩
  (intro d1 gd1; generalize hEq:upd _ d1 _=C5; refine newC hEq gd1 ?_; clear hEq; intro W5 f5 p5)
  refine ⟨z,k,d1,[8,6],rfl,k0,k1,f5,by decide,fun s hs=>pos s (by simp at hs ⊢; omega),fun R2 ds2 C6 W6 gR2 eR2 bl2=>?_⟩
  obtain ⟨q2,hq2,q20,q21⟩:=bl2.at (i:=1) (s:=6) rfl
  have U6:=(U4.trans W5).trans W6
  have hL6:=(H0S.trans U6) _ _ hL
  have npos:(0:Int) < ((txs (sgs ls)).length:Int):=by omega
  refine ⟨R2,_,_,_,rfl,rfl,SqL.of eR2,atInts hq2 rfl,_,rfl,L,_,rfl,.inl (SqL.of hL6),_,_,rfl,rfl,npos,?_⟩
  have pl0:=Int.emod_nonneg q2 (show ((txs (sgs ls)).length:Int)≠0 by omega)
  have pl1:=Int.emod_lt_of_pos q2 npos
  obtain ⟨pp,epp⟩:=Int.eq_ofNat_of_zero_le pl0
  have ppn:pp < n:=by omega
  have W46:=W5.trans W6
  clear f5 p5 W5 W6
  obtain ⟨lc,hlc⟩:∃lc,ls[n - 1]? = some lc:=⟨_,List.getElem?_eq_getElem (show n - 1 < ls.length by omega)⟩
  have alc:atI (txs (sgs ls)) (-1)=some (.str (sg1 lc)):=rev_at (n:=n - 1) (by omega) (txs_at (by unfold sgs; rw [List.getElem?_map,hlc]; rfl))
  refine ⟨_,rfl,_,rfl,_,rfl,_,rfl,L,_,rfl,SqL.of hL6,?_⟩
  (intro a1 ga1; generalize hEq:upd _ a1 _=A1; refine newC hEq ga1 ?_; clear hEq; intro X1 e1 o1)
  rw [epp,cut_to] at e1
  refine ⟨_,rfl,s1,?_⟩
  (intro a2 ga2; generalize hEq:upd _ a2 _=A2; refine newC hEq ga2 ?_; clear hEq; intro X2 e2 o2)
  refine ⟨a1,a2,_,_,rfl,rfl,X2 _ _ e1,e2,sz (show _ + 1≤100 by rw [List.length_take]; omega),?_⟩
  (intro a3 ga3; generalize hEq:upd _ a3 _=A3; refine newC hEq ga3 ?_; clear hEq; intro X3 e3 o3)
  have Y3:=(X1.trans X2).trans X3
  refine ⟨_,rfl,_,rfl,_,_,rfl,rfl,_,rfl,L,_,rfl,SqL.of (Y3 _ _ hL6),?_⟩
  (intro a4 ga4; generalize hEq:upd _ a4 _=A4; refine newC hEq ga4 ?_; clear hEq; intro X4 e4 o4)
  have hc4:cutV (txs (sgs ls)) (some (q2 % ((txs (sgs ls)).length:Int) + 1)) none=(txs (sgs ls)).drop (pp + 1):=by
   rw [epp]; exact cut_from (txs (sgs ls)) (pp + 1)
  rw [hc4] at e4
  have tpl:((txs (sgs ls)).take pp).length=pp:=by rw [List.length_take,tl]; omega
  have dpl:((txs (sgs ls)).drop (pp + 1)).length=n - (pp + 1):=by rw [List.length_drop,tl]
  refine ⟨a3,a4,_,_,rfl,rfl,X4 _ _ e3,e4,sz (show _ + _≤100 by rw [List.length_append,tpl,dpl]; show pp + 1 + (n - (pp + 1))≤100; omega),?_⟩
  (intro a5 ga5; generalize hEq:upd _ a5 _=A5; refine newC hEq ga5 ?_; clear hEq; intro X5 e5 o5)
  have Y5:=(Y3.trans X4).trans X5
  refine ⟨Nat.zero_le _,?_⟩
  (intro a6 ga6; generalize hEq:upd _ a6 _=A6'; refine newC hEq ga6 ?_; clear hEq; intro X6 e6 o6)
  intro a7 ga7
  have X7:=same_upd (o:=.dK []) ga7
  have e7:upd A6' a7 (.dK []) a7=some (.dK []):=upd_same
  generalize upd A6' a7 (.dK [])=A7 at X7 e7
  have Y7:=(Y5.trans X6).trans X7
  refine ⟨_,rfl,_,rfl,_,rfl,L,_,rfl,SqL.of (Y7 _ _ hL6),?_⟩
  (intro a8 ga8; generalize hEq:upd _ a8 _=A8; refine newC hEq ga8 ?_; clear hEq; intro X8 e8 o8)
  rw [tk1] at e8
  refine ⟨_,rfl,_,rfl,L,_,_,_,rfl,rfl,SqL.of (X8 _ _ (Y7 _ _ hL6)),alc,lc,2,rfl,rfl,by decide,s1,?_⟩
  (intro a9 ga9; generalize hEq:upd _ a9 _=A9; refine newC hEq ga9 ?_; clear hEq; intro X9 e9 o9)
  refine ⟨a8,a9,_,_,rfl,rfl,X9 _ _ e8,e9,sz (show _ + 1≤100 by omega),?_⟩
  (intro a10 ga10; generalize hEq:upd _ a10 _=A10; refine newC hEq ga10 ?_; clear hEq; intro X10 e10 o10)
  have Y10:=((Y7.trans X8).trans X9).trans X10
  refine ⟨sz (show 5≤100 by decide),?_⟩
  (intro S5 gS5; generalize hEq:upd _ S5 _=A11; refine newC hEq gS5 ?_; clear hEq; intro X11 eS5 oS5)
  have Y11:=Y10.trans X11
  have C0S:=U6.trans Y11
  refine ⟨S,S5,_,_,rfl,rfl,C0S _ _ eS8,eS5,sz (show _ + 5≤100 by omega),?_⟩
  (intro S13 gS13; generalize hEq:upd _ S13 _=A12; refine newC hEq gS13 ?_; clear hEq; intro X12 eS13 oS13)
  have Y12:=Y11.trans X12
  have C0E:=U6.trans Y12
  have YC4:Same C4 A12:=W46.trans Y12
  obtain ⟨I13,hI13⟩:∃I13,I13=I8 ++ [V.ref a5,.ref a6,.ref a7,.int 5,.ref a10]:=⟨_,rfl⟩
  rw [← hI13] at eS13
  have l13:I13.length=13:=by rw [hI13,List.length_append,l8]; rfl
  have X5E:=(((X6.trans X7).trans ((X8.trans X9).trans X10)).trans X11).trans X12
  have i13:∀y∈I13,NLt A12 n y:=fun y hy=>by
   rw [hI13] at hy
   rcases List.mem_append.mp hy with h | h
   ·exact (i8 y h).kp (Kp.same C0E)
   ·simp only [List.mem_cons,List.not_mem_nil,or_false] at h
    rcases h with rfl | rfl | rfl | rfl | rfl
    ·refine nl_lst (X5E _ _ e5) (by rw [List.length_append,List.length_append,tpl,dpl]; show pp + 1 + (n - (pp + 1))≤100; omega) (fun y hy=>?_) (.inr (.inl ⟨odd,List.mem_append_left _ (List.mem_append_right _ (List.mem_cons_self ..)),oddb⟩))
     rcases List.mem_append.mp hy with h | h
     ·rcases List.mem_append.mp h with h | h
      ·exact .inl (pt y (List.mem_of_mem_take h))
      ·rw [List.mem_singleton.mp h]
       exact oddp.imp id fun ⟨b,zs,e,hb⟩=>⟨b,zs,e,YC4 _ _ hb⟩
     ·exact .inl (pt y (List.mem_of_mem_drop h))
    ·exact nl_lst (((X7.trans ((X8.trans X9).trans X10)).trans X11).trans X12 _ _ e6) (by decide) (fun y h=>nomatch h) (.inl (by show 0≠n; omega))
    ·exact nl_dct ((((X8.trans X9).trans X10).trans X11).trans X12 _ _ e7)
    ·exact nl_flat rfl
    ·refine nl_lst ((X11.trans X12) _ _ e10) (by rw [List.length_append,tkl]; show n - 1 + 1≤100; omega) (fun y hy=>.inl ?_) (.inr (.inl ⟨.str (repS lc 2),List.mem_append_right _ (List.mem_cons_self ..),?_⟩))
     ·rcases List.mem_append.mp hy with h | h
      ·exact pt y (List.mem_of_mem_take h)
      ·rw [List.mem_singleton.mp h]; exact ⟨rfl,fun s e=>by injection e with e; rw [← e,repS_len]; decide⟩
     ·unfold letB
      show (_ && decide ((repS lc 2).length=1))=false
      rw [repS_len]; exact Bool.and_false _
  clear e1 e2 e3 e4 e5 e6 e7 e8 e9 e10 o1 o2 o3 o4 o5 o6 o8 o9 o10 X1 X2 X3 X4 X5 X6 X7 X8 X9 X10 X11 Y3 Y5 Y7 Y10 Y11 hI13
  have H0E:=H0S.trans C0E
  refine ⟨_,rfl,_,rfl,_,rfl,sz (show 3≤100 by decide),?_⟩
  (intro d3 gd3; generalize hEq:upd _ d3 _=D1; refine newC hEq gd3 ?_; clear hEq; intro W7 f7 p7)
  refine ⟨z,k,d3,[8,6,1009],rfl,k0,k1,f7,by decide,pos,fun R3 ds3 D2 W8 gR3 eR3 bl3=>?_⟩
  obtain ⟨q3,hq3,q30,q31⟩:=bl3.at (i:=2) (s:=1009) rfl
  have S13D:=(W7.trans W8) _ _ eS13
  have n13:(0:Int) < (I13.length:Int):=by rw [l13]; decide
  have m0:=Int.emod_nonneg q3 (show (I13.length:Int)≠0 by omega)
  have m1:=Int.emod_lt_of_pos q3 n13
  obtain ⟨mm,emm⟩:=Int.eq_ofNat_of_zero_le m0
  have ey:I13[mm]? = some (I13[mm]'(by omega)):=List.getElem?_eq_getElem _
  refine ⟨R3,_,_,_,rfl,rfl,SqL.of eR3,atInts hq3 rfl,_,rfl,S13,_,rfl,.inl (SqL.of S13D),_,_,rfl,rfl,n13,S13,_,_,_,rfl,rfl,SqL.of S13D,by rw [emm]; exact atI_nat ey,?_⟩
  exact q _ D2 (H0E.trans (W7.trans W8)) ((i13 _ (List.mem_of_getElem? ey)).kp (Kp.same (W7.trans W8)))
end
section
variable {P:Program} {w:World} {K:PySem.W.Frag} {mg:Str→Option Value} {base:Heap} {c:List Addr}
def spRefused (T1 T2 T3:Addr):Sp:=fun vs H Q _=>∃(t:Addr) (y:V) (way:Int) (cs:List Nat) (fs ps:List Str) (lg:Int),vs=[.ref t,y,.int way]∧Tg H t cs fs ps lg∧NLt H cs.length y∧Tab T1 H∧Tab T2 H∧Tab T3 H∧∀H',Kp H H'→TbK H H'→Q (.bl true) H'
theorem scRf:FnScope ["_law_tongue_here","_law_thing","_law_way","_law_kept","_law_text","e"] ["_law_tongue_here","_law_thing","_law_way"] (defScope sRefused):=⟨rfl,rfl,rfl,by decide +kernel,rfl,by decide +kernel,by decide +kernel⟩
theorem ok_refused {CT N T1 T2 T3:Addr} {f fT fX fB fI:Addr} {fd fdT fdX fdB fdI:FuncData} (F:FunG K "_law_refused" "_law_refused" sRefused .none f fd) (C:Cl K mg c) (hN:c.getD 1 0=N)
  (GT:FnOk P w K mg base (CXE P w) 9 fT fdT ["tongue","letters"] (spTT CT N T1 T2 T3)) (mT:mg "turned_tongue" = some (.ref fT)) (kT:PySem.W.keepIn K (.ref fT)=true) (bT:Binds K fdT ["tongue","letters"] [])
  (GX:FnOk P w K mg base (CXE P w) 9 fX fdX ["tongue","letters","text"] (spTX CT N T1 T2 T3)) (mX:mg "turned_text" = some (.ref fX)) (kX:PySem.W.keepIn K (.ref fX)=true) (bX:Binds K fdX ["tongue","letters","text"] [])
  (GB:FnOk P w K mg base (CXE P w) 9 fB fdB ["tongue","letters","book"] (spTB CT N T1 T2 T3)) (mB:mg "turned_book" = some (.ref fB)) (kB:PySem.W.keepIn K (.ref fB)=true) (bB:Binds K fdB ["tongue","letters","book"] [])
  (GI:FnOk P w K mg base (CXE P w) 1 fI fdI ["_law_kept"] (spNoTurn N)) (mI:mg "_law_is_no_turn" = some (.ref fI)) (kI:PySem.W.keepIn K (.ref fI)=true) (bI:Binds K fdI ["_law_kept"] []):FnOk P w K mg base (CXE P w) 10 f fd ["_law_tongue_here","_law_thing","_law_way"] (spRefused T1 T2 T3):=by
 refine F.zokN scRf (fun vs H Q E h=>?_) (fun cdv A outer s H vs Q E hr h=>?_)
 ·obtain ⟨t,y,way,cs,fs,ps,lg,rfl,_⟩:=h
  rfl
 ·obtain ⟨t,y,way,cs,fs,ps,lg,rfl,tg,ny,h1,h2,h3,q⟩:=h
  refine ⟨_,(zpss_cons (zps_set (i:=3) scRf.nd rfl (Or.inl rfl) zpe_non)
   (zpss_cons (zps_set (i:=4) scRf.nd rfl (Or.inl rfl) (zpe_bm PySem.F.plainAttrs_str PySem.F.slot_str_join PySem.F.type_str_join mt_join zpe_str (zpac_x (zpe_compL ["_law_tongue_here","_law_thing","_law_way","_law_kept","_law_text","e"] ["_law_one"] [] (defScope sRefused) rfl rfl rfl ⟨by decide +kernel,by decide +kernel,by decide +kernel,by decide +kernel,by decide +kernel⟩ (zpi_list (zpe_ix ix_tup (zpv 0) zpe_int (fun _ _=>rfl))) (fun s H fp=>(zpg_name (i:=0) (show List.Nodup [("_law_one" : Str)] by decide +kernel) rfl (Or.inl rfl))) (fun s H fp=>zpts_nil) (fun s H fp=>(zpe_ix (ix_tupK K rfl) (zpv 0) zpe_int (fun _ _=>rfl)))) zpa_nil)))
   (zpss_cons (zps_try_as (j:=5) (zpsx_if (zpt_cmpR op_eq (zpv 2) zpe_int (nomark _)) (zpsx_expr (zpex_call GT hr (by rfl) mT kT bT .nil (zpac_n (zpv 0) (zpac_n (zpv 1) zpa_nil)))) (zpsx_if (zpt_cmpR op_eq (zpv 2) zpe_int (nomark _)) (zpsx_expr (zpex_call GX hr (by rfl) mX kX bX .nil (zpac_n (zpv 0) (zpac_n (zpv 1) (zpac_n (zpv 4) zpa_nil))))) (zpsx_expr (zpex_call GB hr (by rfl) mB kB bB .nil (zpac_n (zpv 0) (zpac_n (zpv 1) (zpac_l (zpe_lst (zpac_n (zpv 4) (zpac_n (zpv 4) zpa_nil))) zpa_nil))))))) scRf.nd rfl rfl rfl rfl (by rfl) C.dear C.catch_ (fun e=>(zpss_one (zps_set (i:=3) scRf.nd rfl (Or.inl rfl) (zpv 5)))))
   (zpss_one (zps_ret (zpe_call GI (hr.mono (by decide)) (by rfl) mI kI bI .nil passE0 (zpac_n (zpv 3) zpa_nil))))))),?_⟩
  obtain ⟨S0,F0,G0,xs,g1,g2,g3,g4,g5⟩:=tg.ex
  have c6:=tg.c6
  have xl:xs.length=cs.length:=g3.len
  refine ⟨rfl,_,rfl,t,_,_,_,rfl,rfl,SqT.of g1,rfl,S0,rfl,⟨_,SqL.of g2⟩,?_⟩
  (intro l gl; generalize hEq:upd _ l _=H1; refine newC hEq gl ?_; clear hEq; intro S1 el ol)
  refine lr_list (K:=K) (S:=S0) (xs:=xs) (fun i σ H2=>(∃v,σ=[v])∧H2 l=some (.lst (txs (sgs (cs.take i))))∧Same H H2) ⟨⟨_,rfl⟩,el,S1⟩ (fun i σ H2 p=>SqL.of (p.2.2 _ _ g2)) ?_ ?_
  ·rintro i x σ H2 C hi ⟨⟨v,rfl⟩,hl2,s2⟩ nx
   obtain ⟨cc,hc,row⟩:=g3.at hi
   obtain ⟨a,p,la,rfl,ha,_⟩:=row.ex
   refine ⟨_,rfl,a,_,_,_,rfl,rfl,SqT.of (s2 _ _ ha),rfl,_,hl2,?_,nx _ _ ⟨⟨_,rfl⟩,?_,fun b o hb=>?_⟩⟩
   ·unfold txs sgs
    rw [List.length_map,List.length_map,List.length_take]
    exact Nat.lt_of_le_of_lt (show min i cs.length≤6 by omega) (by decide)
   ·have:txs (sgs (cs.take i)) ++ [V.str (sg1 cc)]=txs (sgs (cs.take (i + 1))):=by
     unfold txs sgs
     rw [List.take_add_one,hc,List.map_append,List.map_append]; rfl
    rw [← this]; exact upd_same
   ·rw [upd_ne (ne_of_none hb gl)]; exact s2 b o hb
  rintro σ0 H2 ⟨_,hl2,S2⟩
  rw [List.take_of_length_le (by rw [g3.len]; exact Nat.le_refl _)] at hl2
  refine ⟨_,l,sgs cs,rfl,rfl,SqL.of hl2,?_,?_⟩
  ·unfold sgs
   rw [sum_ones]
   show cs.length + _ * 0≤16777216
   omega
  have tg2:=tg.kp (Kp.same S2)
  have ny2:=ny.kp (Kp.same S2)
  have t1:=h1.same S2
  have t2:=h2.same S2
  have t3:=h3.same S2
  have bad:∀{E':XK} {H3:Hp},Same H2 H3→(∀H',Kp H3 H'→TbK H3 H'→E' (.ref N) none H')→CbBad CT N H3 (.ref t) y E':=fun {E' H3} s qe=>.inr ⟨t,cs,fs,ps,lg,rfl,tg2.kp (Kp.same s),ny2.1.kp (Kp.same s),(ny2.kp (Kp.same s)).2,qe⟩
  refine ⟨_,rfl,rfl,_,rfl,ite2 (fun _=>?_) (fun _=>⟨_,rfl,rfl,_,rfl,ite2 (fun _=>?_) (fun _=>?_)⟩)⟩
  ·refine ⟨_,rfl,_,rfl,_,_,rfl,tg2.out.1,t1,t2,t3,.inl (bad (Same.refl _) fun H3 k3 s3=>?_)⟩
   refine ⟨N,rfl,hN ▸ C.up,fun e he=>⟨_,rfl,⟨_,rfl,e,rfl,upd_same,fun H4 s4=>q H4 (((Kp.same S2).trans k3).trans ((Kp.same (same_upd he)).trans (Kp.same s4))) ((((tk_same S2).trans s3).same (same_upd he)).same s4)⟩⟩⟩
  ·refine ⟨_,rfl,_,rfl,_,rfl,_,_,_,rfl,tg2.out.1,t1,t2,t3,.inl (bad (Same.refl _) fun H3 k3 s3=>?_)⟩
   refine ⟨N,rfl,hN ▸ C.up,fun e he=>⟨_,rfl,⟨_,rfl,e,rfl,upd_same,fun H4 s4=>q H4 (((Kp.same S2).trans k3).trans ((Kp.same (same_upd he)).trans (Kp.same s4))) ((((tk_same S2).trans s3).same (same_upd he)).same s4)⟩⟩⟩
  ·refine ⟨_,rfl,_,rfl,_,rfl,_,rfl,by show 2≤sizeLine; decide,?_⟩
   (intro bk gbk; generalize hEq:upd _ bk _=H3; refine newC hEq gbk ?_; clear hEq; intro S3 ebk obk)
   refine ⟨_,_,_,rfl,(tg2.kp (Kp.same S3)).out.1,t1.same S3,t2.same S3,t3.same S3,.inl (bad S3 fun H4 k4 s4=>?_)⟩
   refine ⟨N,rfl,hN ▸ C.up,fun e he=>⟨_,rfl,⟨_,rfl,e,rfl,upd_same,fun H5 s5=>q H5 (((Kp.same (S2.trans S3)).trans k4).trans ((Kp.same (same_upd he)).trans (Kp.same s5))) ((((tk_same (S2.trans S3)).trans s4).same (same_upd he)).same s5)⟩⟩⟩
def spPart (T1 T2 T3:Addr):Sp:=fun vs H Q _=>∃(x y z v:V) (way:Int),vs=[x,y,z,.int way]∧ThT H x∧OutT H x (some v)∧Tab T1 H∧Tab T2 H∧Tab T3 H∧∀H',Kp H H'→TbK H H'→Q v H'
theorem scPa:FnScope ["_law_thing","_law_letters_here","_law_text","_law_way","_law_kept","e"] ["_law_thing","_law_letters_here","_law_text","_law_way"] (defScope sPart):=⟨rfl,rfl,rfl,by decide +kernel,rfl,by decide +kernel,by decide +kernel⟩
theorem outT_kp {H H':Hp} {x:V} {r:Option V} (k:Kp H H') (tx:ThT H x) (o:OutT H x r):OutT H' x r:=by
 have tx0:=tx.th
 cases o with
 | kind h=>exact .kind fun a xs e e'=>h a xs e (G1.back tx0 k e e')
 | signs h n=>
  refine .signs (k.tup h) fun cs hs=>n cs ?_
  obtain ⟨S,xs,e,hS,r,z⟩:=hs
  obtain ⟨ts,_⟩:=tx.parts _ _ _ _ _ rfl h
  have hS0:=G1.back ts.th k e hS
  refine ⟨S,xs,e,hS0,⟨r.len,fun i x c e1 e2=>(r.row i x c e1 e2).back (ts.rows S xs e hS0 x (List.mem_of_getElem? e1)) k⟩,z⟩
 | firsts h g n=>
  refine .firsts (k.tup h) (g.kp k) fun ts ht=>n ts ?_
  obtain ⟨L,e,hL,z⟩:=ht
  exact ⟨L,e,G1.back (tx.parts _ _ _ _ _ rfl h).2.1.th k e hL,z⟩
 | pairs h g gf n=>
  refine .pairs (k.tup h) (g.kp k) (gf.kp k) fun ts ht=>n ts ?_
  obtain ⟨L,e,hL,z⟩:=ht
  exact ⟨L,e,G1.back (tx.parts _ _ _ _ _ rfl h).2.2.1.th k e hL,z⟩
 | longest h g gf gp n=>exact .longest (k.tup h) (g.kp k) (gf.kp k) (gp.kp k) n
 | good h g gf gp n=>exact .good (k.tup h) (g.kp k) (gf.kp k) (gp.kp k) n
theorem ok_part {CT N T1 T2 T3:Addr} {f fT fX fB:Addr} {fd fdT fdX fdB:FuncData} (F:FunG K "_law_part" "_law_part" sPart .none f fd) (C:Cl K mg c) (hT:c.getD 3 0=CT)
  (GT:FnOk P w K mg base (CXE P w) 9 fT fdT ["tongue","letters"] (spTT CT N T1 T2 T3)) (mT:mg "turned_tongue" = some (.ref fT)) (kT:PySem.W.keepIn K (.ref fT)=true) (bT:Binds K fdT ["tongue","letters"] [])
  (GX:FnOk P w K mg base (CXE P w) 9 fX fdX ["tongue","letters","text"] (spTX CT N T1 T2 T3)) (mX:mg "turned_text" = some (.ref fX)) (kX:PySem.W.keepIn K (.ref fX)=true) (bX:Binds K fdX ["tongue","letters","text"] [])
  (GB:FnOk P w K mg base (CXE P w) 9 fB fdB ["tongue","letters","book"] (spTB CT N T1 T2 T3)) (mB:mg "turned_book" = some (.ref fB)) (kB:PySem.W.keepIn K (.ref fB)=true) (bB:Binds K fdB ["tongue","letters","book"] []):FnOk P w K mg base (CXE P w) 10 f fd ["_law_thing","_law_letters_here","_law_text","_law_way"] (spPart T1 T2 T3):=by
 refine F.zokN scPa (fun vs H Q E h=>?_) (fun cdv A outer s H vs Q E hr h=>?_)
 ·obtain ⟨x,y,z,v,way,rfl,_⟩:=h
  rfl
 ·obtain ⟨x,y,z,v,way,rfl,tx,out,h1,h2,h3,q⟩:=h
  refine ⟨_,(zpss_cons (zps_set (i:=4) scPa.nd rfl (Or.inl rfl) zpe_str)
   (zpss_cons (zps_try_as (j:=5) (zpsx_if (zpt_cmpR op_eq (zpv 3) zpe_int (nomark _)) (zpsx_expr (zpex_call GT hr (by rfl) mT kT bT .nil (zpac_n (zpv 0) (zpac_n (zpv 1) zpa_nil)))) (zpsx_if (zpt_cmpR op_eq (zpv 3) zpe_int (nomark _)) (zpsx_expr (zpex_call GX hr (by rfl) mX kX bX .nil (zpac_n (zpv 0) (zpac_n (zpv 1) (zpac_n (zpv 2) zpa_nil))))) (zpsx_expr (zpex_call GB hr (by rfl) mB kB bB .nil (zpac_n (zpv 0) (zpac_n (zpv 1) (zpac_l (zpe_lst (zpac_n (zpv 2) zpa_nil)) zpa_nil))))))) scPa.nd rfl rfl rfl rfl (by rfl) C.c3 C.tcatch (fun e=>(zpss_one (zps_set (i:=4) scPa.nd rfl (Or.inl rfl) (zpe_xdK K rfl (zpv 5))))))
   (zpss_one (zps_ret (zpv 4))))),?_⟩
  subst hT
  have fin:∀{dx:Addr} {H1:Hp} {σ:St},Kp H H1→TbK H H1→H1 dx=some (.xd [("part",v)])→∀e,H1 e=none→∃a,a=e:=fun _ _ _ e _=>⟨e,rfl⟩
  refine ⟨_,rfl,rfl,_,rfl,ite2 (fun _=>?_) (fun _=>⟨_,rfl,rfl,_,rfl,ite2 (fun _=>?_) (fun _=>?_)⟩)⟩
  ·refine ⟨_,rfl,_,rfl,_,_,rfl,tx,h1,h2,h3,.inl (.inl ⟨v,out,fun dx H1 k1 t1 hd=>?_⟩)⟩
   refine ⟨c.getD 3 0,rfl,C.tself,fun e he=>?_⟩
   have s2:Same H1 (upd H1 e (ExcD (c.getD 3 0) e (some dx))):=same_upd he
   have he2:upd H1 e (ExcD (c.getD 3 0) e (some dx)) e=some (ExcD (c.getD 3 0) e (some dx)):=upd_same
   refine ⟨_,rfl,⟨e,_,dx,_,v,rfl,he2,s2 _ _ hd,C.tcls,C.part,rfl,?_⟩⟩
   exact ⟨_,rfl,q _ (k1.trans (Kp.same s2)) (t1.same s2)⟩
  ·refine ⟨_,rfl,_,rfl,_,rfl,_,_,_,rfl,tx,h1,h2,h3,.inl (.inl ⟨v,out,fun dx H1 k1 t1 hd=>?_⟩)⟩
   refine ⟨c.getD 3 0,rfl,C.tself,fun e he=>?_⟩
   have s2:Same H1 (upd H1 e (ExcD (c.getD 3 0) e (some dx))):=same_upd he
   have he2:upd H1 e (ExcD (c.getD 3 0) e (some dx)) e=some (ExcD (c.getD 3 0) e (some dx)):=upd_same
   refine ⟨_,rfl,⟨e,_,dx,_,v,rfl,he2,s2 _ _ hd,C.tcls,C.part,rfl,?_⟩⟩
   exact ⟨_,rfl,q _ (k1.trans (Kp.same s2)) (t1.same s2)⟩
  ·refine ⟨_,rfl,_,rfl,_,rfl,by show 1≤sizeLine; decide,?_⟩
   (intro bk gbk; generalize hEq:upd _ bk _=H3; refine newC hEq gbk ?_; clear hEq; intro S3 ebk obk)
   refine ⟨_,_,_,rfl,tx.kp (Kp.same S3),h1.same S3,h2.same S3,h3.same S3,.inl (.inl ⟨v,outT_kp (Kp.same S3) tx out,fun dx H1 k1 t1 hd=>?_⟩)⟩
   refine ⟨c.getD 3 0,rfl,C.tself,fun e he=>?_⟩
   have s2:Same H1 (upd H1 e (ExcD (c.getD 3 0) e (some dx))):=same_upd he
   have he2:upd H1 e (ExcD (c.getD 3 0) e (some dx)) e=some (ExcD (c.getD 3 0) e (some dx)):=upd_same
   refine ⟨_,rfl,⟨e,_,dx,_,v,rfl,he2,s2 _ _ hd,C.tcls,C.part,rfl,?_⟩⟩
   exact ⟨_,rfl,q _ (((Kp.same S3).trans k1).trans (Kp.same s2)) (((tk_same S3).trans t1).same s2)⟩
end
def ItT (H:Hp) (y:V):Prop:=∃a x v,y = .ref a∧H a=some (.tup [x,v])∧ThT H x∧OutT H x (some v)
theorem ItT.same {H H':Hp} {y:V} (h:ItT H y) (s:Same H H'):ItT H' y:=by
 obtain ⟨a,x,v,e,ha,tx,o⟩:=h
 exact ⟨a,x,v,e,s _ _ ha,tx.kp (Kp.same s),outT_kp (Kp.same s) tx o⟩
theorem it_more {H:Hp} {ys:List V} {y:V} (h:∀y∈ys,ItT H y) (hy:ItT H y):∀z∈ys ++ [y],ItT H z:=fun z hz=>by
 rcases List.mem_append.mp hz with m | m
 ·exact h z m
 ·rw [List.mem_singleton.mp m]; exact hy
theorem tht {H:Hp} {a:Addr} {s f p l:V} (h:H a=some (.tup [s,f,p,l])) (h1:ThS H s) (h2:ThU H f) (h3:ThU H p) (h4:Th H l):ThT H (.ref a):=⟨.tup h,fun b s' f' p' l' e e'=>by
 cases e
 rw [h] at e'; cases e'
 exact ⟨h1,h2,h3,h4⟩⟩
theorem thu_txs {H:Hp} {a:Addr} {ts:List Str} (h:H a=some (.lst (txs ts))):ThU H (.ref a):=⟨.lst h,fun b ys e e' y hy=>by
 cases e
 rw [h] at e'; cases e'
 exact txs_th y hy⟩
theorem thu_nil {H:Hp} {a:Addr} (h:H a=some (.lst [])):ThU H (.ref a):=thu_txs (ts:=[]) h
theorem thr_of {H:Hp} {a:Addr} {x y z:V} (h:H a=some (.tup [x,y,z])) (h1:ThD H x) (h2:ThD H y) (h3:ThD H z):ThR H (.ref a):=⟨.tup h,fun b ys e e' u hu=>by
 cases e
 rw [h] at e'; cases e'
 rcases List.mem_cons.mp hu with rfl | hu
 ·exact h1
 ·rcases List.mem_cons.mp hu with rfl | hu
  ·exact h2
  ·rw [List.mem_singleton.mp hu]; exact h3⟩
theorem sgl {H:Hp} {c:Nat}:ThD H (.str (sg1 c)):=⟨.str _,fun a xs e=>(by cases e),fun a n d e=>(by cases e),fun z e=>by injection e with e; rw [← e]; exact Nat.le_trans (show (1:Nat)≤8 by decide) (by decide)⟩
section
variable {P:Program} {w:World} {K:PySem.W.Frag} {mg:Str→Option Value} {base:Heap} {c:List Addr}
def spNoTgs:Sp:=fun vs H Q _=>∃(t:Addr) (cs:List Nat) (fs ps:List Str) (lg:Int),vs=[.ref t]∧Tg H t cs fs ps lg∧∀M its H',Same H H'→H' M=some (.lst its)→its.length=10→(∀y∈its,ItT H' y)→Q (.ref M) H'
theorem scNg:FnScope ["_law_tongue_here","_law_signs","_law_firsts","_law_pairs","_law_longest","_law_sign_here","_law_price","_law_last","_law_some"] ["_law_tongue_here"] (defScope sNoTgs):=⟨rfl,rfl,rfl,by decide +kernel,rfl,by decide +kernel,by decide +kernel⟩
theorem ok_noTgs {f:Addr} {fd:FuncData} (F:FunG K "_law_no_tongues" "_law_no_tongues" sNoTgs .none f fd) (B:Bl mg):FnOk P w K mg base (CXE P w) 1 f fd ["_law_tongue_here"] spNoTgs:=by
 refine F.zokN scNg (fun vs H Q E h=>?_) (fun cdv A outer s H vs Q E hr h=>?_)
 ·obtain ⟨t,cs,fs,ps,lg,rfl,_⟩:=h
  rfl
 ·obtain ⟨t,cs,fs,ps,lg,rfl,tg,q⟩:=h
  refine ⟨_,(zpss_cons (zps_asg (zpv 0) (zpg_tup rfl (zpgs_cons (zpg_name (i:=1) scNg.nd rfl (Or.inl rfl)) (zpgs_cons (zpg_name (i:=2) scNg.nd rfl (Or.inl rfl)) (zpgs_cons (zpg_name (i:=3) scNg.nd rfl (Or.inl rfl)) (zpgs_cons (zpg_name (i:=4) scNg.nd rfl (Or.inl rfl)) zpgs_nil))))))
   (zpss_cons (zps_asg (zpe_ix ix_list (zpv 1) zpe_int (fun _ _=>rfl)) (zpg_tup rfl (zpgs_cons (zpg_name (i:=5) scNg.nd rfl (Or.inl rfl)) (zpgs_cons (zpg_name (i:=6) scNg.nd rfl (Or.inl rfl)) (zpgs_cons (zpg_name (i:=7) scNg.nd rfl (Or.inl rfl)) zpgs_nil)))))
   (zpss_cons (zps_set (i:=8) scNg.nd rfl (Or.inl rfl) (zpe_lst (zpac_t (zpe_tup (zpac_c zpe_non (zpac_c zpe_non zpa_nil))) (zpac_t (zpe_tup (zpac_f (zpe_callTy call_list_of (by rfl) B.list boot_list (zpac_n (zpv 0) zpa_nil)) (zpac_c zpe_non zpa_nil))) (zpac_t (zpe_tup (zpac_t (zpe_tup (zpac_n (zpv 1) (zpac_n (zpv 2) (zpac_n (zpv 3) zpa_nil)))) (zpac_c zpe_non zpa_nil))) (zpac_t (zpe_tup (zpac_t (zpe_tup (zpac_n (zpv 1) (zpac_n (zpv 2) (zpac_n (zpv 3) (zpac_c zpe_int zpa_nil))))) (zpac_c zpe_str zpa_nil))) zpa_nil))))))
   (zpss_cons (zps_set (i:=8) scNg.nd rfl (Or.inl rfl) (zpe_op op_cat (zpv 8) (zpe_lst (zpac_t (zpe_tup (zpac_t (zpe_tup (zpac_n (zpv 1) (zpac_n (zpv 2) (zpac_n (zpv 3) (zpac_c zpe_bl zpa_nil))))) (zpac_c zpe_str zpa_nil))) (zpac_t (zpe_tup (zpac_t (zpe_tup (zpac_s (zpe_slice sl_list (zpv 1) zpo_none (zpo_some zpe_int)) (zpac_l (zpe_lst zpa_nil) (zpac_l (zpe_lst zpa_nil) (zpac_n (zpv 4) zpa_nil))))) (zpac_c zpe_str zpa_nil))) zpa_nil)))))
   (zpss_cons (zps_set (i:=8) scNg.nd rfl (Or.inl rfl) (zpe_op op_cat (zpv 8) (zpe_lst (zpac_t (zpe_tup (zpac_t (zpe_tup (zpac_b (zpe_op op_cat (zpe_lst (zpac_t (zpe_tup (zpac_n (zpv 5) (zpac_t (zpe_tup (zpac_c zpe_int (zpac_c zpe_int zpa_nil))) (zpac_n (zpv 7) zpa_nil)))) zpa_nil)) (zpe_slice sl_list (zpv 1) (zpo_some zpe_int) zpo_none)) (zpac_n (zpv 2) (zpac_n (zpv 3) (zpac_n (zpv 4) zpa_nil))))) (zpac_c zpe_str zpa_nil))) zpa_nil))))
   (zpss_cons (zps_set (i:=8) scNg.nd rfl (Or.inl rfl) (zpe_op op_cat (zpv 8) (zpe_lst (zpac_t (zpe_tup (zpac_t (zpe_tup (zpac_n (zpv 1) (zpac_l (zpe_lst (zpac_c zpe_str zpa_nil)) (zpac_n (zpv 3) (zpac_n (zpv 4) zpa_nil))))) (zpac_c zpe_str zpa_nil))) (zpac_t (zpe_tup (zpac_t (zpe_tup (zpac_n (zpv 1) (zpac_n (zpv 2) (zpac_b (zpe_op op_cat (zpv 3) (zpe_lst (zpac_c zpe_str zpa_nil))) (zpac_n (zpv 4) zpa_nil))))) (zpac_c zpe_str zpa_nil))) zpa_nil)))))
   (zpss_one (zps_ret (zpe_op op_cat (zpv 8) (zpe_lst (zpac_t (zpe_tup (zpac_t (zpe_tup (zpac_b (zpe_op op_cat (zpe_lst (zpac_t (zpe_tup (zpac_n (zpv 5) (zpac_n (zpv 6) (zpac_t (zpe_tup (zpac_c zpe_int (zpac_c zpe_int zpa_nil))) zpa_nil)))) zpa_nil)) (zpe_slice sl_list (zpv 1) (zpo_some zpe_int) zpo_none)) (zpac_n (zpv 2) (zpac_n (zpv 3) (zpac_c zpe_int zpa_nil))))) (zpac_c zpe_str zpa_nil))) zpa_nil))))))))))),?_⟩
  have sz:∀{m:Nat},m≤100→m≤sizeLine:=fun h=>Nat.le_trans h (by decide)
  have s1:1≤sizeLine:=sz (show 1≤100 by decide)
  have s2:2≤sizeLine:=sz (show 2≤100 by decide)
  have s3:3≤sizeLine:=sz (show 3≤100 by decide)
  have s4:4≤sizeLine:=sz (show 4≤100 by decide)
  obtain ⟨S0,F0,G0,xs,g1,g2,g3,g4,g5⟩:=tg.ex
  have c2:=tg.c2
  have c6:=tg.c6
  have pl:=tg.plen
  have xl:xs.length=cs.length:=g3.len
  have dl:(xs.drop 1).length≤6:=by rw [List.length_drop]; omega
  have e0:xs[0]? = some (xs[0]'(by omega)):=List.getElem?_eq_getElem _
  generalize xs[0]'(by omega)=x0 at e0
  obtain ⟨cc,hc,row0⟩:=g3.at e0
  obtain ⟨a0,p0,l0,rfl,ha0,hp0,hl0⟩:=row0.ex
  have coc:∀c∈cs,occ c=true:=fun c hc=>by
   obtain ⟨i,hi⟩:=List.getElem?_of_mem hc
   have ex:xs[i]? = some (xs[i]'(by have:=(List.getElem?_eq_some_iff.mp hi).1; omega)):=List.getElem?_eq_getElem _
   exact (g3.row i _ c ex hi).oc
  have sg:∀{H':Hp},Same H H'→SigP H' (.ref S0) cs:=fun s=>⟨S0,xs,rfl,s _ _ g2,(g3.kp (Kp.same s)).p,tg.nd,tg.c2,tg.c6⟩
  have fg:∀{H':Hp},Same H H'→UnlP H' (.ref F0) (sgs cs) fs:=fun s=>⟨F0,rfl,s _ _ g4,tg.fnd,tg.fsub⟩
  have pg:∀{H':Hp},Same H H'→UnlP H' (.ref G0) (prs (sgs cs)) ps:=fun s=>⟨G0,rfl,s _ _ g5,tg.pnd,tg.psub⟩
  have rw_:∀{H':Hp},Same H H'→∀y∈xs,ThR H' y:=fun s y hy=>by
   obtain ⟨i,hi⟩:=List.getElem?_of_mem hy
   obtain ⟨c',_,r⟩:=(g3.kp (Kp.same s)).at hi
   exact r.thr
  have sT:∀{H':Hp},Same H H'→ThS H' (.ref S0):=fun s=>⟨.lst (s _ _ g2),fun b ys e e' y hy=>by
   cases e
   rw [s _ _ g2] at e'; cases e'
   exact rw_ s y hy⟩
  have fT:∀{H':Hp},Same H H'→ThU H' (.ref F0):=fun s=>thu_txs (s _ _ g4)
  have pT:∀{H':Hp},Same H H'→ThU H' (.ref G0):=fun s=>thu_txs (s _ _ g5)
  have prT:∀{H':Hp},Same H H'→ThD H' p0:=fun s=>(hp0.kp (Kp.same s)).thd
  have lT:∀{H':Hp},Same H H'→ThD H' l0:=fun s=>by
   rcases hl0 with rfl | hl
   ·exact th_one rfl nofun
   ·exact (hl.kp (Kp.same s)).thd
  refine ⟨_,rfl,t,_,rfl,SqT.of g1,rfl,_,_,rfl,_,_,rfl,_,_,rfl,_,_,rfl,rfl,?_⟩
  refine ⟨_,rfl,S0,_,_,_,rfl,rfl,SqL.of g2,(show atI xs 0=some (V.ref a0) from atI_nat (j:=0) e0),a0,_,rfl,SqT.of ha0,rfl,_,_,rfl,_,_,rfl,_,_,rfl,rfl,?_⟩
  have KS:Same H H:=Same.refl _
  have its:∀y∈([]:List V),ItT H y:=nofun
  refine ⟨s2,?_⟩
  (intro t1 g_t1; generalize hEq:upd _ t1 _=A1; refine newC hEq g_t1 ?_; clear hEq; intro X1 e_t1 o_t1)
  clear o_t1
  have KS:=KS.trans X1
  have its:=fun y h=>(its y h).same X1
  clear X1
  have its:=it_more its (y:=.ref t1) ⟨t1,_,_,rfl,e_t1,⟨.non,fun a s f p l e=>(by cases e)⟩,.kind fun a xs e=>(by cases e)⟩
  refine ⟨_,rfl,t,_,rfl,.inr (SqT.of (KS _ _ g1)),?_⟩
  (intro l1 g_l1; generalize hEq:upd _ l1 _=A2; refine newC hEq g_l1 ?_; clear hEq; intro X2 e_l1 o_l1)
  clear o_l1
  have e_t1:=X2 _ _ e_t1
  have KS:=KS.trans X2
  have its:=fun y h=>(its y h).same X2
  clear X2
  refine ⟨s2,?_⟩
  (intro t2 g_t2; generalize hEq:upd _ t2 _=A3; refine newC hEq g_t2 ?_; clear hEq; intro X3 e_t2 o_t2)
  clear o_t2
  have e_t1:=X3 _ _ e_t1
  have e_l1:=X3 _ _ e_l1
  have KS:=KS.trans X3
  have its:=fun y h=>(its y h).same X3
  clear X3
  have its:=it_more its (y:=.ref t2) ⟨t2,_,_,rfl,e_t2,⟨.lst e_l1,fun a s f p l e e'=>(by cases e; rw [e_l1] at e'; cases e')⟩,.kind fun a xs e e'=>(by cases e; rw [e_l1] at e'; cases e')⟩
  refine ⟨_,rfl,_,rfl,_,rfl,s3,?_⟩
  (intro u3 g_u3; generalize hEq:upd _ u3 _=A4; refine newC hEq g_u3 ?_; clear hEq; intro X4 e_u3 o_u3)
  clear o_u3
  have e_t1:=X4 _ _ e_t1
  have e_l1:=X4 _ _ e_l1
  have e_t2:=X4 _ _ e_t2
  have KS:=KS.trans X4
  have its:=fun y h=>(its y h).same X4
  clear X4
  refine ⟨s2,?_⟩
  (intro t3 g_t3; generalize hEq:upd _ t3 _=A5; refine newC hEq g_t3 ?_; clear hEq; intro X5 e_t3 o_t3)
  clear o_t3
  have e_t1:=X5 _ _ e_t1
  have e_l1:=X5 _ _ e_l1
  have e_t2:=X5 _ _ e_t2
  have e_u3:=X5 _ _ e_u3
  have KS:=KS.trans X5
  have its:=fun y h=>(its y h).same X5
  clear X5
  have its:=it_more its (y:=.ref t3) ⟨t3,_,_,rfl,e_t3,⟨.tup e_u3,fun a s f p l e e'=>(by cases e; rw [e_u3] at e'; cases e')⟩,.kind fun a xs e e'=>(by cases e; rw [e_u3] at e'; cases e'; exact (show 3≠4 by decide))⟩
  refine ⟨_,rfl,_,rfl,_,rfl,s4,?_⟩
  (intro u4 g_u4; generalize hEq:upd _ u4 _=A6; refine newC hEq g_u4 ?_; clear hEq; intro X6 e_u4 o_u4)
  clear o_u4
  have e_t1:=X6 _ _ e_t1
  have e_l1:=X6 _ _ e_l1
  have e_t2:=X6 _ _ e_t2
  have e_u3:=X6 _ _ e_u3
  have e_t3:=X6 _ _ e_t3
  have KS:=KS.trans X6
  have its:=fun y h=>(its y h).same X6
  clear X6
  refine ⟨s2,?_⟩
  (intro t4 g_t4; generalize hEq:upd _ t4 _=A7; refine newC hEq g_t4 ?_; clear hEq; intro X7 e_t4 o_t4)
  clear o_t4
  have e_t1:=X7 _ _ e_t1
  have e_l1:=X7 _ _ e_l1
  have e_t2:=X7 _ _ e_t2
  have e_u3:=X7 _ _ e_u3
  have e_t3:=X7 _ _ e_t3
  have e_u4:=X7 _ _ e_u4
  have KS:=KS.trans X7
  have its:=fun y h=>(its y h).same X7
  clear X7
  have its:=it_more its (y:=.ref t4) ⟨t4,_,_,rfl,e_t4,tht e_u4 (sT KS) (fT KS) (pT KS) (.int _),.longest e_u4 (sg KS) (fg KS) (pg KS) (by decide)⟩
  clear e_u3
  clear e_u4
  clear e_l1
  refine ⟨s4,?_⟩
  (intro L1 g_L1; generalize hEq:upd _ L1 _=A8; refine newC hEq g_L1 ?_; clear hEq; intro X8 e_L1 o_L1)
  clear o_L1
  have e_t1:=X8 _ _ e_t1
  have e_t2:=X8 _ _ e_t2
  have e_t3:=X8 _ _ e_t3
  have e_t4:=X8 _ _ e_t4
  have KS:=KS.trans X8
  have its:=fun y h=>(its y h).same X8
  clear X8
  refine ⟨_,rfl,_,rfl,_,rfl,_,rfl,s4,?_⟩
  (intro u5 g_u5; generalize hEq:upd _ u5 _=A9; refine newC hEq g_u5 ?_; clear hEq; intro X9 e_u5 o_u5)
  clear o_u5
  have e_t1:=X9 _ _ e_t1
  have e_t2:=X9 _ _ e_t2
  have e_t3:=X9 _ _ e_t3
  have e_t4:=X9 _ _ e_t4
  have e_L1:=X9 _ _ e_L1
  have KS:=KS.trans X9
  have its:=fun y h=>(its y h).same X9
  clear X9
  refine ⟨s2,?_⟩
  (intro t5 g_t5; generalize hEq:upd _ t5 _=A10; refine newC hEq g_t5 ?_; clear hEq; intro X10 e_t5 o_t5)
  clear o_t5
  have e_t1:=X10 _ _ e_t1
  have e_t2:=X10 _ _ e_t2
  have e_t3:=X10 _ _ e_t3
  have e_t4:=X10 _ _ e_t4
  have e_L1:=X10 _ _ e_L1
  have e_u5:=X10 _ _ e_u5
  have KS:=KS.trans X10
  have its:=fun y h=>(its y h).same X10
  clear X10
  have its:=it_more its (y:=.ref t5) ⟨t5,_,_,rfl,e_t5,tht e_u5 (sT KS) (fT KS) (pT KS) (.bl _),.longest e_u5 (sg KS) (fg KS) (pg KS) rfl⟩
  refine ⟨_,rfl,_,rfl,S0,_,rfl,SqL.of (KS _ _ g2),?_⟩
  (intro c6 g_c6; generalize hEq:upd _ c6 _=A11; refine newC hEq g_c6 ?_; clear hEq; intro X11 e_c6 o_c6)
  clear o_c6
  have e_t1:=X11 _ _ e_t1
  have e_t2:=X11 _ _ e_t2
  have e_t3:=X11 _ _ e_t3
  have e_t4:=X11 _ _ e_t4
  have e_L1:=X11 _ _ e_L1
  have e_u5:=X11 _ _ e_u5
  have e_t5:=X11 _ _ e_t5
  have KS:=KS.trans X11
  have its:=fun y h=>(its y h).same X11
  clear X11
  rw [show cutV xs none (some 1)=xs.take 1 from cut_to xs 1] at e_c6
  refine ⟨Nat.zero_le _,?_⟩
  (intro d6 g_d6; generalize hEq:upd _ d6 _=A12; refine newC hEq g_d6 ?_; clear hEq; intro X12 e_d6 o_d6)
  clear o_d6
  have e_t1:=X12 _ _ e_t1
  have e_t2:=X12 _ _ e_t2
  have e_t3:=X12 _ _ e_t3
  have e_t4:=X12 _ _ e_t4
  have e_L1:=X12 _ _ e_L1
  have e_u5:=X12 _ _ e_u5
  have e_t5:=X12 _ _ e_t5
  have e_c6:=X12 _ _ e_c6
  have KS:=KS.trans X12
  have its:=fun y h=>(its y h).same X12
  clear X12
  refine ⟨Nat.zero_le _,?_⟩
  (intro f6 g_f6; generalize hEq:upd _ f6 _=A13; refine newC hEq g_f6 ?_; clear hEq; intro X13 e_f6 o_f6)
  clear o_f6
  have e_t1:=X13 _ _ e_t1
  have e_t2:=X13 _ _ e_t2
  have e_t3:=X13 _ _ e_t3
  have e_t4:=X13 _ _ e_t4
  have e_L1:=X13 _ _ e_L1
  have e_u5:=X13 _ _ e_u5
  have e_t5:=X13 _ _ e_t5
  have e_c6:=X13 _ _ e_c6
  have e_d6:=X13 _ _ e_d6
  have KS:=KS.trans X13
  have its:=fun y h=>(its y h).same X13
  clear X13
  refine ⟨_,rfl,s4,?_⟩
  (intro u6 g_u6; generalize hEq:upd _ u6 _=A14; refine newC hEq g_u6 ?_; clear hEq; intro X14 e_u6 o_u6)
  clear o_u6
  have e_t1:=X14 _ _ e_t1
  have e_t2:=X14 _ _ e_t2
  have e_t3:=X14 _ _ e_t3
  have e_t4:=X14 _ _ e_t4
  have e_L1:=X14 _ _ e_L1
  have e_u5:=X14 _ _ e_u5
  have e_t5:=X14 _ _ e_t5
  have e_c6:=X14 _ _ e_c6
  have e_d6:=X14 _ _ e_d6
  have e_f6:=X14 _ _ e_f6
  have KS:=KS.trans X14
  have its:=fun y h=>(its y h).same X14
  clear X14
  refine ⟨s2,?_⟩
  (intro t6 g_t6; generalize hEq:upd _ t6 _=A15; refine newC hEq g_t6 ?_; clear hEq; intro X15 e_t6 o_t6)
  clear o_t6
  have e_t1:=X15 _ _ e_t1
  have e_t2:=X15 _ _ e_t2
  have e_t3:=X15 _ _ e_t3
  have e_t4:=X15 _ _ e_t4
  have e_L1:=X15 _ _ e_L1
  have e_u5:=X15 _ _ e_u5
  have e_t5:=X15 _ _ e_t5
  have e_c6:=X15 _ _ e_c6
  have e_d6:=X15 _ _ e_d6
  have e_f6:=X15 _ _ e_f6
  have e_u6:=X15 _ _ e_u6
  have KS:=KS.trans X15
  have its:=fun y h=>(its y h).same X15
  clear X15
  have its:=it_more its (y:=.ref t6) ⟨t6,_,_,rfl,e_t6,tht e_u6 ⟨.lst e_c6,fun b ys e e' y hy=>(by cases e; rw [e_c6] at e'; cases e'; exact (rw_ KS y (List.mem_of_mem_take hy)))⟩ (thu_nil e_d6) (thu_nil e_f6) (.int _),.signs e_u6 fun ds ⟨S',ys,e,hS',r,_,c2',_⟩=>(by cases e; rw [e_c6] at hS'; cases hS'; have:=r.len; rw [List.length_take] at this; omega)⟩
  clear e_u5
  clear e_u6
  clear e_c6
  clear e_d6
  clear e_f6
  refine ⟨s2,?_⟩
  (intro L2 g_L2; generalize hEq:upd _ L2 _=A16; refine newC hEq g_L2 ?_; clear hEq; intro X16 e_L2 o_L2)
  clear o_L2
  have e_t1:=X16 _ _ e_t1
  have e_t2:=X16 _ _ e_t2
  have e_t3:=X16 _ _ e_t3
  have e_t4:=X16 _ _ e_t4
  have e_L1:=X16 _ _ e_L1
  have e_t5:=X16 _ _ e_t5
  have e_t6:=X16 _ _ e_t6
  have KS:=KS.trans X16
  have its:=fun y h=>(its y h).same X16
  clear X16
  refine ⟨L1,L2,_,_,rfl,rfl,e_L1,e_L2,sz (show 4 + 2≤100 by decide),?_⟩
  (intro M2 g_M2; generalize hEq:upd _ M2 _=A17; refine newC hEq g_M2 ?_; clear hEq; intro X17 e_M2 o_M2)
  clear o_M2
  have e_t1:=X17 _ _ e_t1
  have e_t2:=X17 _ _ e_t2
  have e_t3:=X17 _ _ e_t3
  have e_t4:=X17 _ _ e_t4
  have e_L1:=X17 _ _ e_L1
  have e_t5:=X17 _ _ e_t5
  have e_t6:=X17 _ _ e_t6
  have e_L2:=X17 _ _ e_L2
  have KS:=KS.trans X17
  have its:=fun y h=>(its y h).same X17
  clear X17
  clear e_L1
  clear e_L2
  refine ⟨_,rfl,_,rfl,s2,?_⟩
  (intro z7 g_z7; generalize hEq:upd _ z7 _=A18; refine newC hEq g_z7 ?_; clear hEq; intro X18 e_z7 o_z7)
  clear o_z7
  have e_t1:=X18 _ _ e_t1
  have e_t2:=X18 _ _ e_t2
  have e_t3:=X18 _ _ e_t3
  have e_t4:=X18 _ _ e_t4
  have e_t5:=X18 _ _ e_t5
  have e_t6:=X18 _ _ e_t6
  have e_M2:=X18 _ _ e_M2
  have KS:=KS.trans X18
  have its:=fun y h=>(its y h).same X18
  clear X18
  refine ⟨_,rfl,s3,?_⟩
  (intro r7 g_r7; generalize hEq:upd _ r7 _=A19; refine newC hEq g_r7 ?_; clear hEq; intro X19 e_r7 o_r7)
  clear o_r7
  have e_t1:=X19 _ _ e_t1
  have e_t2:=X19 _ _ e_t2
  have e_t3:=X19 _ _ e_t3
  have e_t4:=X19 _ _ e_t4
  have e_t5:=X19 _ _ e_t5
  have e_t6:=X19 _ _ e_t6
  have e_M2:=X19 _ _ e_M2
  have e_z7:=X19 _ _ e_z7
  have KS:=KS.trans X19
  have its:=fun y h=>(its y h).same X19
  clear X19
  refine ⟨s1,?_⟩
  (intro q7 g_q7; generalize hEq:upd _ q7 _=A20; refine newC hEq g_q7 ?_; clear hEq; intro X20 e_q7 o_q7)
  clear o_q7
  have e_t1:=X20 _ _ e_t1
  have e_t2:=X20 _ _ e_t2
  have e_t3:=X20 _ _ e_t3
  have e_t4:=X20 _ _ e_t4
  have e_t5:=X20 _ _ e_t5
  have e_t6:=X20 _ _ e_t6
  have e_M2:=X20 _ _ e_M2
  have e_z7:=X20 _ _ e_z7
  have e_r7:=X20 _ _ e_r7
  have KS:=KS.trans X20
  have its:=fun y h=>(its y h).same X20
  clear X20
  refine ⟨_,rfl,_,rfl,S0,_,rfl,SqL.of (KS _ _ g2),?_⟩
  (intro c7 g_c7; generalize hEq:upd _ c7 _=A21; refine newC hEq g_c7 ?_; clear hEq; intro X21 e_c7 o_c7)
  clear o_c7
  have e_t1:=X21 _ _ e_t1
  have e_t2:=X21 _ _ e_t2
  have e_t3:=X21 _ _ e_t3
  have e_t4:=X21 _ _ e_t4
  have e_t5:=X21 _ _ e_t5
  have e_t6:=X21 _ _ e_t6
  have e_M2:=X21 _ _ e_M2
  have e_z7:=X21 _ _ e_z7
  have e_r7:=X21 _ _ e_r7
  have e_q7:=X21 _ _ e_q7
  have KS:=KS.trans X21
  have its:=fun y h=>(its y h).same X21
  clear X21
  rw [show cutV xs (some 1) none=xs.drop 1 from cut_from xs 1] at e_c7
  refine ⟨q7,c7,_,_,rfl,rfl,e_q7,e_c7,sz (show 1 + (xs.drop 1).length≤100 by omega),?_⟩
  (intro s7 g_s7; generalize hEq:upd _ s7 _=A22; refine newC hEq g_s7 ?_; clear hEq; intro X22 e_s7 o_s7)
  clear o_s7
  have e_t1:=X22 _ _ e_t1
  have e_t2:=X22 _ _ e_t2
  have e_t3:=X22 _ _ e_t3
  have e_t4:=X22 _ _ e_t4
  have e_t5:=X22 _ _ e_t5
  have e_t6:=X22 _ _ e_t6
  have e_M2:=X22 _ _ e_M2
  have e_z7:=X22 _ _ e_z7
  have e_r7:=X22 _ _ e_r7
  have e_q7:=X22 _ _ e_q7
  have e_c7:=X22 _ _ e_c7
  have KS:=KS.trans X22
  have its:=fun y h=>(its y h).same X22
  clear X22
  refine ⟨_,rfl,_,rfl,_,rfl,s4,?_⟩
  (intro u7 g_u7; generalize hEq:upd _ u7 _=A23; refine newC hEq g_u7 ?_; clear hEq; intro X23 e_u7 o_u7)
  clear o_u7
  have e_t1:=X23 _ _ e_t1
  have e_t2:=X23 _ _ e_t2
  have e_t3:=X23 _ _ e_t3
  have e_t4:=X23 _ _ e_t4
  have e_t5:=X23 _ _ e_t5
  have e_t6:=X23 _ _ e_t6
  have e_M2:=X23 _ _ e_M2
  have e_z7:=X23 _ _ e_z7
  have e_r7:=X23 _ _ e_r7
  have e_q7:=X23 _ _ e_q7
  have e_c7:=X23 _ _ e_c7
  have e_s7:=X23 _ _ e_s7
  have KS:=KS.trans X23
  have its:=fun y h=>(its y h).same X23
  clear X23
  refine ⟨s2,?_⟩
  (intro t7 g_t7; generalize hEq:upd _ t7 _=A24; refine newC hEq g_t7 ?_; clear hEq; intro X24 e_t7 o_t7)
  clear o_t7
  have e_t1:=X24 _ _ e_t1
  have e_t2:=X24 _ _ e_t2
  have e_t3:=X24 _ _ e_t3
  have e_t4:=X24 _ _ e_t4
  have e_t5:=X24 _ _ e_t5
  have e_t6:=X24 _ _ e_t6
  have e_M2:=X24 _ _ e_M2
  have e_z7:=X24 _ _ e_z7
  have e_r7:=X24 _ _ e_r7
  have e_q7:=X24 _ _ e_q7
  have e_c7:=X24 _ _ e_c7
  have e_s7:=X24 _ _ e_s7
  have e_u7:=X24 _ _ e_u7
  have KS:=KS.trans X24
  have its:=fun y h=>(its y h).same X24
  clear X24
  have th7:ThR A24 (.ref r7):=thr_of e_r7 (sgl (c:=cc)) (th_frac e_z7 (by decide +kernel)) (lT KS)
  have its:=it_more its (y:=.ref t7) ⟨t7,_,_,rfl,e_t7,tht e_u7 ⟨.lst e_s7,fun b ys e e' y hy=>(by cases e; rw [e_s7] at e'; cases e'; exact (List.mem_append.mp hy).elim (fun h=>by rw [List.mem_singleton.mp h]; exact th7) (fun h=>rw_ KS y (List.mem_of_mem_drop h)))⟩ (fT KS) (pT KS) (.int _),.signs e_u7 fun ds ⟨S',ys,e,hS',r,_⟩=>(by cases e; rw [e_s7] at hS'; cases hS'; obtain ⟨d,_,a,p,l,e,ha,_,⟨a',n',d',e',ha',n0,_⟩,_⟩:=r.at (i:=0) (x:=.ref r7) rfl; cases e; rw [e_r7] at ha; cases ha; cases e'; rw [e_z7] at ha'; cases ha'; omega)⟩
  clear th7
  clear e_z7
  clear e_r7
  clear e_q7
  clear e_c7
  clear e_s7
  clear e_u7
  refine ⟨s1,?_⟩
  (intro L3 g_L3; generalize hEq:upd _ L3 _=A25; refine newC hEq g_L3 ?_; clear hEq; intro X25 e_L3 o_L3)
  clear o_L3
  have e_t1:=X25 _ _ e_t1
  have e_t2:=X25 _ _ e_t2
  have e_t3:=X25 _ _ e_t3
  have e_t4:=X25 _ _ e_t4
  have e_t5:=X25 _ _ e_t5
  have e_t6:=X25 _ _ e_t6
  have e_M2:=X25 _ _ e_M2
  have e_t7:=X25 _ _ e_t7
  have KS:=KS.trans X25
  have its:=fun y h=>(its y h).same X25
  clear X25
  refine ⟨M2,L3,_,_,rfl,rfl,e_M2,e_L3,sz (show 6 + 1≤100 by decide),?_⟩
  (intro M3 g_M3; generalize hEq:upd _ M3 _=A26; refine newC hEq g_M3 ?_; clear hEq; intro X26 e_M3 o_M3)
  clear o_M3
  have e_t1:=X26 _ _ e_t1
  have e_t2:=X26 _ _ e_t2
  have e_t3:=X26 _ _ e_t3
  have e_t4:=X26 _ _ e_t4
  have e_t5:=X26 _ _ e_t5
  have e_t6:=X26 _ _ e_t6
  have e_M2:=X26 _ _ e_M2
  have e_t7:=X26 _ _ e_t7
  have e_L3:=X26 _ _ e_L3
  have KS:=KS.trans X26
  have its:=fun y h=>(its y h).same X26
  clear X26
  clear e_M2
  clear e_L3
  refine ⟨_,rfl,_,rfl,s1,?_⟩
  (intro x8 g_x8; generalize hEq:upd _ x8 _=A27; refine newC hEq g_x8 ?_; clear hEq; intro X27 e_x8 o_x8)
  clear o_x8
  have e_t1:=X27 _ _ e_t1
  have e_t2:=X27 _ _ e_t2
  have e_t3:=X27 _ _ e_t3
  have e_t4:=X27 _ _ e_t4
  have e_t5:=X27 _ _ e_t5
  have e_t6:=X27 _ _ e_t6
  have e_t7:=X27 _ _ e_t7
  have e_M3:=X27 _ _ e_M3
  have KS:=KS.trans X27
  have its:=fun y h=>(its y h).same X27
  clear X27
  refine ⟨_,rfl,_,rfl,s4,?_⟩
  (intro u8 g_u8; generalize hEq:upd _ u8 _=A28; refine newC hEq g_u8 ?_; clear hEq; intro X28 e_u8 o_u8)
  clear o_u8
  have e_t1:=X28 _ _ e_t1
  have e_t2:=X28 _ _ e_t2
  have e_t3:=X28 _ _ e_t3
  have e_t4:=X28 _ _ e_t4
  have e_t5:=X28 _ _ e_t5
  have e_t6:=X28 _ _ e_t6
  have e_t7:=X28 _ _ e_t7
  have e_M3:=X28 _ _ e_M3
  have e_x8:=X28 _ _ e_x8
  have KS:=KS.trans X28
  have its:=fun y h=>(its y h).same X28
  clear X28
  refine ⟨s2,?_⟩
  (intro t8 g_t8; generalize hEq:upd _ t8 _=A29; refine newC hEq g_t8 ?_; clear hEq; intro X29 e_t8 o_t8)
  clear o_t8
  have e_t1:=X29 _ _ e_t1
  have e_t2:=X29 _ _ e_t2
  have e_t3:=X29 _ _ e_t3
  have e_t4:=X29 _ _ e_t4
  have e_t5:=X29 _ _ e_t5
  have e_t6:=X29 _ _ e_t6
  have e_t7:=X29 _ _ e_t7
  have e_M3:=X29 _ _ e_M3
  have e_x8:=X29 _ _ e_x8
  have e_u8:=X29 _ _ e_u8
  have KS:=KS.trans X29
  have its:=fun y h=>(its y h).same X29
  clear X29
  have its:=it_more its (y:=.ref t8) ⟨t8,_,_,rfl,e_t8,tht e_u8 (sT KS) (thu_txs (ts:=["!"]) e_x8) (pT KS) (.int _),.firsts e_u8 (sg KS) fun ts ⟨L',e,hL',_,sub⟩=>(by cases e; rw [e_x8] at hL'; injection hL' with z; injection z with z; rw [← txs_inj (a:=["!"]) z] at sub; obtain ⟨d,hd,e⟩:=List.mem_map.mp (sub "!" (List.mem_cons_self ..)); have:=coc d hd; rw [sg1_inj (b:=33) e] at this; revert this; decide +kernel)⟩
  refine ⟨_,rfl,_,rfl,_,rfl,s1,?_⟩
  (intro y9 g_y9; generalize hEq:upd _ y9 _=A30; refine newC hEq g_y9 ?_; clear hEq; intro X30 e_y9 o_y9)
  clear o_y9
  have e_t1:=X30 _ _ e_t1
  have e_t2:=X30 _ _ e_t2
  have e_t3:=X30 _ _ e_t3
  have e_t4:=X30 _ _ e_t4
  have e_t5:=X30 _ _ e_t5
  have e_t6:=X30 _ _ e_t6
  have e_t7:=X30 _ _ e_t7
  have e_M3:=X30 _ _ e_M3
  have e_x8:=X30 _ _ e_x8
  have e_u8:=X30 _ _ e_u8
  have e_t8:=X30 _ _ e_t8
  have KS:=KS.trans X30
  have its:=fun y h=>(its y h).same X30
  clear X30
  refine ⟨G0,y9,_,_,rfl,rfl,KS _ _ g5,e_y9,sz (show (txs ps).length + 1≤100 by rw [txs_len]; omega),?_⟩
  (intro s9 g_s9; generalize hEq:upd _ s9 _=A31; refine newC hEq g_s9 ?_; clear hEq; intro X31 e_s9 o_s9)
  clear o_s9
  have e_t1:=X31 _ _ e_t1
  have e_t2:=X31 _ _ e_t2
  have e_t3:=X31 _ _ e_t3
  have e_t4:=X31 _ _ e_t4
  have e_t5:=X31 _ _ e_t5
  have e_t6:=X31 _ _ e_t6
  have e_t7:=X31 _ _ e_t7
  have e_M3:=X31 _ _ e_M3
  have e_x8:=X31 _ _ e_x8
  have e_u8:=X31 _ _ e_u8
  have e_t8:=X31 _ _ e_t8
  have e_y9:=X31 _ _ e_y9
  have KS:=KS.trans X31
  have its:=fun y h=>(its y h).same X31
  clear X31
  have e_s9:A31 s9=some (.lst (txs (ps ++ (["!!"]:List Str)))):=by rw [txs_app]; exact e_s9
  refine ⟨_,rfl,s4,?_⟩
  (intro u9 g_u9; generalize hEq:upd _ u9 _=A32; refine newC hEq g_u9 ?_; clear hEq; intro X32 e_u9 o_u9)
  clear o_u9
  have e_t1:=X32 _ _ e_t1
  have e_t2:=X32 _ _ e_t2
  have e_t3:=X32 _ _ e_t3
  have e_t4:=X32 _ _ e_t4
  have e_t5:=X32 _ _ e_t5
  have e_t6:=X32 _ _ e_t6
  have e_t7:=X32 _ _ e_t7
  have e_M3:=X32 _ _ e_M3
  have e_x8:=X32 _ _ e_x8
  have e_u8:=X32 _ _ e_u8
  have e_t8:=X32 _ _ e_t8
  have e_y9:=X32 _ _ e_y9
  have e_s9:=X32 _ _ e_s9
  have KS:=KS.trans X32
  have its:=fun y h=>(its y h).same X32
  clear X32
  refine ⟨s2,?_⟩
  (intro t9 g_t9; generalize hEq:upd _ t9 _=A33; refine newC hEq g_t9 ?_; clear hEq; intro X33 e_t9 o_t9)
  clear o_t9
  have e_t1:=X33 _ _ e_t1
  have e_t2:=X33 _ _ e_t2
  have e_t3:=X33 _ _ e_t3
  have e_t4:=X33 _ _ e_t4
  have e_t5:=X33 _ _ e_t5
  have e_t6:=X33 _ _ e_t6
  have e_t7:=X33 _ _ e_t7
  have e_M3:=X33 _ _ e_M3
  have e_x8:=X33 _ _ e_x8
  have e_u8:=X33 _ _ e_u8
  have e_t8:=X33 _ _ e_t8
  have e_y9:=X33 _ _ e_y9
  have e_s9:=X33 _ _ e_s9
  have e_u9:=X33 _ _ e_u9
  have KS:=KS.trans X33
  have its:=fun y h=>(its y h).same X33
  clear X33
  have its:=it_more its (y:=.ref t9) ⟨t9,_,_,rfl,e_t9,tht e_u9 (sT KS) (fT KS) (thu_txs e_s9) (.int _),.pairs e_u9 (sg KS) (fg KS) fun ts ⟨L',e,hL',_,sub⟩=>(by cases e; rw [e_s9] at hL'; injection hL' with z; injection z with z; rw [← txs_inj z] at sub; have:=coc 33 ((in_prs (sub "!!" (List.mem_append_right _ (List.mem_cons_self ..)))).1 33 (by decide)); revert this; decide +kernel)⟩
  clear e_x8
  clear e_u8
  clear e_y9
  clear e_s9
  clear e_u9
  refine ⟨s2,?_⟩
  (intro L4 g_L4; generalize hEq:upd _ L4 _=A34; refine newC hEq g_L4 ?_; clear hEq; intro X34 e_L4 o_L4)
  clear o_L4
  have e_t1:=X34 _ _ e_t1
  have e_t2:=X34 _ _ e_t2
  have e_t3:=X34 _ _ e_t3
  have e_t4:=X34 _ _ e_t4
  have e_t5:=X34 _ _ e_t5
  have e_t6:=X34 _ _ e_t6
  have e_t7:=X34 _ _ e_t7
  have e_M3:=X34 _ _ e_M3
  have e_t8:=X34 _ _ e_t8
  have e_t9:=X34 _ _ e_t9
  have KS:=KS.trans X34
  have its:=fun y h=>(its y h).same X34
  clear X34
  refine ⟨M3,L4,_,_,rfl,rfl,e_M3,e_L4,sz (show 7 + 2≤100 by decide),?_⟩
  (intro M4 g_M4; generalize hEq:upd _ M4 _=A35; refine newC hEq g_M4 ?_; clear hEq; intro X35 e_M4 o_M4)
  clear o_M4
  have e_t1:=X35 _ _ e_t1
  have e_t2:=X35 _ _ e_t2
  have e_t3:=X35 _ _ e_t3
  have e_t4:=X35 _ _ e_t4
  have e_t5:=X35 _ _ e_t5
  have e_t6:=X35 _ _ e_t6
  have e_t7:=X35 _ _ e_t7
  have e_M3:=X35 _ _ e_M3
  have e_t8:=X35 _ _ e_t8
  have e_t9:=X35 _ _ e_t9
  have e_L4:=X35 _ _ e_L4
  have KS:=KS.trans X35
  have its:=fun y h=>(its y h).same X35
  clear X35
  clear e_M3
  clear e_L4
  refine ⟨_,rfl,_,rfl,_,rfl,s2,?_⟩
  (intro z10 g_z10; generalize hEq:upd _ z10 _=A36; refine newC hEq g_z10 ?_; clear hEq; intro X36 e_z10 o_z10)
  clear o_z10
  have e_t1:=X36 _ _ e_t1
  have e_t2:=X36 _ _ e_t2
  have e_t3:=X36 _ _ e_t3
  have e_t4:=X36 _ _ e_t4
  have e_t5:=X36 _ _ e_t5
  have e_t6:=X36 _ _ e_t6
  have e_t7:=X36 _ _ e_t7
  have e_t8:=X36 _ _ e_t8
  have e_t9:=X36 _ _ e_t9
  have e_M4:=X36 _ _ e_M4
  have KS:=KS.trans X36
  have its:=fun y h=>(its y h).same X36
  clear X36
  refine ⟨s3,?_⟩
  (intro r10 g_r10; generalize hEq:upd _ r10 _=A37; refine newC hEq g_r10 ?_; clear hEq; intro X37 e_r10 o_r10)
  clear o_r10
  have e_t1:=X37 _ _ e_t1
  have e_t2:=X37 _ _ e_t2
  have e_t3:=X37 _ _ e_t3
  have e_t4:=X37 _ _ e_t4
  have e_t5:=X37 _ _ e_t5
  have e_t6:=X37 _ _ e_t6
  have e_t7:=X37 _ _ e_t7
  have e_t8:=X37 _ _ e_t8
  have e_t9:=X37 _ _ e_t9
  have e_M4:=X37 _ _ e_M4
  have e_z10:=X37 _ _ e_z10
  have KS:=KS.trans X37
  have its:=fun y h=>(its y h).same X37
  clear X37
  refine ⟨s1,?_⟩
  (intro q10 g_q10; generalize hEq:upd _ q10 _=A38; refine newC hEq g_q10 ?_; clear hEq; intro X38 e_q10 o_q10)
  clear o_q10
  have e_t1:=X38 _ _ e_t1
  have e_t2:=X38 _ _ e_t2
  have e_t3:=X38 _ _ e_t3
  have e_t4:=X38 _ _ e_t4
  have e_t5:=X38 _ _ e_t5
  have e_t6:=X38 _ _ e_t6
  have e_t7:=X38 _ _ e_t7
  have e_t8:=X38 _ _ e_t8
  have e_t9:=X38 _ _ e_t9
  have e_M4:=X38 _ _ e_M4
  have e_z10:=X38 _ _ e_z10
  have e_r10:=X38 _ _ e_r10
  have KS:=KS.trans X38
  have its:=fun y h=>(its y h).same X38
  clear X38
  refine ⟨_,rfl,_,rfl,S0,_,rfl,SqL.of (KS _ _ g2),?_⟩
  (intro c10 g_c10; generalize hEq:upd _ c10 _=A39; refine newC hEq g_c10 ?_; clear hEq; intro X39 e_c10 o_c10)
  clear o_c10
  have e_t1:=X39 _ _ e_t1
  have e_t2:=X39 _ _ e_t2
  have e_t3:=X39 _ _ e_t3
  have e_t4:=X39 _ _ e_t4
  have e_t5:=X39 _ _ e_t5
  have e_t6:=X39 _ _ e_t6
  have e_t7:=X39 _ _ e_t7
  have e_t8:=X39 _ _ e_t8
  have e_t9:=X39 _ _ e_t9
  have e_M4:=X39 _ _ e_M4
  have e_z10:=X39 _ _ e_z10
  have e_r10:=X39 _ _ e_r10
  have e_q10:=X39 _ _ e_q10
  have KS:=KS.trans X39
  have its:=fun y h=>(its y h).same X39
  clear X39
  rw [show cutV xs (some 1) none=xs.drop 1 from cut_from xs 1] at e_c10
  refine ⟨q10,c10,_,_,rfl,rfl,e_q10,e_c10,sz (show 1 + (xs.drop 1).length≤100 by omega),?_⟩
  (intro s10 g_s10; generalize hEq:upd _ s10 _=A40; refine newC hEq g_s10 ?_; clear hEq; intro X40 e_s10 o_s10)
  clear o_s10
  have e_t1:=X40 _ _ e_t1
  have e_t2:=X40 _ _ e_t2
  have e_t3:=X40 _ _ e_t3
  have e_t4:=X40 _ _ e_t4
  have e_t5:=X40 _ _ e_t5
  have e_t6:=X40 _ _ e_t6
  have e_t7:=X40 _ _ e_t7
  have e_t8:=X40 _ _ e_t8
  have e_t9:=X40 _ _ e_t9
  have e_M4:=X40 _ _ e_M4
  have e_z10:=X40 _ _ e_z10
  have e_r10:=X40 _ _ e_r10
  have e_q10:=X40 _ _ e_q10
  have e_c10:=X40 _ _ e_c10
  have KS:=KS.trans X40
  have its:=fun y h=>(its y h).same X40
  clear X40
  refine ⟨_,rfl,_,rfl,s4,?_⟩
  (intro u10 g_u10; generalize hEq:upd _ u10 _=A41; refine newC hEq g_u10 ?_; clear hEq; intro X41 e_u10 o_u10)
  clear o_u10
  have e_t1:=X41 _ _ e_t1
  have e_t2:=X41 _ _ e_t2
  have e_t3:=X41 _ _ e_t3
  have e_t4:=X41 _ _ e_t4
  have e_t5:=X41 _ _ e_t5
  have e_t6:=X41 _ _ e_t6
  have e_t7:=X41 _ _ e_t7
  have e_t8:=X41 _ _ e_t8
  have e_t9:=X41 _ _ e_t9
  have e_M4:=X41 _ _ e_M4
  have e_z10:=X41 _ _ e_z10
  have e_r10:=X41 _ _ e_r10
  have e_q10:=X41 _ _ e_q10
  have e_c10:=X41 _ _ e_c10
  have e_s10:=X41 _ _ e_s10
  have KS:=KS.trans X41
  have its:=fun y h=>(its y h).same X41
  clear X41
  refine ⟨s2,?_⟩
  (intro t10 g_t10; generalize hEq:upd _ t10 _=A42; refine newC hEq g_t10 ?_; clear hEq; intro X42 e_t10 o_t10)
  clear o_t10
  have e_t1:=X42 _ _ e_t1
  have e_t2:=X42 _ _ e_t2
  have e_t3:=X42 _ _ e_t3
  have e_t4:=X42 _ _ e_t4
  have e_t5:=X42 _ _ e_t5
  have e_t6:=X42 _ _ e_t6
  have e_t7:=X42 _ _ e_t7
  have e_t8:=X42 _ _ e_t8
  have e_t9:=X42 _ _ e_t9
  have e_M4:=X42 _ _ e_M4
  have e_z10:=X42 _ _ e_z10
  have e_r10:=X42 _ _ e_r10
  have e_q10:=X42 _ _ e_q10
  have e_c10:=X42 _ _ e_c10
  have e_s10:=X42 _ _ e_s10
  have e_u10:=X42 _ _ e_u10
  have KS:=KS.trans X42
  have its:=fun y h=>(its y h).same X42
  clear X42
  have th10:ThR A42 (.ref r10):=thr_of e_r10 (sgl (c:=cc)) (prT KS) (th_frac e_z10 (by decide +kernel))
  have its:=it_more its (y:=.ref t10) ⟨t10,_,_,rfl,e_t10,tht e_u10 ⟨.lst e_s10,fun b ys e e' y hy=>(by cases e; rw [e_s10] at e'; cases e'; exact (List.mem_append.mp hy).elim (fun h=>by rw [List.mem_singleton.mp h]; exact th10) (fun h=>rw_ KS y (List.mem_of_mem_drop h)))⟩ (fT KS) (pT KS) (.int _),.signs e_u10 fun ds ⟨S',ys,e,hS',r,_⟩=>(by cases e; rw [e_s10] at hS'; cases hS'; obtain ⟨d,_,a,p,l,e,ha,_,_,hl⟩:=r.at (i:=0) (x:=.ref r10) rfl; cases e; rw [e_r10] at ha; cases ha; exact hl.elim (fun z=>by cases z) (fun ⟨a',n',d',e',ha',n0,_⟩=>by cases e'; rw [e_z10] at ha'; cases ha'; omega))⟩
  clear th10
  clear e_z10
  clear e_r10
  clear e_q10
  clear e_c10
  clear e_s10
  clear e_u10
  refine ⟨s1,?_⟩
  (intro L5 g_L5; generalize hEq:upd _ L5 _=A43; refine newC hEq g_L5 ?_; clear hEq; intro X43 e_L5 o_L5)
  clear o_L5
  have e_t1:=X43 _ _ e_t1
  have e_t2:=X43 _ _ e_t2
  have e_t3:=X43 _ _ e_t3
  have e_t4:=X43 _ _ e_t4
  have e_t5:=X43 _ _ e_t5
  have e_t6:=X43 _ _ e_t6
  have e_t7:=X43 _ _ e_t7
  have e_t8:=X43 _ _ e_t8
  have e_t9:=X43 _ _ e_t9
  have e_M4:=X43 _ _ e_M4
  have e_t10:=X43 _ _ e_t10
  have KS:=KS.trans X43
  have its:=fun y h=>(its y h).same X43
  clear X43
  refine ⟨M4,L5,_,_,rfl,rfl,e_M4,e_L5,sz (show 9 + 1≤100 by decide),?_⟩
  (intro M5 g_M5; generalize hEq:upd _ M5 _=A44; refine newC hEq g_M5 ?_; clear hEq; intro X44 e_M5 o_M5)
  clear o_M5
  have e_t1:=X44 _ _ e_t1
  have e_t2:=X44 _ _ e_t2
  have e_t3:=X44 _ _ e_t3
  have e_t4:=X44 _ _ e_t4
  have e_t5:=X44 _ _ e_t5
  have e_t6:=X44 _ _ e_t6
  have e_t7:=X44 _ _ e_t7
  have e_t8:=X44 _ _ e_t8
  have e_t9:=X44 _ _ e_t9
  have e_M4:=X44 _ _ e_M4
  have e_t10:=X44 _ _ e_t10
  have e_L5:=X44 _ _ e_L5
  have KS:=KS.trans X44
  have its:=fun y h=>(its y h).same X44
  clear X44
  exact q M5 _ _ KS e_M5 rfl its
def spBRight (T1 T2 T3:Addr) (K:PySem.W.Frag):Sp:=fun vs H Q _=>∃(t L Bk:Addr) (cs:List Nat) (fs ps:List Str) (lg:Int) (ls:List Nat) (zs:List Str) (z:Str),vs=[.ref t,.ref L,.ref Bk,.str z]∧Tg H t cs fs ps lg∧Lts H L cs ls∧H Bk=some (.lst (txs zs))∧zs.length≤10∧
 (∀z∈zs,(∀c∈z.cps.toList,c∈cs)∧z.length≤100)∧(∀c∈z.cps.toList,c∈cs)∧z.length≤100∧Tab T1 H∧Tab T2 H∧Tab T3 H∧∀H',Kp H H'→TbK H H'→Q (.bl true) H'
theorem scBr:FnScope ["_law_tongue_here","_law_letters_here","_law_book","_law_text","_law_handed","_law_words_here","_law_due","_law_called_so","_law_found"] ["_law_tongue_here","_law_letters_here","_law_book","_law_text"] (defScope sBRight):=⟨rfl,rfl,rfl,by decide +kernel,rfl,by decide +kernel,by decide +kernel⟩
theorem ok_bright {CT N T1 T2 T3:Addr} {f fX fB fC:Addr} {fd fdX fdB fdC:FuncData} (F:FunG K "_law_book_right" "_law_book_right" sBRight .none f fd) (B:Bl mg)
  (GX:FnOk P w K mg base (CXE P w) 9 fX fdX ["tongue","letters","text"] (spTX CT N T1 T2 T3)) (mX:mg "turned_text" = some (.ref fX)) (kX:PySem.W.keepIn K (.ref fX)=true) (bX:Binds K fdX ["tongue","letters","text"] [])
  (GB:FnOk P w K mg base (CXE P w) 9 fB fdB ["tongue","letters","book"] (spTB CT N T1 T2 T3)) (mB:mg "turned_book" = some (.ref fB)) (kB:PySem.W.keepIn K (.ref fB)=true) (bB:Binds K fdB ["tongue","letters","book"] [])
  (GC:FnOk P w K mg base (CXE P w) 1 fC fdC ["_law_tongue_here","_law_letters_here","_law_text"] (spLCalled K)) (mC:mg "_law_called" = some (.ref fC)) (kC:PySem.W.keepIn K (.ref fC)=true) (bC:Binds K fdC ["_law_tongue_here","_law_letters_here","_law_text"] []):FnOk P w K mg base (CXE P w) 10 f fd ["_law_tongue_here","_law_letters_here","_law_book","_law_text"] (spBRight T1 T2 T3 K):=by
 refine F.zokN scBr (fun vs H Q E h=>?_) (fun cdv A outer s H vs Q E hr h=>?_)
 ·obtain ⟨t,L,Bk,cs,fs,ps,lg,ls,zs,z,rfl,_⟩:=h
  rfl
 ·obtain ⟨t,L,Bk,cs,fs,ps,lg,ls,zs,z,rfl,tg,hl,hB,z10,zok,zc,zl,h1,h2,h3,q⟩:=h
  refine ⟨_,(zpss_cons (zps_set (i:=4) scBr.nd rfl (Or.inl rfl) (zpe_callTy call_list_of (by rfl) B.list boot_list (zpac_n (zpv 1) zpa_nil)))
   (zpss_cons (zps_set (i:=5) scBr.nd rfl (Or.inl rfl) (zpe_callTy call_list_of (by rfl) B.list boot_list (zpac_n (zpv 2) zpa_nil)))
   (zpss_cons (zps_compL (i:=6) ["_law_tongue_here","_law_letters_here","_law_book","_law_text","_law_handed","_law_words_here","_law_due","_law_called_so","_law_found"] ["_law_one"] [0,1] (defScope sBRight) rfl rfl rfl ⟨by decide +kernel,by decide +kernel,by decide +kernel,by decide +kernel,by decide +kernel⟩ scBr.nd rfl (Or.inl rfl) (zpi_list (zpv 2)) (fun s H fp=>(zpg_name (i:=0) (show List.Nodup [("_law_one" : Str),"_law_tongue_here","_law_letters_here"] by decide +kernel) rfl (Or.inl rfl))) (fun s H fp=>zpts_nil) (fun s H fp=>(zpe_call GC (hr.mono (by decide)) (by rfl) mC kC bC .nil passE0 (zpac_n (zpv 1) (zpac_n (zpv 2) (zpac_n (zpv 0) zpa_nil))))))
   (zpss_cons (zps_set (i:=7) scBr.nd rfl (Or.inl rfl) (zpe_call GB hr (by rfl) mB kB bB .nil passE0 (zpac_n (zpv 0) (zpac_n (zpv 4) (zpac_n (zpv 5) zpa_nil)))))
   (zpss_cons (zps_if (SPW.pt (zpw_or (zpt_cmpR (op_neD hr.units60) (zpv 7) (zpv 6) (nomark _)) (zpw_or1 (zpt_cmpR (op_neD hr.units60) (zpv 5) (zpv 2) (nomark _))))) (zpss_one (zps_ret zpe_bl)) zpss_nil)
   (zpss_cons (zps_expr (zpe_bm PySem.F.plainAttrs_list PySem.F.slot_list_append PySem.F.type_list_append mt_append (zpv 7) (zpac_c zpe_str zpa_nil)))
   (zpss_cons (zps_if (zpt_cmpR (op_neD hr.units60) (zpe_call GB hr (by rfl) mB kB bB .nil passE0 (zpac_n (zpv 0) (zpac_n (zpv 4) (zpac_n (zpv 5) zpa_nil)))) (zpv 6) (nomark _)) (zpss_one (zps_ret zpe_bl)) zpss_nil)
   (zpss_cons (zps_set (i:=8) scBr.nd rfl (Or.inl rfl) (zpe_call GX hr (by rfl) mX kX bX .nil passE0 (zpac_n (zpv 0) (zpac_n (zpv 4) (zpac_n (zpv 3) zpa_nil)))))
   (zpss_one (zps_ret (zpe_and (zpe_cmpR (op_eqD hr.units60) (zpv 4) (zpv 1) (nomark _)) (zpe_one (zpe_cmpR op_eq (zpv 8) (zpe_call GC (hr.mono (by decide)) (by rfl) mC kC bC .nil passE0 (zpac_n (zpv 0) (zpac_n (zpv 1) (zpac_n (zpv 3) zpa_nil)))) (nomark _)))))))))))))),?_⟩
  obtain ⟨S0,F0,G0,xs,g1,g2,g3,g4,g5⟩:=tg.ex
  refine ⟨_,rfl,L,_,rfl,.inl (SqL.of hl.h),?_⟩
  (intro hd ghd; generalize hEq:upd _ hd _=H1; refine newC hEq ghd ?_; clear hEq; intro S1 ehd ohd)
  refine ⟨_,rfl,Bk,_,rfl,.inl (SqL.of (S1 _ _ hB)),?_⟩
  (intro wd gwd; generalize hEq:upd _ wd _=H2; refine newC hEq gwd ?_; clear hEq; intro S2 ewd owd)
  have S02:=S1.trans S2
  have call:∀{H':Hp} {z:Str},Kp H H'→(∀c∈z.cps.toList,c∈cs)→z.length≤100→∀{Q':VK} {E':XK},(∀H'',Same H' H''→Q' (.str (mapS (rf cs ls) z)) H'')→spLCalled K [.ref t,.ref L,.str z] H' Q' E':=fun {H' z} k zc zl Q' E' qq=>
   ⟨t,L,S0,_,_,_,xs,cs,ls,z,rfl,k.tup g1,k.lst g2,g3.kp k,tg.nd,tg.c6,SqL.of (k.lst hl.h),hl.len,zc,zl,qq⟩
  refine ⟨_,rfl,Bk,rfl,⟨_,SqL.of (S02 _ _ hB)⟩,?_⟩
  (intro du gdu; generalize hEq:upd _ du _=H3; refine newC hEq gdu ?_; clear hEq; intro S3 edu odu)
  refine lr_list (K:=K) (S:=Bk) (xs:=txs zs) (fun i σ H'=>(∃v,σ=[v,some (.ref t),some (.ref L)])∧Same H2 H'∧H' du=some (.lst (txs ((zs.take i).map (mapS (rf cs ls)))))) ⟨⟨_,rfl⟩,S3,edu⟩ (fun i σ H' p=>SqL.of (p.2.1 _ _ (S02 _ _ hB))) ?_ ?_
  ·rintro i x σ H' C hi ⟨⟨v,rfl⟩,k2,hF⟩ nx
   obtain ⟨z,hz,rfl⟩:∃z,zs[i]? = some z∧x = .str z:=by
    unfold txs at hi
    rw [List.getElem?_map] at hi
    obtain ⟨z,e1,e2⟩:=Option.map_eq_some_iff.mp hi
    exact ⟨z,e1,e2.symm⟩
   obtain ⟨zc,z2⟩:=zok z (List.mem_of_getElem? hz)
   refine ⟨_,rfl,_,rfl,_,rfl,?_⟩
   dsimp only [tNil]
   refine call (Kp.same (S02.trans k2)) zc z2 fun H7 S7=>?_
   refine ⟨_,S7 _ _ hF,?_,nx _ _ ⟨⟨_,rfl⟩,fun b o e=>?_,?_⟩⟩
   ·rw [txs_len,List.length_map,List.length_take]
    exact Nat.lt_of_le_of_lt (show min i zs.length≤10 by omega) (by decide)
   ·rw [upd_ne (ne_of_none e gdu)]; exact S7 _ _ (k2 _ _ e)
   ·rw [List.take_add_one,hz,List.map_append,txs_app]; exact upd_same
  rintro σ H4 ⟨_,S4,hdu⟩
  rw [txs_len,List.take_length] at hdu
  have S04:=S02.trans S4
  have k04:Kp H H4:=Kp.same S04
  have t04:TbK H H4:=tk_same S04
  have hhd:=S4 _ _ (S2 _ _ ehd)
  have hwd:=S4 _ _ ewd
  have lhd:Lts H4 hd cs ls:=⟨hhd,hl.len,hl.nd,hl.oc⟩
  have dl:(txs (zs.map (mapS (rf cs ls)))).length≤10:=by rw [txs_len,List.length_map]; exact z10
  refine ⟨_,rfl,_,rfl,_,rfl,_,_,_,rfl,(tg.kp k04).out.1,t04 _ h1,t04 _ h2,t04 _ h3,.inr ⟨t,hd,wd,cs,fs,ps,lg,ls,zs,rfl,rfl,rfl,hwd,by omega,tg.kp k04,lhd,zok,fun cl H5 k5 t5 ncl hcl=>?_⟩⟩
  have k05:=k04.trans k5
  have t05:=t04.trans t5
  have hdu5:=k5.lst hdu
  refine ⟨_,rfl,_,rfl,0,true,by decide,eqt_same (SqL.of hcl) (SqL.of hdu5) (fun y hy=>.inl (txs_flatM y hy)),_,rfl,iteF ?_⟩
  refine ⟨_,rfl,_,rfl,0,true,by decide,eqt_same (SqL.of (k5.lst hwd)) (SqL.of (k05.lst hB)) (fun y hy=>.inl (txs_flatM y hy)),_,rfl,iteF ?_⟩
  refine ⟨_,rfl,.inl ⟨rfl,_,SqL.of hcl⟩,cl,_,_,rfl,rfl,hcl,Nat.lt_of_le_of_lt dl (by decide),?_⟩
  have ap:∀{b:Addr} {o:HO},H4 b=some o→(∀ps,o≠.tbl ps)→b≠cl:=fun {b o} e nt z=>by
   obtain ⟨ps,e2⟩:=ncl o (z ▸ e)
   exact nt ps e2
  have k46:Kp H4 (upd H5 cl (.lst (txs (zs.map (mapS (rf cs ls))) ++ [V.str "a"]))):=fun b o e nt=>by
   rw [upd_ne (ap e nt)]; exact k5 b o e nt
  have t06:=t05.set (o:=.lst (txs (zs.map (mapS (rf cs ls))) ++ [V.str "a"])) hcl nofun
  generalize upd H5 cl (.lst (txs (zs.map (mapS (rf cs ls))) ++ [V.str "a"]))=H6 at k46 t06
  have k06:=k04.trans k46
  refine ⟨_,rfl,_,rfl,_,rfl,_,_,_,rfl,(tg.kp k06).out.1,t06 _ h1,t06 _ h2,t06 _ h3,.inr ⟨t,hd,wd,cs,fs,ps,lg,ls,zs,rfl,rfl,rfl,k46.lst hwd,by omega,tg.kp k06,lhd.kp k46,zok,fun cl2 H7 k7 t7 ncl2 hcl2=>?_⟩⟩
  have k47:=k46.trans k7
  have k07:=k06.trans k7
  have t07:=t06.trans t7
  refine ⟨_,rfl,0,true,by decide,eqt_same (SqL.of hcl2) (SqL.of (k47.lst hdu)) (fun y hy=>.inl (txs_flatM y hy)),_,rfl,iteF ?_⟩
  refine ⟨_,rfl,_,rfl,_,rfl,_,_,_,rfl,(tg.kp k07).out.1,t07 _ h1,t07 _ h2,t07 _ h3,.inr ⟨t,hd,cs,fs,ps,lg,ls,z,rfl,rfl,rfl,tg.kp k07,lhd.kp k47,zc,zl,fun H8 k8 t8=>?_⟩⟩
  have k48:=k47.trans k8
  have k08:=k07.trans k8
  have t08:=t07.trans t8
  refine ⟨_,rfl,_,rfl,0,true,by decide,eqt_same (SqL.of (k48.lst hhd)) (SqL.of (k08.lst hl.h)) (fun y hy=>.inl (txs_flatM y hy)),_,rfl,iteT ?_⟩
  refine ⟨_,rfl,_,rfl,_,rfl,_,rfl,?_⟩
  dsimp only [tNil]
  refine call k08 zc zl fun H9 S9=>?_
  refine ⟨rfl,?_⟩
  have:=q H9 (k08.trans (Kp.same S9)) (t08.same S9)
  show Q (V.bl (decide (V.str (mapS (rf cs ls) z)=V.str (mapS (rf cs ls) z)))) H9
  rw [decide_eq_true rfl]; exact this
end
theorem TRow.alike {K:PySem.W.Frag} {H:Hp} {g:Nat→Nat} {x y z:V} (h:TRow H g x y) (h':TRow H g x z) (pl:∀a s p l,x = .ref a→H a=some (.tup [s,p,l])→(flatV p=true∨∃r,p = .ref r)∧(flatV l=true∨∃r,l = .ref r)) (n:Nat):EqD K H (n + 1) y z true:=by
 obtain ⟨a,c,p,l,b,rfl,h1,rfl,h2⟩:=h
 obtain ⟨a',c',p',l',b',e,h1',rfl,h2'⟩:=h'
 cases e
 obtain ⟨fp,fl⟩:=pl a _ p l rfl h1
 rw [h1] at h1'
 injection h1' with h1'
 injection h1' with h1'
 injection h1' with ec h1'
 injection h1' with ep h1'
 injection h1' with el _
 injection ec with ec
 have ec:=sg1_inj ec
 subst ec ep el
 refine eqt_up (eqt_tup (SqT.of h2) (SqT.of h2') rfl fun j x y hx hy=>?_)
 have same:∀{u:V},(flatV u=true∨∃r,u = .ref r)→EqD K H n u u true:=fun {u} h=>by
  rcases h with f | ⟨r,rfl⟩
  ·exact eqt_flat f n
  ·exact eqt_ref n
 match j,hx,hy with
 | 0,hx,hy=>cases hx; cases hy; exact eqt_flat rfl n
 | 1,hx,hy=>cases hx; cases hy; exact same fp
 | 2,hx,hy=>cases hx; cases hy; exact same fl
 | j + 3,hx,hy=>simp at hx
theorem Trs.alike {K:PySem.W.Frag} {H:Hp} {g:Nat→Nat} {xs ys zs:List V} {cs:List Nat} {a c:Addr} (rows:Rows H xs cs) (h:Trs H g xs ys) (h':Trs H g xs zs) (ha:SqL K H a ys) (hc:SqL K H c zs) (n:Nat):EqD K H (n + 2) (.ref a) (.ref c) true:=by
 refine eqt_up (eqt_lst ha hc (h.len.trans h'.len.symm) fun j y z hy hz=>?_)
 have jl:=(List.getElem?_eq_some_iff.mp hy).1
 have hx:xs[j]? = some (xs[j]'(by rw [← h.len]; exact jl)):=List.getElem?_eq_getElem _
 generalize xs[j]'(by rw [← h.len]; exact jl)=x at hx
 obtain ⟨cc,_,row⟩:=rows.at hx
 refine (h.row j _ y hx hy).alike (h'.row j _ z hx hz) (fun a s p l e ea=>?_) n
 obtain ⟨a',p',l',e',ea',hp,hl⟩:=row.ex
 rw [e] at e'; cases e'
 rw [ea] at ea'; cases ea'
 obtain ⟨r,_,_,e1,_⟩:=hp.ex
 refine ⟨.inr ⟨r,e1⟩,?_⟩
 rcases hl with rfl | hl
 ·exact .inl rfl
 ·obtain ⟨r,_,_,e1,_⟩:=hl.ex
  exact .inr ⟨r,e1⟩
theorem OutT.scal {H:Hp} {x v:V} (h:OutT H x (some v)):scal v v=true:=by
 generalize hr:(some v:Option V)=r at h
 cases h with
 | kind h=>cases hr; rfl
 | signs h n=>cases hr; rfl
 | firsts h g n=>cases hr; rfl
 | pairs h g gf n=>cases hr; rfl
 | longest h g gf gp n=>cases hr; rfl
 | good h g gf gp n=>cases hr
section
variable {P:Program} {w:World} {K:PySem.W.Frag} {mg:Str→Option Value} {base:Heap} {c:List Addr}
def spLaw (T1 T2 T3:Addr) (K:PySem.W.Frag):Sp:=fun vs H Q _=>∃(a:Addr) (ns:List Int),vs=[.ref a]∧SqL K H a (ns.map V.int)∧ns.length≤63∧Tab T1 H∧Tab T2 H∧Tab T3 H∧∀H',Q (.bl true) H'
theorem scLa:FnScope ["_law_script","_law_tongue_here","_law_kept","_law_k","_law_cell_here","_law_letters_here","_law_handed","_law_found","_law_book","_law_odd","_law_thing","_law_part_here"] ["_law_script"] (defScope sLaw):=⟨rfl,rfl,rfl,by decide +kernel,rfl,by decide +kernel,by decide +kernel⟩
theorem ok_law {CT N T1 T2 T3:Addr} {f fC fD fT fY fL fX fE fU fR fG fF fN fP:Addr} {fd fdC fdD fdT fdY fdL fdX fdE fdU fdR fdG fdF fdN fdP:FuncData} (F:FunG K "law" "law" sLaw .none f fd) (B:Bl mg)
  (GC:FnOk P w K mg base (CXE P w) 1 fC fdC ["_law_script","_law_k"] (spCell K)) (mC:mg "_law_cell" = some (.ref fC)) (kC:PySem.W.keepIn K (.ref fC)=true) (bC:Binds K fdC ["_law_script","_law_k"] [])
  (GD:FnOk P w K mg base (CXE P w) 1 fD fdD ["_law_cell_here","_law_k","_law_sizes"] spDraws) (mD:mg "_law_draws" = some (.ref fD)) (kD:PySem.W.keepIn K (.ref fD)=true) (bD:Binds K fdD ["_law_cell_here","_law_k","_law_sizes"] [])
  (GT:FnOk P w K mg base (CXE P w) 3 fT fdT ["_law_script","_law_most","_law_longest"] (spTongueD K)) (mT:mg "_law_tongue" = some (.ref fT)) (kT:PySem.W.keepIn K (.ref fT)=true) (bT:Binds K fdT ["_law_script","_law_most","_law_longest"] [])
  (GY:FnOk P w K mg base (CXE P w) 1 fY fdY ["_law_tongue_here"] (spCopyT K)) (mY:mg "_law_copy" = some (.ref fY)) (kY:PySem.W.keepIn K (.ref fY)=true) (bY:Binds K fdY ["_law_tongue_here"] [])
  (GL:FnOk P w K mg base (CXE P w) 2 fL fdL ["_law_cell_here","_law_k","_law_many"] (spDLetters K)) (mL:mg "_law_drawn_letters" = some (.ref fL)) (kL:PySem.W.keepIn K (.ref fL)=true) (bL:Binds K fdL ["_law_cell_here","_law_k","_law_many"] [])
  (GX:FnOk P w K mg base (CXE P w) 2 fX fdX ["_law_tongue_here","_law_cell_here","_law_k"] spDText) (mX:mg "_law_drawn_text" = some (.ref fX)) (kX:PySem.W.keepIn K (.ref fX)=true) (bX:Binds K fdX ["_law_tongue_here","_law_cell_here","_law_k"] [])
  (GE:FnOk P w K mg base (CXE P w) 9 fE fdE ["tongue","letters"] (spTT CT N T1 T2 T3)) (mE:mg "turned_tongue" = some (.ref fE)) (kE:PySem.W.keepIn K (.ref fE)=true) (bE:Binds K fdE ["tongue","letters"] [])
  (GU:FnOk P w K mg base (CXE P w) 2 fU fdU ["_law_tongue_here","_law_letters_here"] (spLTurned K)) (mU:mg "_law_turned" = some (.ref fU)) (kU:PySem.W.keepIn K (.ref fU)=true) (bU:Binds K fdU ["_law_tongue_here","_law_letters_here"] [])
  (GR:FnOk P w K mg base (CXE P w) 10 fR fdR ["_law_tongue_here","_law_letters_here","_law_book","_law_text"] (spBRight T1 T2 T3 K)) (mR:mg "_law_book_right" = some (.ref fR)) (kR:PySem.W.keepIn K (.ref fR)=true) (bR:Binds K fdR ["_law_tongue_here","_law_letters_here","_law_book","_law_text"] [])
  (GG:FnOk P w K mg base (CXE P w) 2 fG fdG ["_law_letters_here","_law_cell_here","_law_k"] spNoLet) (mG:mg "_law_no_letters" = some (.ref fG)) (kG:PySem.W.keepIn K (.ref fG)=true) (bG:Binds K fdG ["_law_letters_here","_law_cell_here","_law_k"] [])
  (GF:FnOk P w K mg base (CXE P w) 10 fF fdF ["_law_tongue_here","_law_thing","_law_way"] (spRefused T1 T2 T3)) (mF:mg "_law_refused" = some (.ref fF)) (kF:PySem.W.keepIn K (.ref fF)=true) (bF:Binds K fdF ["_law_tongue_here","_law_thing","_law_way"] [])
  (GN:FnOk P w K mg base (CXE P w) 1 fN fdN ["_law_tongue_here"] spNoTgs) (mN:mg "_law_no_tongues" = some (.ref fN)) (kN:PySem.W.keepIn K (.ref fN)=true) (bN:Binds K fdN ["_law_tongue_here"] [])
  (GP:FnOk P w K mg base (CXE P w) 10 fP fdP ["_law_thing","_law_letters_here","_law_text","_law_way"] (spPart T1 T2 T3)) (mP:mg "_law_part" = some (.ref fP)) (kP:PySem.W.keepIn K (.ref fP)=true) (bP:Binds K fdP ["_law_thing","_law_letters_here","_law_text","_law_way"] []):FnOk P w K mg base (CXE P w) 11 f fd ["_law_script"] (spLaw T1 T2 T3 K):=by
 refine F.zokN scLa (fun vs H Q E h=>?_) (fun cdv A outer s H vs Q E hr h=>?_)
 ·obtain ⟨a,ns,rfl,_⟩:=h
  rfl
 ·obtain ⟨a,ns,rfl,ha,n63,hT1,hT2,hT3,q⟩:=h
  refine ⟨_,(zpss_cons (zps_set (i:=1) scLa.nd rfl (Or.inr rfl) (zpe_call GT (hr.mono (by decide)) (by rfl) mT kT bT .nil passE0 (zpac_n (zpv 0) (zpac_c zpe_int (zpac_c zpe_int zpa_nil)))))
   (zpss_cons (zps_set (i:=2) scLa.nd rfl (Or.inl rfl) (zpe_call GY (hr.mono (by decide)) (by rfl) mY kY bY .nil passE0 (zpac_n (zpv 1) zpa_nil)))
   (zpss_cons (zps_for PassesOwn.never rfl (zpi_enum (by rfl) B.enum (zpac_b (zpe_op op_cat (zpe_lst (zpac_c zpe_int zpa_nil)) (zpe_slice sl_list (zpv 0) (zpo_some zpe_int) (zpo_some zpe_int))) zpa_nil)) (zpg_tup rfl (zpgs_cons (zpg_name (i:=3) scLa.nd rfl (Or.inr rfl)) (zpgs_cons (zpg_name (i:=4) scLa.nd rfl (Or.inr rfl)) zpgs_nil)))
     (zpss_cons (zps_set (i:=5) scLa.nd rfl (Or.inl rfl) (zpe_call GL (hr.mono (by decide)) (by rfl) mL kL bL .nil passE0 (zpac_n (zpv 4) (zpac_b (zpe_op op_add zpe_int (zpv 3)) (zpac_f (zpe_callB call_len_seq (by rfl) B.len PySem.boot_len (zpac_s (zpe_ix ix_tup (zpv 1) zpe_int (fun _ _=>rfl)) zpa_nil)) zpa_nil)))))
   (zpss_cons (zps_cut (zps_if (zpt_cmpR op_eq (zpe_op op_mod (zpv 3) zpe_int) zpe_int (nomark _)) (zpss_one (zps_compL (i:=5) ["_law_script","_law_tongue_here","_law_kept","_law_k","_law_cell_here","_law_letters_here","_law_handed","_law_found","_law_book","_law_odd","_law_thing","_law_part_here"] ["_law_one"] [] (defScope sLaw) rfl rfl rfl ⟨by decide +kernel,by decide +kernel,by decide +kernel,by decide +kernel,by decide +kernel⟩ scLa.nd rfl (Or.inl rfl) (zpi_list (zpe_ix ix_tup (zpv 1) zpe_int (fun _ _=>rfl))) (fun s H fp=>(zpg_name (i:=0) (show List.Nodup [("_law_one" : Str)] by decide +kernel) rfl (Or.inl rfl))) (fun s H fp=>zpts_nil) (fun s H fp=>(zpe_ix (ix_tupK K rfl) (zpv 0) zpe_int (fun _ _=>rfl))))) zpss_nil))
   (zpss_cons (zps_set (i:=6) scLa.nd rfl (Or.inl rfl) (zpe_callTy call_list_of (by rfl) B.list boot_list (zpac_n (zpv 5) zpa_nil)))
   (zpss_cons (zps_set (i:=7) scLa.nd rfl (Or.inl rfl) (zpe_call GE (hr.mono (by decide)) (by rfl) mE kE bE .nil passE0 (zpac_n (zpv 1) (zpac_n (zpv 6) zpa_nil))))
   (zpss_cons (zps_if (SPW.pt (zpw_or (zpt_not (zpt_val (zpe_callB call_isi (by rfl) B.isi boot_isi (zpac_n (zpv 7) (zpac_n (zpe_bltn (by rfl) B.tuple boot_tuple (v:=.ty "tuple") rfl) zpa_nil))))) (zpw_or1 (zpt_cmpR (op_neD hr.units60) (zpv 7) (zpe_call GU (hr.mono (by decide)) (by rfl) mU kU bU .nil passE0 (zpac_n (zpv 1) (zpac_n (zpv 5) zpa_nil))) (nomark _))))) (zpss_one (zps_ret zpe_bl)) zpss_nil)
   (zpss_cons (zps_expr (zpe_bm0 PySem.F.plainAttrs_list PySem.F.slot_list_clear PySem.F.type_list_clear mt_clear (zpe_ix ix_tup (zpv 7) zpe_int (fun _ _=>rfl))))
   (zpss_cons (zps_expr (zpe_bm PySem.F.plainAttrs_list PySem.F.slot_list_append PySem.F.type_list_append mt_append (zpe_ix ix_tup (zpv 7) zpe_int (fun _ _=>rfl)) (zpac_c zpe_str zpa_nil)))
   (zpss_cons (zps_expr (zpe_bm PySem.F.plainAttrs_list PySem.F.slot_list_append PySem.F.type_list_append mt_append (zpe_ix ix_tup (zpv 7) zpe_int (fun _ _=>rfl)) (zpac_c zpe_str zpa_nil)))
   (zpss_cons (zps_if (zpt_cmpR (op_neD hr.units60) (zpe_call GE (hr.mono (by decide)) (by rfl) mE kE bE .nil passE0 (zpac_n (zpv 1) (zpac_n (zpv 6) zpa_nil))) (zpe_call GU (hr.mono (by decide)) (by rfl) mU kU bU .nil passE0 (zpac_n (zpv 1) (zpac_n (zpv 5) zpa_nil))) (nomark _)) (zpss_one (zps_ret zpe_bl)) zpss_nil)
   (zpss_cons (zps_compL (i:=8) ["_law_script","_law_tongue_here","_law_kept","_law_k","_law_cell_here","_law_letters_here","_law_handed","_law_found","_law_book","_law_odd","_law_thing","_law_part_here"] ["_law_j"] [1,3,4] (defScope sLaw) rfl rfl rfl ⟨by decide +kernel,by decide +kernel,by decide +kernel,by decide +kernel,by decide +kernel⟩ scLa.nd rfl (Or.inl rfl) (zpi_range1 (by rfl) B.range (zpac_b (zpe_op op_mod (zpv 3) zpe_int) zpa_nil)) (fun s H fp=>(zpg_name (i:=0) (show List.Nodup [("_law_j" : Str),"_law_tongue_here","_law_k","_law_cell_here"] by decide +kernel) rfl (Or.inl rfl))) (fun s H fp=>zpts_nil) (fun s H fp=>(zpe_call GX (hr.mono (by decide)) (by rfl) mX kX bX .nil passE0 (zpac_n (zpv 1) (zpac_n (zpv 3) (zpac_b (zpe_op op_add (zpe_op op_add zpe_int (zpv 2)) (zpv 0)) zpa_nil))))))
   (zpss_cons (zps_if (zpt_not (zpt_val (zpe_call GR hr (by rfl) mR kR bR .nil passE0 (zpac_n (zpv 1) (zpac_n (zpv 5) (zpac_n (zpv 8) (zpac_f (zpe_call GX (hr.mono (by decide)) (by rfl) mX kX bX .nil passE0 (zpac_n (zpv 1) (zpac_n (zpv 4) (zpac_b (zpe_op op_add zpe_int (zpv 3)) zpa_nil)))) zpa_nil))))))) (zpss_one (zps_ret zpe_bl)) zpss_nil)
   (zpss_cons (zps_if (SPW.pt (zpw_or (zpt_cmpR (op_neD hr.units60) (zpv 1) (zpv 2) (nomark _)) (zpw_or1 (zpt_cmpR (op_neD hr.units60) (zpv 6) (zpv 5) (nomark _))))) (zpss_one (zps_ret zpe_bl)) zpss_nil)
   (zpss_cons (zps_set (i:=9) scLa.nd rfl (Or.inl rfl) (zpe_call GG (hr.mono (by decide)) (by rfl) mG kG bG .nil passE0 (zpac_n (zpv 5) (zpac_n (zpv 4) (zpac_b (zpe_op op_add zpe_int (zpv 3)) zpa_nil)))))
   (zpss_cons (zps_if (zpt_not (zpt_val (zpe_call GF hr (by rfl) mF kF bF .nil passE0 (zpac_n (zpv 1) (zpac_n (zpv 9) (zpac_b (zpe_op op_mod (zpv 3) zpe_int) zpa_nil)))))) (zpss_one (zps_ret zpe_bl)) zpss_nil)
   (zpss_cons (zps_asg (zpe_ix ix_list (zpe_call GN (hr.mono (by decide)) (by rfl) mN kN bN .nil passE0 (zpac_n (zpv 1) zpa_nil)) (zpe_ix ix_list (zpe_call GD (hr.mono (by decide)) (by rfl) mD kD bD .nil passE0 (zpac_n (zpv 4) (zpac_b (zpe_op op_add zpe_int (zpv 3)) (zpac_l (zpe_lst (zpac_c zpe_int zpa_nil)) zpa_nil)))) zpe_int (fun _ _=>rfl)) (fun _ _=>rfl)) (zpg_tup rfl (zpgs_cons (zpg_name (i:=10) scLa.nd rfl (Or.inl rfl)) (zpgs_cons (zpg_name (i:=11) scLa.nd rfl (Or.inl rfl)) zpgs_nil))))
   (zpss_one (zps_if (zpt_cmpR op_ne (zpe_call GP hr (by rfl) mP kP bP .nil passE0 (zpac_n (zpv 10) (zpac_s (zpe_ix ix_list (zpe_lst (zpac_n (zpv 5) (zpac_n (zpv 9) zpa_nil))) (zpe_op op_mod (zpe_op op_fdiv (zpv 3) zpe_int) zpe_int) (fun _ _=>rfl)) (zpac_s (zpe_ix ix_tup (zpe_ix ix_list (zpe_ix ix_tup (zpv 1) zpe_int (fun _ _=>rfl)) zpe_int (fun _ _=>rfl)) zpe_int (fun _ _=>rfl)) (zpac_b (zpe_op op_mod (zpv 3) zpe_int) zpa_nil))))) (zpv 11) (nomark _)) (zpss_one (zps_ret zpe_bl)) zpss_nil))))))))))))))))))
   (zpss_one (zps_ret zpe_bl))))),?_⟩
  have sz:∀{m:Nat},m≤100→m≤sizeLine:=fun h=>Nat.le_trans h (by decide)
  have s1:1≤sizeLine:=sz (show 1≤100 by decide)
  refine ⟨_,rfl,a,ns,6,8,rfl,ha,by decide,by decide,by decide,by decide,fun t cs fs ps lg H1 S1 tg=>?_⟩
  obtain ⟨S,F0,G0,xs,g1,g2,g3,g4,g5⟩:=tg.ex
  have c2:=tg.c2
  have c6:=tg.c6
  have xl:xs.length=cs.length:=g3.len
  refine ⟨_,rfl,t,S,F0,G0,.int lg,xs,txs fs,txs ps,rfl,g1,g2,g4,g5,fun u S' F' P' H2 _ _ _ _ eu eS' eF' eP' S2=>?_⟩
  have S02:=S1.trans S2
  refine ⟨s1,?_⟩
  (intro z0 gz0; generalize hEq:upd _ z0 _=H7; refine newC hEq gz0 ?_; clear hEq; intro S7 ez0 oz0)
  have S07:=S02.trans S7
  refine ⟨_,rfl,_,rfl,_,rfl,a,_,rfl,sqL_same ha S07,?_⟩
  (intro sl gsl; generalize hEq:upd _ sl _=H8; refine newC hEq gsl ?_; clear hEq; intro S8 esl osl)
  have lsl:=cutV_length (ns.map V.int) (some 8) (some 38)
  rw [List.length_map] at lsl
  refine ⟨z0,sl,_,_,rfl,rfl,S8 _ _ ez0,esl,sz (show 1 + _≤100 by omega),?_⟩
  (intro Z gZ; generalize hEq:upd _ Z _=HL; refine newC hEq gZ ?_; clear hEq; intro S9 eZ oZ)
  obtain ⟨ms,hms,lms⟩:∃ms:List Int,[V.int 0] ++ cutV (ns.map V.int) (some 8) (some 38)=ms.map V.int∧ms.length≤64:=by
   refine ⟨0 :: ((ns.drop (HT.sIx (ns.map V.int).length 0 (some 8))).take (HT.sIx (ns.map V.int).length (ns.map V.int).length (some 38) - HT.sIx (ns.map V.int).length 0 (some 8))),?_,?_⟩
   ·unfold cutV
    rw [List.map_cons,List.map_take,List.map_drop]; rfl
   ·rw [List.length_cons,List.length_take,List.length_drop]; omega
  rw [hms] at eZ
  have S29:=(S7.trans S8).trans S9
  have S0L:=S02.trans S29
  have tgL:=tg.kp (Kp.same (S2.trans S29))
  have g3L:=g3.kp (Kp.same (S2.trans S29))
  have tL1:Tab T1 HL:=hT1.same S0L
  have tL2:Tab T2 HL:=hT2.same S0L
  have tL3:Tab T3 HL:=hT3.same S0L
  have hu:=S29 _ _ eu
  have hS':=S29 _ _ eS'
  have hF':=S29 _ _ eF'
  have hP':=S29 _ _ eP'
  have g1L:=(S2.trans S29) _ _ g1
  have g2L:=(S2.trans S29) _ _ g2
  have g4L:=(S2.trans S29) _ _ g4
  have g5L:=(S2.trans S29) _ _ g5
  have xr:∀y∈xs,flatV y=true∨∃r,y=V.ref r:=fun y hy=>by
   obtain ⟨i,hi⟩:=List.getElem?_of_mem hy
   obtain ⟨c',_,row⟩:=g3.at hi
   obtain ⟨a',_,_,e,_⟩:=row.ex
   exact .inr ⟨a',e⟩
  have keq:∀{H':Hp},Kp HL H'→TopR K H' (EqD K H' 1) (.ref t) (.ref u) true:=fun {H'} k=>by
   refine eqt_tup (SqT.of (k.tup g1L)) (SqT.of (k.tup hu)) rfl fun j x y hx hy=>?_
   match j,hx,hy with
   | 0,hx,hy=>cases hx; cases hy; exact eqt_up (eqt_same (SqL.of (k.lst g2L)) (SqL.of (k.lst hS')) xr)
   | 1,hx,hy=>cases hx; cases hy; exact eqt_up (eqt_same (SqL.of (k.lst g4L)) (SqL.of (k.lst hF')) fun y hy=>.inl (txs_flatM y hy))
   | 2,hx,hy=>cases hx; cases hy; exact eqt_up (eqt_same (SqL.of (k.lst g5L)) (SqL.of (k.lst hP')) fun y hy=>.inl (txs_flatM y hy))
   | 3,hx,hy=>cases hx; cases hy; exact eqt_flat rfl 1
   | j + 4,hx,hy=>simp at hx
  have coc:∀c∈cs,occ c=true:=fun c hc=>by
   obtain ⟨i,hi⟩:=List.getElem?_of_mem hc
   have ex:xs[i]? = some (xs[i]'(by have:=(List.getElem?_eq_some_iff.mp hi).1; omega)):=List.getElem?_eq_getElem _
   exact (g3.row i _ c ex hi).oc
  refine ⟨Z,rfl,⟨_,SqL.of eZ⟩,?_⟩
  refine for_enum (K:=K) (a:=Z) (xs:=ms.map V.int) (fun i σ H'=>(∃v3 v4 v5 v6 v7 v8 v9 v10 v11,σ=[some (.ref a),some (.ref t),some (.ref u),v3,v4,v5,v6,v7,v8,v9,v10,v11])∧Kp HL H'∧TbK HL H')
   ⟨⟨_,_,_,_,_,_,_,_,_,rfl⟩,Kp.refl,TbK.refl⟩ (fun i σ H' _ p=>SqL.of (p.2.1.lst eZ)) ?_ ?_
  ·rintro i x tt σ H' hi ⟨⟨v3,v4,v5,v6,v7,v8,v9,v10,v11,rfl⟩,kp,tb⟩ gt
   rw [List.getElem?_map] at hi
   obtain ⟨ce,hce,rfl⟩:=Option.map_eq_some_iff.mp hi
   have il:=(List.getElem?_eq_some_iff.mp hce).1
   have kp1:Kp HL (upd H' tt (.tup [.int i,.int ce])):=kp.trans (Kp.new gt)
   have tb1:TbK HL (upd H' tt (.tup [.int i,.int ce])):=tb.new gt
   have et:upd H' tt (.tup [.int i,.int ce]) tt=some (.tup [.int i,.int ce]):=upd_same
   generalize upd H' tt (.tup [.int i,.int ce])=HA at kp1 tb1 et
   refine ⟨tt,_,rfl,SqT.of et,rfl,_,_,rfl,_,_,rfl,rfl,?_⟩
   refine ⟨_,rfl,_,rfl,_,_,rfl,rfl,_,rfl,t,_,_,_,rfl,rfl,SqT.of (kp1.tup g1L),rfl,S,_,rfl,.inl (SqL.of (kp1.lst g2L)),?_⟩
   refine ⟨ce,20 + (i:Int),xs.length,rfl,by omega,by omega,by omega,fun L0 ls0 HB SB hL0 ll0 nd0 oc0=>?_⟩
   refine ⟨fun σ H2=>∃L ls,σ=[some (.ref a),some (.ref t),some (.ref u),some (.int i),some (.int ce),some (.ref L),v6,v7,v8,v9,v10,v11]∧Same HA H2∧Lts H2 L cs ls,?_,?_⟩
   ·refine ⟨_,rfl,_,_,rfl,rfl,(by show (0:Int) < 8; decide),rfl,_,rfl,?_⟩
    refine ite2 (fun _=>?_) (fun _=>⟨L0,ls0,rfl,SB,hL0,by omega,nd0,oc0⟩)
    have g2B:=SB _ _ (kp1.lst g2L)
    refine ⟨_,rfl,t,_,_,_,rfl,rfl,SqT.of (SB _ _ (kp1.tup g1L)),rfl,S,rfl,⟨_,SqL.of g2B⟩,?_⟩
    (intro l gl; generalize hEq:upd _ l _=HC; refine newC hEq gl ?_; clear hEq; intro SC el ol)
    refine lr_list (K:=K) (S:=S) (xs:=xs) (fun i σ H2=>(∃v,σ=[v])∧H2 l=some (.lst (txs (sgs (cs.take i))))∧Same HB H2) ⟨⟨_,rfl⟩,el,SC⟩ (fun i σ H2 p=>SqL.of (p.2.2 _ _ g2B)) ?_ ?_
    ·rintro i x σ H2 C hi ⟨⟨v,rfl⟩,hl2,s2⟩ nx
     obtain ⟨cc,hc,row⟩:=((g3L.kp kp1).kp (Kp.same SB)).at hi
     obtain ⟨a,p,la,rfl,ha,_⟩:=row.ex
     refine ⟨_,rfl,a,_,_,_,rfl,rfl,SqT.of (s2 _ _ ha),rfl,_,hl2,?_,nx _ _ ⟨⟨_,rfl⟩,?_,fun b o hb=>?_⟩⟩
     ·unfold txs sgs
      rw [List.length_map,List.length_map,List.length_take]
      exact Nat.lt_of_le_of_lt (show min i cs.length≤6 by omega) (by decide)
     ·have:txs (sgs (cs.take i)) ++ [V.str (sg1 cc)]=txs (sgs (cs.take (i + 1))):=by
       unfold txs sgs
       rw [List.take_add_one,hc,List.map_append,List.map_append]; rfl
      rw [← this]; exact upd_same
     ·rw [upd_ne (ne_of_none hb gl)]; exact s2 b o hb
    ·rintro σ0 H3 ⟨_,hl3,S3⟩
     rw [List.take_of_length_le (by rw [xl]; exact Nat.le_refl _)] at hl3
     exact ⟨l,cs,rfl,SB.trans S3,hl3,rfl,tg.nd,coc⟩
   rintro σ HB ⟨L,ls,rfl,SB,hl⟩
   have kpB:=kp1.trans (Kp.same SB)
   have tbB:=tb1.same SB
   refine ⟨_,rfl,L,_,rfl,.inl (SqL.of hl.h),?_⟩
   (intro hd ghd; generalize hEq:upd _ hd _=HD; refine newC hEq ghd ?_; clear hEq; intro SD ehd ohd)
   have kpD:=kpB.trans (Kp.same SD)
   have tbD:=tbB.same SD
   have hlD:=hl.kp (Kp.same SD)
   have lhD:Lts HD hd cs ls:=⟨ehd,hl.len,hl.nd,hl.oc⟩
   have tgD:=tgL.kp kpD
   have dcmp:∀{H':Hp} {ua ub Sa Sb Fa Ga Fb Gb:Addr} {ya yb:List V},Kp HL H'→H' ua=some (.tup [.ref Sa,.ref Fa,.ref Ga,.int lg])→H' ub=some (.tup [.ref Sb,.ref Fb,.ref Gb,.int lg])→H' Sa=some (.lst ya)→H' Sb=some (.lst yb)→Trs H' (rf cs ls) xs ya→Trs H' (rf cs ls) xs yb→
     H' Fa=some (.lst (txs (fs.map (mapS (rf cs ls)))))→H' Ga=some (.lst (txs (ps.map (mapS (rf cs ls)))))→H' Fb=some (.lst (txs (fs.map (mapS (rf cs ls)))))→H' Gb=some (.lst (txs (ps.map (mapS (rf cs ls)))))→TopR K H' (EqD K H' 2) (.ref ua) (.ref ub) true:=fun {H' ua ub Sa Sb Fa Ga Fb Gb ya yb} k e1 e2 e3 e4 d1 d2 e5 e6 e7 e8=>by
    refine eqt_tup (SqT.of e1) (SqT.of e2) rfl fun j x y hx hy=>?_
    match j,hx,hy with
    | 0,hx,hy=>cases hx; cases hy; exact d1.alike (g3L.kp k) d2 (SqL.of e3) (SqL.of e4) 0
    | 1,hx,hy=>cases hx; cases hy; exact eqt_up (eqt_same (SqL.of e5) (SqL.of e7) fun y hy=>.inl (txs_flatM y hy))
    | 2,hx,hy=>cases hx; cases hy; exact eqt_up (eqt_same (SqL.of e6) (SqL.of e8) fun y hy=>.inl (txs_flatM y hy))
    | 3,hx,hy=>cases hx; cases hy; exact eqt_flat rfl 2
    | j + 4,hx,hy=>simp at hx
   refine ⟨_,rfl,_,rfl,_,_,rfl,tgD.out.1,tbD _ tL1,tbD _ tL2,tbD _ tL3,.inr ⟨t,hd,cs,fs,ps,lg,ls,rfl,rfl,tgD,lhD,fun u1 Sx Fx Gx S0 xs' ys HE kE tE nS nF nG SF SG FG hu1 ⟨f0,p0,ht0⟩ hS0 hSx ds1 hFx hGx=>?_⟩⟩
   rw [kpD.tup g1L] at ht0; cases ht0
   rw [kpD.lst g2L] at hS0; cases hS0
   have kpE:=kpD.trans kE
   have tbE:=tbD.trans tE
   refine ⟨_,rfl,_,_,_,true,rfl,.of (.tup hu1),.inl ⟨_,rfl,kt1⟩,_,rfl,iteF ?_⟩
   refine ⟨_,rfl,_,rfl,_,rfl,t,L,cs,fs,ps,lg,ls,rfl,tgL.kp kpE,hlD.kp kE,fun u2 S2' F2 G2 S02' xs2 ys2 HF sF hu2 ⟨f02,p02,ht2⟩ hS02 hS2 ds2 hF2 hG2=>?_⟩
   rw [kpE.tup g1L] at ht2; cases ht2
   rw [kpE.lst g2L] at hS02; cases hS02
   have kpF:=kpE.trans (Kp.same sF)
   have tbF:=tbE.same sF
   refine ⟨2,true,by decide,dcmp kpF (sF _ _ hu1) hu2 (sF _ _ hSx) hS2 (ds1.kp (Kp.same sF)) ds2 (sF _ _ hFx) (sF _ _ hGx) hF2 hG2,_,rfl,iteF ?_⟩
   have kDF:=kE.trans (Kp.same sF)
   have apart:∀{H':Hp} {l:Addr} {o:HO},NewL HD l→Kp HL H'→(∀b p,HD b=some p→(∀ps,p≠.tbl ps)→H' b=some p)→Kp HL (upd H' l o)∧∀b p,HD b=some p→(∀ps,p≠.tbl ps)→upd H' l o b=some p:=fun {H' l o} nl k1 k2=>by
    have ne:∀b p,HD b=some p→(∀ps,p≠.tbl ps)→b≠l:=fun b p e nt z=>by
     obtain ⟨ps,e2⟩:=nl p (z ▸ e)
     exact nt ps e2
    exact ⟨fun b p e nt=>by rw [upd_ne (ne b p (kpD b p e nt) nt)]; exact k1 b p e nt,fun b p e nt=>by rw [upd_ne (ne b p e nt)]; exact k2 b p e nt⟩
   obtain ⟨kG1,kG2⟩:=apart (o:=.lst []) nS kpF (fun b p e nt=>kDF b p e nt)
   have hSF:=sF _ _ hSx
   have hFF:=sF _ _ hFx
   have hGF:=sF _ _ hGx
   generalize hfs:txs (fs.map (mapS (rf cs ls)))=fxs at hFF
   generalize hps:txs (ps.map (mapS (rf cs ls)))=pxs at hGF
   have fl:fxs.length≤6:=by rw [← hfs,txs_len,List.length_map]; exact tg.flen
   have pl:pxs.length≤36:=by rw [← hps,txs_len,List.length_map]; exact tg.plen
   have tG:=tbF.set (o:=.lst []) hSF nofun
   have hu1G:upd HF Sx (.lst []) u1=some (.tup [.ref Sx,.ref Fx,.ref Gx,.int lg]):=by
    rw [upd_ne (fun z=>by have:=sF _ _ hu1; rw [z,hSF] at this; cases this)]; exact sF _ _ hu1
   have hFG:upd HF Sx (.lst []) Fx=some (.lst fxs):=by rw [upd_ne SF.symm]; exact hFF
   have hGG:upd HF Sx (.lst []) Gx=some (.lst pxs):=by rw [upd_ne SG.symm]; exact hGF
   refine ⟨_,rfl,u1,_,_,_,rfl,rfl,SqT.of (sF _ _ hu1),rfl,.inl ⟨rfl,_,SqL.of hSF⟩,Sx,ys,rfl,rfl,hSF,?_⟩
   generalize upd HF Sx (.lst [])=HG at kG1 kG2 tG hu1G hFG hGG
   refine ⟨_,rfl,u1,_,_,_,rfl,rfl,SqT.of hu1G,rfl,.inl ⟨rfl,_,SqL.of hFG⟩,Fx,_,_,rfl,rfl,hFG,Nat.lt_of_lt_of_le (show fxs.length < 100 by omega) (sz (Nat.le_refl _)),?_⟩
   obtain ⟨kH1,kH2⟩:=apart (o:=.lst (fxs ++ [V.str "a"])) nF kG1 kG2
   have tH:=tG.set (o:=.lst (fxs ++ [V.str "a"])) hFG nofun
   have hu1H:upd HG Fx (.lst (fxs ++ [V.str "a"])) u1=some (.tup [.ref Sx,.ref Fx,.ref Gx,.int lg]):=by
    rw [upd_ne (fun z=>by rw [z,hFG] at hu1G; cases hu1G)]; exact hu1G
   have hGH:upd HG Fx (.lst (fxs ++ [V.str "a"])) Gx=some (.lst pxs):=by rw [upd_ne FG.symm]; exact hGG
   generalize upd HG Fx (.lst (fxs ++ [V.str "a"]))=HH at kH1 kH2 tH hu1H hGH
   refine ⟨_,rfl,u1,_,_,_,rfl,rfl,SqT.of hu1H,rfl,.inl ⟨rfl,_,SqL.of hGH⟩,Gx,_,_,rfl,rfl,hGH,Nat.lt_of_lt_of_le (show pxs.length < 100 by omega) (sz (Nat.le_refl _)),?_⟩
   obtain ⟨kI1,kI2⟩:=apart (o:=.lst (pxs ++ [V.str "aa"])) nG kH1 kH2
   have tI:=tH.set (o:=.lst (pxs ++ [V.str "aa"])) hGH nofun
   generalize upd HH Gx (.lst (pxs ++ [V.str "aa"]))=HI at kI1 kI2 tI
   have kDI:Kp HD HI:=fun b p e nt=>kI2 b p e nt
   clear kG1 kG2 kH1 kH2 hu1G hFG hGG hu1H hGH tG tH ds1 ds2 hu2 hS2 hF2 hG2 hSF hFF hGF
   have tgI:=tgL.kp kI1
   refine ⟨_,rfl,_,rfl,_,_,rfl,tgI.out.1,tI _ tL1,tI _ tL2,tI _ tL3,.inr ⟨t,hd,cs,fs,ps,lg,ls,rfl,rfl,tgI,lhD.kp kDI,fun v1 Sy Fy Gy S0 xs' ys' HJ kJ tJ _ _ _ _ _ _ hv1 ⟨f0,p0,ht0⟩ hS0 hSy dsy hFy hGy=>?_⟩⟩
   rw [kI1.tup g1L] at ht0; cases ht0
   rw [kI1.lst g2L] at hS0; cases hS0
   have kpJ:=kI1.trans kJ
   have tbJ:=tI.trans tJ
   have kDJ:=kDI.trans kJ
   refine ⟨_,rfl,_,rfl,t,L,cs,fs,ps,lg,ls,rfl,tgL.kp kpJ,hlD.kp kDJ,fun v2 Sz Fz Gz S02' xs2' ys2' HK sK hv2 ⟨f02,p02,ht2⟩ hS02' hSz dsz hFz hGz=>?_⟩
   rw [kpJ.tup g1L] at ht2; cases ht2
   rw [kpJ.lst g2L] at hS02'; cases hS02'
   have kpK:=kpJ.trans (Kp.same sK)
   have tbK:=tbJ.same sK
   have kDK:=kDJ.trans (Kp.same sK)
   refine ⟨2,true,by decide,dcmp kpK (sK _ _ hv1) hv2 (sK _ _ hSy) hSz (dsy.kp (Kp.same sK)) dsz (sK _ _ hFy) (sK _ _ hGy) hFz hGz,_,rfl,iteF ?_⟩
   clear dcmp hv1 hv2 hSy hSz dsy dsz hFy hGy hFz hGz apart hfs hps
   refine ⟨_,rfl,_,_,rfl,rfl,(by show (0:Int) < 5; decide),_,rfl,by omega,by omega,?_⟩
   (intro bk gbk; generalize hEq:upd _ bk _=HM; refine newC hEq gbk ?_; clear hEq; intro SM ebk obk)
   have kpM:=kpK.trans (Kp.same SM)
   refine lr_range (lo:=0) (n:=((i:Int) % 5).toNat) (fun j σ H'=>(∃v,σ=[v,some (.ref t),some (.int i),some (.int ce)])∧Same HK H'∧∃zs:List Str,H' bk=some (.lst (txs zs))∧zs.length=j∧∀z∈zs,(∀c∈z.cps.toList,c∈cs)∧z.length≤100) ⟨⟨_,rfl⟩,SM,[],ebk,rfl,nofun⟩ ?_ ?_
   ·rintro j σ H' C hj ⟨⟨v,rfl⟩,k2,zs,hb,zl,zok⟩ nx
    refine ⟨_,rfl,_,rfl,_,rfl,_,_,rfl,rfl,_,rfl,_,_,rfl,rfl,?_⟩
    refine ⟨t,ce,40 + (i:Int) + (0 + (j:Int)),cs,fs,ps,lg,rfl,tgL.kp (kpK.trans (Kp.same k2)),by omega,by omega,fun z H'' s'' zc zl2=>?_⟩
    refine ⟨_,s'' _ _ hb,?_,nx _ _ ⟨⟨_,rfl⟩,fun b o e=>?_,zs ++ [z],?_,by rw [List.length_append,zl]; rfl,fun y hy=>?_⟩⟩
    ·rw [txs_len]; exact Nat.lt_of_lt_of_le (show zs.length < 100 by omega) (sz (Nat.le_refl _))
    ·rw [upd_ne (ne_of_none e gbk)]; exact s'' _ _ (k2 _ _ e)
    ·rw [txs_app]; exact upd_same
    ·rcases List.mem_append.mp hy with h | h
     ·exact zok y h
     ·rw [List.mem_singleton.mp h]; exact ⟨zc,by omega⟩
   rintro σ0 HN ⟨_,SN,zs,hbk,zl,zok⟩
   have kpN:=kpK.trans (Kp.same SN)
   have tbN:=tbK.same SN
   have kDN:=kDK.trans (Kp.same SN)
   refine ⟨_,rfl,_,rfl,_,rfl,_,rfl,_,rfl,_,rfl,_,_,rfl,rfl,?_⟩
   refine ⟨t,ce,60 + (i:Int),cs,fs,ps,lg,rfl,tgL.kp kpN,by omega,by omega,fun z HO_ SO zc zl2=>?_⟩
   have kpO:=kpN.trans (Kp.same SO)
   have tbO:=tbN.same SO
   have kDO:=kDN.trans (Kp.same SO)
   refine ⟨t,L,bk,cs,fs,ps,lg,ls,zs,z,rfl,tgL.kp kpO,hlD.kp kDO,SO _ _ hbk,by omega,zok,zc,by omega,tbO _ tL1,tbO _ tL2,tbO _ tL3,fun HP kP tP=>⟨true,rfl,iteF ?_⟩⟩
   have kpP:=kpO.trans kP
   have tbP:=tbO.trans tP
   have kDP:=kDO.trans kP
   refine ⟨_,rfl,_,rfl,1,true,by decide,keq kpP,_,rfl,iteF ?_⟩
   refine ⟨_,rfl,_,rfl,0,true,by decide,eqt_same (SqL.of (kDP.lst ehd)) (SqL.of (kDP.lst hlD.h)) (fun y hy=>.inl (txs_flatM y hy)),_,rfl,iteF ?_⟩
   have ll:=hl.len
   refine ⟨_,rfl,_,rfl,_,rfl,_,_,rfl,rfl,L,ce,80 + (i:Int),ls,rfl,kDP.lst hlD.h,by omega,by omega,by omega,by omega,fun od HQ SQ nl=>?_⟩
   have kpQ:=kpP.trans (Kp.same SQ)
   have tbQ:=tbP.same SQ
   have kDQ:=kDP.trans (Kp.same SQ)
   refine ⟨_,rfl,_,rfl,_,rfl,_,_,rfl,rfl,(by show (0:Int) < 3; decide),t,od,(i:Int) % 3,cs,fs,ps,lg,rfl,tgL.kp kpQ,ll ▸ nl,tbQ _ tL1,tbQ _ tL2,tbQ _ tL3,fun HR kR tR=>⟨true,rfl,iteF ?_⟩⟩
   have kpR:=kpQ.trans kR
   have tbR:=tbQ.trans tR
   have kDR:=kDQ.trans kR
   refine ⟨_,rfl,t,cs,fs,ps,lg,rfl,tgL.kp kpR,fun M its HS SS hM il10 itv=>?_⟩
   refine ⟨_,rfl,_,rfl,_,_,rfl,rfl,s1,?_⟩
   (intro l9 gl9; generalize hEq:upd _ l9 _=HT_; refine newC hEq gl9 ?_; clear hEq; intro ST el9 ol9)
   refine ⟨ce,90 + (i:Int),l9,[10],rfl,by omega,by omega,el9,by decide,(fun s hs=>(by rw [List.mem_singleton.mp hs]; exact ⟨by decide,by decide +kernel⟩)),fun R2 ds2 HU SU gR2 eR2 bl2=>?_⟩
   obtain ⟨d2,hd2,d20,d21⟩:=bl2.at (i:=0) (s:=10) rfl
   obtain ⟨d2,rfl⟩:=Int.eq_ofNat_of_zero_le d20
   have SSU:=ST.trans SU
   have ey:its[d2]? = some (its[d2]'(by omega)):=List.getElem?_eq_getElem _
   obtain ⟨ty,xy,vy,eyy,hty,txy,oxy⟩:=(itv _ (List.mem_of_getElem? ey)).same SSU
   rw [eyy] at ey
   refine ⟨R2,_,_,_,rfl,rfl,SqL.of eR2,atInts hd2 rfl,M,_,_,_,rfl,rfl,SqL.of (SSU _ _ hM),atI_nat ey,ty,_,rfl,SqT.of hty,rfl,_,_,rfl,_,_,rfl,rfl,?_⟩
   have kpU:=kpR.trans (Kp.same (SS.trans SSU))
   have tbU:=tbR.same (SS.trans SSU)
   refine ⟨_,rfl,_,rfl,_,rfl,sz (show 2≤100 by decide),?_⟩
   (intro lz glz; generalize hEq:upd _ lz _=HV; refine newC hEq glz ?_; clear hEq; intro SV elz olz)
   have kpV:=kpU.trans (Kp.same SV)
   have tbV:=tbU.same SV
   obtain ⟨oo,eoo⟩:∃oo:V,atI [V.ref L,od] ((i:Int) / 3 % 2)=some oo:=by
    rcases (show (i:Int) / 3 % 2=0∨(i:Int) / 3 % 2=1 by omega) with e | e <;> rw [e] <;> exact ⟨_,rfl⟩
   have e0:xs[0]? = some (xs[0]'(by omega)):=List.getElem?_eq_getElem _
   generalize xs[0]'(by omega)=x0 at e0
   obtain ⟨cc,hc,row0⟩:=(g3L.kp kpV).at e0
   obtain ⟨a0,p0,l0,rfl,ha0,_⟩:=row0.ex
   refine ⟨_,rfl,_,_,rfl,rfl,⟨by decide,by decide⟩,_,_,rfl,rfl,(by show (0:Int) < 2; decide),lz,_,_,_,rfl,rfl,SqL.of elz,eoo,?_⟩
   refine ⟨_,rfl,t,_,_,_,rfl,rfl,SqT.of (kpV.tup g1L),rfl,S,_,_,_,rfl,rfl,SqL.of (kpV.lst g2L),(show atI xs 0=some (V.ref a0) from atI_nat (j:=0) e0),a0,_,_,_,rfl,rfl,SqT.of ha0,rfl,_,rfl,_,_,rfl,rfl,(by show (0:Int) < 3; decide),?_⟩
   refine ⟨xy,oo,.str (sg1 cc),vy,(i:Int) % 3,rfl,txy.kp (Kp.same SV),outT_kp (Kp.same SV) txy oxy,tbV _ tL1,tbV _ tL2,tbV _ tL3,fun HW kW tW=>?_⟩
   refine ⟨_,rfl,oxy.scal,_,rfl,?_⟩
   rw [show (!decide (vy=vy))=false by simp]
   refine iteF ?_
   exact ⟨⟨_,_,_,_,_,_,_,_,_,rfl⟩,kpV.trans kW,tbV.trans tW⟩
  ·rintro σ H' ⟨⟨v3,v4,v5,v6,v7,v8,v9,v10,v11,rfl⟩,kp,tb⟩
   exact q _
end
end G1
namespace L2
open PySem PySem.Spec PyProof.Rows PySem.W PySem.W.X
def keepP (p:Addr × Obj):Bool:=match p.2.data with | .fields vs=>!vs.isEmpty | _=>true
def filt (K:Frag):Frag:=K.filter keepP
theorem filt_look {a:Addr} {o:Obj}:∀{K:Frag},K.lookup a=some o→keepP (a,o)=true→(filt K).lookup a=some o
 | [],e,_=>nomatch e
 | (b,u) :: K,e,k=>by
  by_cases q:a=b
  ·subst q
   have e':some u=some o:=by rw [List.lookup_cons,beq_self_eq_true] at e; exact e
   cases e'
   have z:filt ((a,o) :: K)=(a,o) :: filt K:=List.filter_cons_of_pos k
   rw [z,List.lookup_cons,beq_self_eq_true]
  ·have f:(a == b)=false:=beq_eq_false_iff_ne.mpr q
   have e':K.lookup a=some o:=by rw [List.lookup_cons,f] at e; exact e
   have r:=filt_look e' k
   cases hk:keepP (b,u) with
   | true=>
    have z:filt ((b,u) :: K)=(b,u) :: filt K:=List.filter_cons_of_pos hk
    rw [z,List.lookup_cons,f]; exact r
   | false=>
    have z:filt ((b,u) :: K)=filt K:=List.filter_cons_of_neg (by rw [hk]; exact Bool.false_ne_true)
    rw [z]; exact r
theorem filt_ns {K:Frag} {ns:Addr} {x:Str} {v:Option Value} (e:nsIn K ns x=some v):nsIn (filt K) ns x=some v:=by
 unfold nsIn at e ⊢
 split at e
 next cls d es ep sl l=>rw [filt_look l rfl]; exact e
 next=>cases e
theorem filt_code {K:Frag} {cd:Value} {q:Str} (e:codeIn K cd q=true):codeIn (filt K) cd q=true:=by
 unfold codeIn at e ⊢
 split at e
 next c=>
  split at e
  next cls d vs sl l=>
   rw [filt_look l (by
    show (!vs.isEmpty)=true
    cases hv:vs.isEmpty with
    | false=>rfl
    | true=>
     rw [Array.isEmpty_iff] at hv
     subst hv
     exact e)]
   exact e
  next=>cases e
 next=>cases e
theorem filt_mem {a:Addr} {o:Obj}:∀{K:Frag},(filt K).lookup a=some o→(a,o)∈K
 | [],e=>nomatch e
 | (b,u) :: K,e=>by
  cases hk:keepP (b,u) with
  | true=>
   have z:filt ((b,u) :: K)=(b,u) :: filt K:=List.filter_cons_of_pos hk
   rw [z,List.lookup_cons] at e
   by_cases q:a=b
   ·subst q
    rw [beq_self_eq_true] at e
    cases e
    exact List.mem_cons_self ..
   ·rw [beq_eq_false_iff_ne.mpr q] at e
    exact List.mem_cons_of_mem _ (filt_mem e)
  | false=>
   have z:filt ((b,u) :: K)=filt K:=List.filter_cons_of_neg (by rw [hk]; exact Bool.false_ne_true)
   rw [z] at e
   exact List.mem_cons_of_mem _ (filt_mem e)
theorem allIn_mem {h:Heap}:∀{K:Frag} {p:Addr × Obj},AllIn h K→p∈K→h.get? p.1=some p.2
 | [],_,_,m=>nomatch m
 | q :: K,p,A,m=>by
  rcases List.mem_cons.mp m with rfl | m
  ·exact A.1
  ·exact allIn_mem A.2 m
theorem walkX_of {q:Program} {loose:List Str} {XP:(Str→Option Value)→Heap→Prop} {K:Params→Frag} {as:List Addr} {n t:Nat} {r:RowW} {d:DefRec} {kwd:List (Str × PySem.Expr)} {run:Value→List Value→Sem Value}
  (e:∀P,as=(K P).map (·.1)) (h:WalkO q loose XP (fun w h=>(filt (K w.params)).In h) r d kwd run):WalkX q loose XP (obsZ as) (valZ K n t) r d kwd run:=
 fun w s₀ s₁ mg mb G Y a o pm cd doc dV kV ho hd hcd hD hmg hg args vals as L hpre hlay hrd hwl hlo=>
  h w s₀ s₁ mg mb G (fun b u l=>L.keeps _ _ (allIn_mem (z_facts e Y).1 (filt_mem l))) a o pm cd doc dV kV ho hd hcd hD hmg hg args vals as hpre hlay hrd hwl hlo
theorem filt_own {K:Frag} {x:Str} {v:Value} {r:Option Value} (e:ownIn K x v=some r):ownIn (filt K) x v=some r:=by
 unfold ownIn at e ⊢
 split at e
 next n=>exact e
 next a=>
  split at e
  next cls d cd sl l=>rw [filt_look l rfl]; exact filt_ns e
  next=>cases e
 next h1 h2=>exact e
theorem filt_along {K:Frag} {x:Str}:∀{l:List Value} {r:Option Value},alongIn K x l=some r→alongIn (filt K) x l=some r
 | [],r,e=>by rw [alongIn.eq_1] at e ⊢; exact e
 | c :: l,r,e=>by
  rw [alongIn.eq_2] at e ⊢
  cases h:ownIn K x c with
  | none=>rw [h] at e; cases e
  | some o=>
   rw [h] at e
   rw [filt_own h]
   cases o with
   | some v=>exact e
   | none=>exact filt_along e
theorem filt_find {K:Frag} {t:Value} {x:Str} {r:Option Value} (e:findIn K t x=some r):findIn (filt K) t x=some r:=by
 unfold findIn at e ⊢
 split at e
 next n=>exact e
 next a=>
  split at e
  next cls d cd sl l=>rw [filt_look l rfl]; exact filt_along e
  next=>cases e
 next=>cases e
end L2
namespace G1
open PySem PySem.Spec PyProof.Rows L2 GM
theorem keep_of {K:PySem.W.Frag} {f:Addr} {oc:Value} {od:Option Addr} {fd:FuncData} {sl:Array (Option Value)} (l:K.lookup f=some ⟨oc,od,.func fd,sl⟩):PySem.W.keepIn K (.ref f)=true:=by
 unfold PySem.W.keepIn
 simp only [l]
theorem cd_of {K:PySem.W.Frag} {n x q:Str} {f c T:Addr} {fd:FuncData} {oc:Value} {od:Option Addr} {sl:Array (Option Value)} {ar:Arguments} {bo:List Stmt} {sc:Scope} {dV kV dc pm cd ct:Value} {an:Option Addr} (C:CodeN K n f c T fd) (l:K.lookup f=some ⟨oc,od,.func (PySem.W.fnOf x q ar bo sc dV kV dc pm an cd ct),sl⟩):cd = .ref c:=by
 obtain ⟨oc',od',sl',l'⟩:=C.l
 rw [l] at l'
 injection l' with l'; injection l' with _ _ l' _; injection l' with l'
 rw [← C.hc,← l']
theorem len1 {us:List Value} (h:us.length=1):∃a0,us=[a0]:=by
 match us,h with
 | [a0],_=>exact ⟨a0,rfl⟩
theorem len2 {us:List Value} (h:us.length=2):∃a0 a1,us=[a0,a1]:=by
 match us,h with
 | [a0,a1],_=>exact ⟨a0,a1,rfl⟩
theorem len3 {us:List Value} (h:us.length=3):∃a0 a1 a2,us=[a0,a1,a2]:=by
 match us,h with
 | [a0,a1,a2],_=>exact ⟨a0,a1,a2,rfl⟩
theorem len4 {us:List Value} (h:us.length=4):∃a0 a1 a2 a3,us=[a0,a1,a2,a3]:=by
 match us,h with
 | [a0,a1,a2,a3],_=>exact ⟨a0,a1,a2,a3,rfl⟩
theorem all_mk {l:PySem.W.OpenLaw} {w:World} {K:PySem.W.Frag} {h:Heap} {mg:Str→Option Value} {fa:Addr} (X:K.In h) (G:h.Ns mainGlobals mg) (hfa:mg "law" = some (.ref fa))
  {f0:Addr} {od0 an0:Option Addr} {sl0:Array (Option Value)} {oc0 kV0 dc0 pm0 cd0 ct0:Value}
  {f1:Addr} {od1 an1:Option Addr} {sl1:Array (Option Value)} {oc1 kV1 dc1 pm1 cd1 ct1:Value}
  {f2:Addr} {od2 an2:Option Addr} {sl2:Array (Option Value)} {oc2 kV2 dc2 pm2 cd2 ct2:Value}
  {f3:Addr} {od3 an3:Option Addr} {sl3:Array (Option Value)} {oc3 kV3 dc3 pm3 cd3 ct3:Value}
  {f4:Addr} {od4 an4:Option Addr} {sl4:Array (Option Value)} {oc4 kV4 dc4 pm4 cd4 ct4:Value}
  {cc4 T4:Addr} {fdT4:FuncData}
  {f5:Addr} {od5 an5:Option Addr} {sl5:Array (Option Value)} {oc5 kV5 dc5 pm5 cd5 ct5:Value}
  {f6:Addr} {od6 an6:Option Addr} {sl6:Array (Option Value)} {oc6 kV6 dc6 pm6 cd6 ct6:Value}
  {f7:Addr} {od7 an7:Option Addr} {sl7:Array (Option Value)} {oc7 kV7 dc7 pm7 cd7 ct7:Value}
  {f8:Addr} {od8 an8:Option Addr} {sl8:Array (Option Value)} {oc8 kV8 dc8 pm8 cd8 ct8:Value}
  {cc8 T8:Addr} {fdT8:FuncData}
  {f9:Addr} {od9 an9:Option Addr} {sl9:Array (Option Value)} {oc9 kV9 dc9 pm9 cd9 ct9:Value}
  {f10:Addr} {od10 an10:Option Addr} {sl10:Array (Option Value)} {oc10 kV10 dc10 pm10 cd10 ct10:Value}
  {f11:Addr} {od11 an11:Option Addr} {sl11:Array (Option Value)} {oc11 kV11 dc11 pm11 cd11 ct11:Value}
  {f12:Addr} {od12 an12:Option Addr} {sl12:Array (Option Value)} {oc12 kV12 dc12 pm12 cd12 ct12:Value}
  {f13:Addr} {od13 an13:Option Addr} {sl13:Array (Option Value)} {oc13 kV13 dc13 pm13 cd13 ct13:Value}
  {f14:Addr} {od14 an14:Option Addr} {sl14:Array (Option Value)} {oc14 kV14 dc14 pm14 cd14 ct14:Value}
  {f15:Addr} {od15 an15:Option Addr} {sl15:Array (Option Value)} {oc15 kV15 dc15 pm15 cd15 ct15:Value}
  {cc15 T15:Addr} {fdT15:FuncData}
  {f16:Addr} {od16 an16:Option Addr} {sl16:Array (Option Value)} {oc16 kV16 dc16 pm16 cd16 ct16:Value}
  {f17:Addr} {od17 an17:Option Addr} {sl17:Array (Option Value)} {oc17 kV17 dc17 pm17 cd17 ct17:Value}
  {f18:Addr} {od18 an18:Option Addr} {sl18:Array (Option Value)} {oc18 kV18 dc18 pm18 cd18 ct18:Value}
  {f19:Addr} {od19 an19:Option Addr} {sl19:Array (Option Value)} {oc19 kV19 dc19 pm19 cd19 ct19:Value}
  {f20:Addr} {od20 an20:Option Addr} {sl20:Array (Option Value)} {oc20 kV20 dc20 pm20 cd20 ct20:Value}
  {f21:Addr} {od21 an21:Option Addr} {sl21:Array (Option Value)} {oc21 kV21 dc21 pm21 cd21 ct21:Value}
  {f22:Addr} {od22 an22:Option Addr} {sl22:Array (Option Value)} {oc22 kV22 dc22 pm22 cd22 ct22:Value}
  {f23:Addr} {od23 an23:Option Addr} {sl23:Array (Option Value)} {oc23 kV23 dc23 pm23 cd23 ct23:Value}
  {f24:Addr} {od24 an24:Option Addr} {sl24:Array (Option Value)} {oc24 kV24 dc24 pm24 cd24 ct24:Value}
  {f25:Addr} {od25 an25:Option Addr} {sl25:Array (Option Value)} {oc25 kV25 dc25 pm25 cd25 ct25:Value}
  {f26:Addr} {od26 an26:Option Addr} {sl26:Array (Option Value)} {oc26 kV26 dc26 pm26 cd26 ct26:Value}
  {f27:Addr} {od27 an27:Option Addr} {sl27:Array (Option Value)} {oc27 kV27 dc27 pm27 cd27 ct27:Value}
  {f28:Addr} {od28 an28:Option Addr} {sl28:Array (Option Value)} {oc28 kV28 dc28 pm28 cd28 ct28:Value}
  {f29:Addr} {od29 an29:Option Addr} {sl29:Array (Option Value)} {oc29 kV29 dc29 pm29 cd29 ct29:Value}
  {f30:Addr} {od30 an30:Option Addr} {sl30:Array (Option Value)} {oc30 kV30 dc30 pm30 cd30 ct30:Value}
  {f31:Addr} {od31 an31:Option Addr} {sl31:Array (Option Value)} {oc31 kV31 dc31 pm31 cd31 ct31:Value}
  {f32:Addr} {od32 an32:Option Addr} {sl32:Array (Option Value)} {oc32 kV32 dc32 pm32 cd32 ct32:Value}
  {f33:Addr} {od33 an33:Option Addr} {sl33:Array (Option Value)} {oc33 kV33 dc33 pm33 cd33 ct33:Value}
  {f34:Addr} {od34 an34:Option Addr} {sl34:Array (Option Value)} {oc34 kV34 dc34 pm34 cd34 ct34:Value}
  {tkA tkB tkC tkD tkE:Tok}
  {C0 C1 C2 C3 C4 C5 C6 C7 C8 C9 C10 C11 C12 C13 C14:Addr}
  {fI3:Addr}
  (CN4:CodeN K "is_name" f4 cc4 T4 fdT4)
  (CN8:CodeN K "are_signs" f8 cc8 T8 fdT8)
  (CN15:CodeN K "calls_by" f15 cc15 T15 fdT15)
  (a0:PySem.W.nsIn K mainGlobals "is_whole" = some (some (.ref f0)))
  (l0:K.lookup f0=some ⟨oc0,od0,.func (PySem.W.fnOf "is_whole" "is_whole" (defArgs sWhole) (defBody sWhole) (defScope sWhole) .none kV0 dc0 pm0 an0 cd0 ct0),sl0⟩)
  (c0:PySem.W.codeIn K cd0 "is_whole" = true)
  (a1:PySem.W.nsIn K mainGlobals "is_whole_within" = some (some (.ref f1)))
  (l1:K.lookup f1=some ⟨oc1,od1,.func (PySem.W.fnOf "is_whole_within" "is_whole_within" (defArgs sWithin) (defBody sWithin) (defScope sWithin) .none kV1 dc1 pm1 an1 cd1 ct1),sl1⟩)
  (c1:PySem.W.codeIn K cd1 "is_whole_within" = true)
  (a2:PySem.W.nsIn K mainGlobals "is_fraction" = some (some (.ref f2)))
  (l2:K.lookup f2=some ⟨oc2,od2,.func (PySem.W.fnOf "is_fraction" "is_fraction" (defArgs sIsF) (defBody sIsF) (defScope sIsF) .none kV2 dc2 pm2 an2 cd2 ct2),sl2⟩)
  (c2:PySem.W.codeIn K cd2 "is_fraction" = true)
  (a3:PySem.W.nsIn K mainGlobals "is_above_nought" = some (some (.ref f3)))
  (l3:K.lookup f3=some ⟨oc3,od3,.func (PySem.W.fnOf "is_above_nought" "is_above_nought" (defArgs sAbove) (defBody sAbove) (defScope sAbove) .none kV3 dc3 pm3 an3 cd3 ct3),sl3⟩)
  (c3:PySem.W.codeIn K cd3 "is_above_nought" = true)
  (a4:PySem.W.nsIn K mainGlobals "is_name" = some (some (.ref f4)))
  (l4:K.lookup f4=some ⟨oc4,od4,.func (PySem.W.fnOf "is_name" "is_name" (defArgs sName) (defBody sName) (defScope sName) .none kV4 dc4 pm4 an4 cd4 ct4),sl4⟩)
  (c4:PySem.W.codeIn K cd4 "is_name" = true)
  (a5:PySem.W.nsIn K mainGlobals "is_letter" = some (some (.ref f5)))
  (l5:K.lookup f5=some ⟨oc5,od5,.func (PySem.W.fnOf "is_letter" "is_letter" (defArgs sLetter) (defBody sLetter) (defScope sLetter) .none kV5 dc5 pm5 an5 cd5 ct5),sl5⟩)
  (c5:PySem.W.codeIn K cd5 "is_letter" = true)
  (a6:PySem.W.nsIn K mainGlobals "common_divisor" = some (some (.ref f6)))
  (l6:K.lookup f6=some ⟨oc6,od6,.func (PySem.W.fnOf "common_divisor" "common_divisor" (defArgs sGcd) (defBody sGcd) (defScope sGcd) .none kV6 dc6 pm6 an6 cd6 ct6),sl6⟩)
  (c6:PySem.W.codeIn K cd6 "common_divisor" = true)
  (a7:PySem.W.nsIn K mainGlobals "look_at_tongue" = some (some (.ref f7)))
  (l7:K.lookup f7=some ⟨oc7,od7,.func (PySem.W.fnOf "look_at_tongue" "look_at_tongue" (defArgs sLook) (defBody sLook) (defScope sLook) .none kV7 dc7 pm7 an7 cd7 ct7),sl7⟩)
  (c7:PySem.W.codeIn K cd7 "look_at_tongue" = true)
  (a8:PySem.W.nsIn K mainGlobals "are_signs" = some (some (.ref f8)))
  (l8:K.lookup f8=some ⟨oc8,od8,.func (PySem.W.fnOf "are_signs" "are_signs" (defArgs sSigns) (defBody sSigns) (defScope sSigns) .none kV8 dc8 pm8 an8 cd8 ct8),sl8⟩)
  (c8:PySem.W.codeIn K cd8 "are_signs" = true)
  (a9:PySem.W.nsIn K mainGlobals "is_sign_row" = some (some (.ref f9)))
  (l9:K.lookup f9=some ⟨oc9,od9,.func (PySem.W.fnOf "is_sign_row" "is_sign_row" (defArgs sRow) (defBody sRow) (defScope sRow) .none kV9 dc9 pm9 an9 cd9 ct9),sl9⟩)
  (c9:PySem.W.codeIn K cd9 "is_sign_row" = true)
  (a10:PySem.W.nsIn K mainGlobals "are_unlike_texts_of" = some (some (.ref f10)))
  (l10:K.lookup f10=some ⟨oc10,od10,.func (PySem.W.fnOf "are_unlike_texts_of" "are_unlike_texts_of" (defArgs sUnlike) (defBody sUnlike) (defScope sUnlike) .none kV10 dc10 pm10 an10 cd10 ct10),sl10⟩)
  (c10:PySem.W.codeIn K cd10 "are_unlike_texts_of" = true)
  (a11:PySem.W.nsIn K mainGlobals "signs_of" = some (some (.ref f11)))
  (l11:K.lookup f11=some ⟨oc11,od11,.func (PySem.W.fnOf "signs_of" "signs_of" (defArgs sSignsOf) (defBody sSignsOf) (defScope sSignsOf) .none kV11 dc11 pm11 an11 cd11 ct11),sl11⟩)
  (c11:PySem.W.codeIn K cd11 "signs_of" = true)
  (a12:PySem.W.nsIn K mainGlobals "turned_tongue" = some (some (.ref f12)))
  (l12:K.lookup f12=some ⟨oc12,od12,.func (PySem.W.fnOf "turned_tongue" "turned_tongue" (defArgs sTTongue) (defBody sTTongue) (defScope sTTongue) .none kV12 dc12 pm12 an12 cd12 ct12),sl12⟩)
  (c12:PySem.W.codeIn K cd12 "turned_tongue" = true)
  (a13:PySem.W.nsIn K mainGlobals "turned_text" = some (some (.ref f13)))
  (l13:K.lookup f13=some ⟨oc13,od13,.func (PySem.W.fnOf "turned_text" "turned_text" (defArgs sTText) (defBody sTText) (defScope sTText) .none kV13 dc13 pm13 an13 cd13 ct13),sl13⟩)
  (c13:PySem.W.codeIn K cd13 "turned_text" = true)
  (a14:PySem.W.nsIn K mainGlobals "turned_book" = some (some (.ref f14)))
  (l14:K.lookup f14=some ⟨oc14,od14,.func (PySem.W.fnOf "turned_book" "turned_book" (defArgs sTBook) (defBody sTBook) (defScope sTBook) .none kV14 dc14 pm14 an14 cd14 ct14),sl14⟩)
  (c14:PySem.W.codeIn K cd14 "turned_book" = true)
  (a15:PySem.W.nsIn K mainGlobals "calls_by" = some (some (.ref f15)))
  (l15:K.lookup f15=some ⟨oc15,od15,.func (PySem.W.fnOf "calls_by" "calls_by" (defArgs sCalls) (defBody sCalls) (defScope sCalls) .none kV15 dc15 pm15 an15 cd15 ct15),sl15⟩)
  (c15:PySem.W.codeIn K cd15 "calls_by" = true)
  (a16:PySem.W.nsIn K mainGlobals "called" = some (some (.ref f16)))
  (l16:K.lookup f16=some ⟨oc16,od16,.func (PySem.W.fnOf "called" "called" (defArgs sCalled) (defBody sCalled) (defScope sCalled) .none kV16 dc16 pm16 an16 cd16 ct16),sl16⟩)
  (c16:PySem.W.codeIn K cd16 "called" = true)
  (a17:PySem.W.nsIn K mainGlobals "_law_cell" = some (some (.ref f17)))
  (l17:K.lookup f17=some ⟨oc17,od17,.func (PySem.W.fnOf "_law_cell" "_law_cell" (defArgs sCell) (defBody sCell) (defScope sCell) .none kV17 dc17 pm17 an17 cd17 ct17),sl17⟩)
  (c17:PySem.W.codeIn K cd17 "_law_cell" = true)
  (a18:PySem.W.nsIn K mainGlobals "_law_draws" = some (some (.ref f18)))
  (l18:K.lookup f18=some ⟨oc18,od18,.func (PySem.W.fnOf "_law_draws" "_law_draws" (defArgs sDraws) (defBody sDraws) (defScope sDraws) .none kV18 dc18 pm18 an18 cd18 ct18),sl18⟩)
  (c18:PySem.W.codeIn K cd18 "_law_draws" = true)
  (a19:PySem.W.nsIn K mainGlobals "_law_low" = some (some (.ref f19)))
  (l19:K.lookup f19=some ⟨oc19,od19,.func (PySem.W.fnOf "_law_low" "_law_low" (defArgs sLow) (defBody sLow) (defScope sLow) .none kV19 dc19 pm19 an19 cd19 ct19),sl19⟩)
  (c19:PySem.W.codeIn K cd19 "_law_low" = true)
  (a20:PySem.W.nsIn K mainGlobals "_law_letters" = some (some (.ref f20)))
  (l20:K.lookup f20=some ⟨oc20,od20,.func (PySem.W.fnOf "_law_letters" "_law_letters" (defArgs sLetters) (defBody sLetters) (defScope sLetters) .none kV20 dc20 pm20 an20 cd20 ct20),sl20⟩)
  (c20:PySem.W.codeIn K cd20 "_law_letters" = true)
  (a21:PySem.W.nsIn K mainGlobals "_law_sign" = some (some (.ref f21)))
  (l21:K.lookup f21=some ⟨oc21,od21,.func (PySem.W.fnOf "_law_sign" "_law_sign" (defArgs sSign) (defBody sSign) (defScope sSign) .none kV21 dc21 pm21 an21 cd21 ct21),sl21⟩)
  (c21:PySem.W.codeIn K cd21 "_law_sign" = true)
  (a22:PySem.W.nsIn K mainGlobals "_law_tongue" = some (some (.ref f22)))
  (l22:K.lookup f22=some ⟨oc22,od22,.func (PySem.W.fnOf "_law_tongue" "_law_tongue" (defArgs sTongue) (defBody sTongue) (defScope sTongue) .none kV22 dc22 pm22 an22 cd22 ct22),sl22⟩)
  (c22:PySem.W.codeIn K cd22 "_law_tongue" = true)
  (a23:PySem.W.nsIn K mainGlobals "_law_is_no_turn" = some (some (.ref f23)))
  (l23:K.lookup f23=some ⟨oc23,od23,.func (PySem.W.fnOf "_law_is_no_turn" "_law_is_no_turn" (defArgs sNoTurn) (defBody sNoTurn) (defScope sNoTurn) .none kV23 dc23 pm23 an23 cd23 ct23),sl23⟩)
  (c23:PySem.W.codeIn K cd23 "_law_is_no_turn" = true)
  (a24:PySem.W.nsIn K mainGlobals "_law_copy" = some (some (.ref f24)))
  (l24:K.lookup f24=some ⟨oc24,od24,.func (PySem.W.fnOf "_law_copy" "_law_copy" (defArgs sCopy) (defBody sCopy) (defScope sCopy) .none kV24 dc24 pm24 an24 cd24 ct24),sl24⟩)
  (c24:PySem.W.codeIn K cd24 "_law_copy" = true)
  (a25:PySem.W.nsIn K mainGlobals "_law_called" = some (some (.ref f25)))
  (l25:K.lookup f25=some ⟨oc25,od25,.func (PySem.W.fnOf "_law_called" "_law_called" (defArgs sLCalled) (defBody sLCalled) (defScope sLCalled) .none kV25 dc25 pm25 an25 cd25 ct25),sl25⟩)
  (c25:PySem.W.codeIn K cd25 "_law_called" = true)
  (a26:PySem.W.nsIn K mainGlobals "_law_drawn_text" = some (some (.ref f26)))
  (l26:K.lookup f26=some ⟨oc26,od26,.func (PySem.W.fnOf "_law_drawn_text" "_law_drawn_text" (defArgs sDText) (defBody sDText) (defScope sDText) .none kV26 dc26 pm26 an26 cd26 ct26),sl26⟩)
  (c26:PySem.W.codeIn K cd26 "_law_drawn_text" = true)
  (a27:PySem.W.nsIn K mainGlobals "_law_drawn_letters" = some (some (.ref f27)))
  (l27:K.lookup f27=some ⟨oc27,od27,.func (PySem.W.fnOf "_law_drawn_letters" "_law_drawn_letters" (defArgs sDLetters) (defBody sDLetters) (defScope sDLetters) .none kV27 dc27 pm27 an27 cd27 ct27),sl27⟩)
  (c27:PySem.W.codeIn K cd27 "_law_drawn_letters" = true)
  (a28:PySem.W.nsIn K mainGlobals "_law_no_letters" = some (some (.ref f28)))
  (l28:K.lookup f28=some ⟨oc28,od28,.func (PySem.W.fnOf "_law_no_letters" "_law_no_letters" (defArgs sNoLet) (defBody sNoLet) (defScope sNoLet) .none kV28 dc28 pm28 an28 cd28 ct28),sl28⟩)
  (c28:PySem.W.codeIn K cd28 "_law_no_letters" = true)
  (a29:PySem.W.nsIn K mainGlobals "_law_refused" = some (some (.ref f29)))
  (l29:K.lookup f29=some ⟨oc29,od29,.func (PySem.W.fnOf "_law_refused" "_law_refused" (defArgs sRefused) (defBody sRefused) (defScope sRefused) .none kV29 dc29 pm29 an29 cd29 ct29),sl29⟩)
  (c29:PySem.W.codeIn K cd29 "_law_refused" = true)
  (a30:PySem.W.nsIn K mainGlobals "_law_no_tongues" = some (some (.ref f30)))
  (l30:K.lookup f30=some ⟨oc30,od30,.func (PySem.W.fnOf "_law_no_tongues" "_law_no_tongues" (defArgs sNoTgs) (defBody sNoTgs) (defScope sNoTgs) .none kV30 dc30 pm30 an30 cd30 ct30),sl30⟩)
  (c30:PySem.W.codeIn K cd30 "_law_no_tongues" = true)
  (a31:PySem.W.nsIn K mainGlobals "_law_part" = some (some (.ref f31)))
  (l31:K.lookup f31=some ⟨oc31,od31,.func (PySem.W.fnOf "_law_part" "_law_part" (defArgs sPart) (defBody sPart) (defScope sPart) .none kV31 dc31 pm31 an31 cd31 ct31),sl31⟩)
  (c31:PySem.W.codeIn K cd31 "_law_part" = true)
  (a32:PySem.W.nsIn K mainGlobals "_law_turned" = some (some (.ref f32)))
  (l32:K.lookup f32=some ⟨oc32,od32,.func (PySem.W.fnOf "_law_turned" "_law_turned" (defArgs sLTurned) (defBody sLTurned) (defScope sLTurned) .none kV32 dc32 pm32 an32 cd32 ct32),sl32⟩)
  (c32:PySem.W.codeIn K cd32 "_law_turned" = true)
  (a33:PySem.W.nsIn K mainGlobals "_law_book_right" = some (some (.ref f33)))
  (l33:K.lookup f33=some ⟨oc33,od33,.func (PySem.W.fnOf "_law_book_right" "_law_book_right" (defArgs sBRight) (defBody sBRight) (defScope sBRight) .none kV33 dc33 pm33 an33 cd33 ct33),sl33⟩)
  (c33:PySem.W.codeIn K cd33 "_law_book_right" = true)
  (a34:PySem.W.nsIn K mainGlobals "law" = some (some (.ref f34)))
  (l34:K.lookup f34=some ⟨oc34,od34,.func (PySem.W.fnOf "law" "law" (defArgs sLaw) (defBody sLaw) (defScope sLaw) .none kV34 dc34 pm34 an34 cd34 ct34),sl34⟩)
  (c34:PySem.W.codeIn K cd34 "law" = true)
  (aLe:PySem.W.nsIn K mainGlobals "LETTERS" = some (some (.str letters tkA)))
  (aLo:PySem.W.nsIn K mainGlobals "LONGEST_NAME" = some (some (.int 8 tkB)))
  (aFe:PySem.W.nsIn K mainGlobals "FEWEST_SIGNS" = some (some (.int 2 tkC)))
  (aMo:PySem.W.nsIn K mainGlobals "MOST_SIGNS" = some (some (.int 6 tkD)))
  (aLw:PySem.W.nsIn K mainGlobals "LONGEST_WORD" = some (some (.int 8 tkE)))
  (m0:PySem.W.nsIn K mainGlobals "DearError" = some (some (.ref C0)))
  (m1:PySem.W.nsIn K mainGlobals "NoTurn" = some (some (.ref C1)))
  (m2:PySem.W.nsIn K mainGlobals "NoBook" = some (some (.ref C2)))
  (m3:PySem.W.nsIn K mainGlobals "NoTongue" = some (some (.ref C3)))
  (m4:PySem.W.nsIn K mainGlobals "NoWants" = some (some (.ref C4)))
  (m5:PySem.W.nsIn K mainGlobals "NoTree" = some (some (.ref C5)))
  (m6:PySem.W.nsIn K mainGlobals "TooMany" = some (some (.ref C6)))
  (m7:PySem.W.nsIn K mainGlobals "NoUndo" = some (some (.ref C7)))
  (m8:PySem.W.nsIn K mainGlobals "NoCount" = some (some (.ref C8)))
  (m9:PySem.W.nsIn K mainGlobals "NoNumber" = some (some (.ref C9)))
  (m10:PySem.W.nsIn K mainGlobals "NoRow" = some (some (.ref C10)))
  (m11:PySem.W.nsIn K mainGlobals "NoText" = some (some (.ref C11)))
  (m12:PySem.W.nsIn K mainGlobals "Unknown" = some (some (.ref C12)))
  (m13:PySem.W.nsIn K mainGlobals "NoThing" = some (some (.ref C13)))
  (m14:PySem.W.nsIn K mainGlobals "BadSign" = some (some (.ref C14)))
  (q1:PySem.W.findIn K (.ref C1) "__getattribute__" = some (some (.builtin "BaseException.__getattribute__")))
  (q0:PySem.W.findIn K (.ref C1) "__getattr__" = some none)
  (q2:PySem.W.hasDictIn K C1=true)
  (q3:PySem.W.findIn K (.ref C1) "__class__" = some (some (.builtin "object.__class__")))
  (q6:PySem.W.mroIn K C1 (.type "object")=some true)
  (qb:PySem.W.mroIn K C1 (.type "BaseException")=some true)
  (q7:PySem.W.mroIn K C1 (.ref C1)=some true)
  (q4:PySem.W.specialIn K (.builtin "object.__class__") "__get__" = some (some (.builtin "getset_descriptor.__get__")))
  (q5:PySem.W.takesIn K (.builtin "object.__class__")=some true)
  (q8:PySem.W.mroIn K C1 (.type "ValueError")=some true)
  (q9:PySem.W.mroIn K C1 (.ref C0)=some true)
  (r1:PySem.W.instIn K (.ref C0) (.type "tuple")=some false)
  (r2:PySem.W.hasDictIn K C0=true)
  (r3:PySem.W.mroIn K C0 (.type "BaseException")=some true)
  (n2:PySem.W.mroIn K C1 (.ref C2)=some false)
  (d2:PySem.W.hasDictIn K C2=true)
  (t2:PySem.W.typeIn K (.ref C2)=some (.type "type"))
  (n3:PySem.W.mroIn K C1 (.ref C3)=some false)
  (d3:PySem.W.hasDictIn K C3=true)
  (t3:PySem.W.typeIn K (.ref C3)=some (.type "type"))
  (n4:PySem.W.mroIn K C1 (.ref C4)=some false)
  (d4:PySem.W.hasDictIn K C4=true)
  (t4:PySem.W.typeIn K (.ref C4)=some (.type "type"))
  (n5:PySem.W.mroIn K C1 (.ref C5)=some false)
  (d5:PySem.W.hasDictIn K C5=true)
  (t5:PySem.W.typeIn K (.ref C5)=some (.type "type"))
  (n6:PySem.W.mroIn K C1 (.ref C6)=some false)
  (d6:PySem.W.hasDictIn K C6=true)
  (t6:PySem.W.typeIn K (.ref C6)=some (.type "type"))
  (n7:PySem.W.mroIn K C1 (.ref C7)=some false)
  (d7:PySem.W.hasDictIn K C7=true)
  (t7:PySem.W.typeIn K (.ref C7)=some (.type "type"))
  (n8:PySem.W.mroIn K C1 (.ref C8)=some false)
  (d8:PySem.W.hasDictIn K C8=true)
  (t8:PySem.W.typeIn K (.ref C8)=some (.type "type"))
  (n9:PySem.W.mroIn K C1 (.ref C9)=some false)
  (d9:PySem.W.hasDictIn K C9=true)
  (t9:PySem.W.typeIn K (.ref C9)=some (.type "type"))
  (n10:PySem.W.mroIn K C1 (.ref C10)=some false)
  (d10:PySem.W.hasDictIn K C10=true)
  (t10:PySem.W.typeIn K (.ref C10)=some (.type "type"))
  (n11:PySem.W.mroIn K C1 (.ref C11)=some false)
  (d11:PySem.W.hasDictIn K C11=true)
  (t11:PySem.W.typeIn K (.ref C11)=some (.type "type"))
  (n12:PySem.W.mroIn K C1 (.ref C12)=some false)
  (d12:PySem.W.hasDictIn K C12=true)
  (t12:PySem.W.typeIn K (.ref C12)=some (.type "type"))
  (n13:PySem.W.mroIn K C1 (.ref C13)=some false)
  (d13:PySem.W.hasDictIn K C13=true)
  (t13:PySem.W.typeIn K (.ref C13)=some (.type "type"))
  (n14:PySem.W.mroIn K C1 (.ref C14)=some false)
  (d14:PySem.W.hasDictIn K C14=true)
  (t14:PySem.W.typeIn K (.ref C14)=some (.type "type"))
  (excB:PySem.W.excIn K C1 bmV "ValueError.__new__" = true)
  (qc:PySem.W.findIn K (.ref C3) "__getattribute__" = some (some (.builtin "BaseException.__getattribute__")))
  (qd:PySem.W.findIn K (.ref C3) "__getattr__" = some none)
  (qe:PySem.W.hasDictIn K C3=true)
  (qf:PySem.W.findIn K (.ref C3) "__class__" = some (some (.builtin "object.__class__")))
  (qg:PySem.W.mroIn K C3 (.type "object")=some true)
  (qh:PySem.W.mroIn K C3 (.type "BaseException")=some true)
  (qi:PySem.W.mroIn K C3 (.ref C3)=some true)
  (r5:PySem.W.instIn K (.ref C3) (.type "tuple")=some false)
  (qj:PySem.W.findIn K (.ref C3) "part" = some none)
  (IKtf:PySem.W.findIn K (.ref C3) "__init__" = some (some (.ref fI3)))
  (IKt:InitK l.prog w K mg C3 fI3 "part")
  (zzi:PySem.W.nsIn K mainGlobals "zip" = some none)
  (zve:PySem.W.nsIn K mainGlobals "ValueError" = some none)
  (z_isi:PySem.W.nsIn K mainGlobals "isinstance" = some none)
  (z_int:PySem.W.nsIn K mainGlobals "int" = some none)
  (z_bool:PySem.W.nsIn K mainGlobals "bool" = some none)
  (z_tuple:PySem.W.nsIn K mainGlobals "tuple" = some none)
  (z_abs:PySem.W.nsIn K mainGlobals "abs" = some none)
  (z_len:PySem.W.nsIn K mainGlobals "len" = some none)
  (z_enum:PySem.W.nsIn K mainGlobals "enumerate" = some none)
  (z_str:PySem.W.nsIn K mainGlobals "str" = some none)
  (z_range:PySem.W.nsIn K mainGlobals "range" = some none)
  (z_max:PySem.W.nsIn K mainGlobals "max" = some none)
  (z_all:PySem.W.nsIn K mainGlobals "all" = some none)
  (z_set:PySem.W.nsIn K mainGlobals "set" = some none)
  (z_list:PySem.W.nsIn K mainGlobals "list" = some none)
  (z_min:PySem.W.nsIn K mainGlobals "min" = some none) :
  ∃fd:FuncData,(∀(s:Shared) (v:Value),BindsTo s fd ⟨[v],[]⟩ [("_law_script",v)])∧∀base:Heap,K.In base→base.Ns mainGlobals mg→BmOf mg base→FnOk l.prog w K mg base (CXE l.prog w) 11 fa fd ["_law_script"] (spLaw (tbOf K "is_name") (tbOf K "are_signs") (tbOf K "calls_by") K):=by
 have e:=hfa.symm.trans (PySem.W.mg_of X G a34)
 cases e
 have B:Bl mg:=⟨PySem.W.mg_none_of X G z_isi,PySem.W.mg_none_of X G z_int,PySem.W.mg_none_of X G z_bool,PySem.W.mg_none_of X G z_tuple,PySem.W.mg_none_of X G z_abs,PySem.W.mg_none_of X G z_len,PySem.W.mg_none_of X G z_enum,PySem.W.mg_none_of X G z_str,PySem.W.mg_none_of X G z_range,PySem.W.mg_none_of X G z_max,PySem.W.mg_none_of X G z_all,PySem.W.mg_none_of X G z_set,PySem.W.mg_none_of X G z_list,PySem.W.mg_none_of X G z_min⟩
 have hcd4:=cd_of CN4 l4
 subst hcd4
 rw [CN4.tb]
 have hcd8:=cd_of CN8 l8
 subst hcd8
 rw [CN8.tb]
 have hcd15:=cd_of CN15 l15
 subst hcd15
 rw [CN15.tb]
 have k0:=keep_of l0
 have F0:=fung_mk (st:=sWhole) l0 c0 k0
 have k1:=keep_of l1
 have F1:=fung_mk (st:=sWithin) l1 c1 k1
 have k2:=keep_of l2
 have F2:=fung_mk (st:=sIsF) l2 c2 k2
 have k3:=keep_of l3
 have F3:=fung_mk (st:=sAbove) l3 c3 k3
 have k4:=keep_of l4
 have F4:=fung_mk (st:=sName) l4 c4 k4
 have k5:=keep_of l5
 have F5:=fung_mk (st:=sLetter) l5 c5 k5
 have k6:=keep_of l6
 have F6:=fung_mk (st:=sGcd) l6 c6 k6
 have k7:=keep_of l7
 have F7:=fung_mk (st:=sLook) l7 c7 k7
 have k8:=keep_of l8
 have F8:=fung_mk (st:=sSigns) l8 c8 k8
 have k9:=keep_of l9
 have F9:=fung_mk (st:=sRow) l9 c9 k9
 have k10:=keep_of l10
 have F10:=fung_mk (st:=sUnlike) l10 c10 k10
 have k11:=keep_of l11
 have F11:=fung_mk (st:=sSignsOf) l11 c11 k11
 have k12:=keep_of l12
 have F12:=fung_mk (st:=sTTongue) l12 c12 k12
 have k13:=keep_of l13
 have F13:=fung_mk (st:=sTText) l13 c13 k13
 have k14:=keep_of l14
 have F14:=fung_mk (st:=sTBook) l14 c14 k14
 have k15:=keep_of l15
 have F15:=fung_mk (st:=sCalls) l15 c15 k15
 have k16:=keep_of l16
 have F16:=fung_mk (st:=sCalled) l16 c16 k16
 have k17:=keep_of l17
 have F17:=fung_mk (st:=sCell) l17 c17 k17
 have k18:=keep_of l18
 have F18:=fung_mk (st:=sDraws) l18 c18 k18
 have k19:=keep_of l19
 have F19:=fung_mk (st:=sLow) l19 c19 k19
 have k20:=keep_of l20
 have F20:=fung_mk (st:=sLetters) l20 c20 k20
 have k21:=keep_of l21
 have F21:=fung_mk (st:=sSign) l21 c21 k21
 have k22:=keep_of l22
 have F22:=fung_mk (st:=sTongue) l22 c22 k22
 have k23:=keep_of l23
 have F23:=fung_mk (st:=sNoTurn) l23 c23 k23
 have k24:=keep_of l24
 have F24:=fung_mk (st:=sCopy) l24 c24 k24
 have k25:=keep_of l25
 have F25:=fung_mk (st:=sLCalled) l25 c25 k25
 have k26:=keep_of l26
 have F26:=fung_mk (st:=sDText) l26 c26 k26
 have k27:=keep_of l27
 have F27:=fung_mk (st:=sDLetters) l27 c27 k27
 have k28:=keep_of l28
 have F28:=fung_mk (st:=sNoLet) l28 c28 k28
 have k29:=keep_of l29
 have F29:=fung_mk (st:=sRefused) l29 c29 k29
 have k30:=keep_of l30
 have F30:=fung_mk (st:=sNoTgs) l30 c30 k30
 have k31:=keep_of l31
 have F31:=fung_mk (st:=sPart) l31 c31 k31
 have k32:=keep_of l32
 have F32:=fung_mk (st:=sLTurned) l32 c32 k32
 have k33:=keep_of l33
 have F33:=fung_mk (st:=sBRight) l33 c33 k33
 have k34:=keep_of l34
 have F34:=fung_mk (st:=sLaw) l34 c34 k34
 have b0:=F0.binds (ps:=["thing"]) fun _ _ _ _ _ _ us hl=>by obtain ⟨_,rfl⟩:=len1 hl; rfl
 have b1:=F1.binds (ps:=["thing","least","most"]) fun _ _ _ _ _ _ us hl=>by obtain ⟨_,_,_,rfl⟩:=len3 hl; rfl
 have b2:=F2.binds (ps:=["thing"]) fun _ _ _ _ _ _ us hl=>by obtain ⟨_,rfl⟩:=len1 hl; rfl
 have b3:=F3.binds (ps:=["thing"]) fun _ _ _ _ _ _ us hl=>by obtain ⟨_,rfl⟩:=len1 hl; rfl
 have b4:=F4.binds (ps:=["thing"]) fun _ _ _ _ _ _ us hl=>by obtain ⟨_,rfl⟩:=len1 hl; rfl
 have b5:=F5.binds (ps:=["thing"]) fun _ _ _ _ _ _ us hl=>by obtain ⟨_,rfl⟩:=len1 hl; rfl
 have b6:=F6.binds (ps:=["one","other"]) fun _ _ _ _ _ _ us hl=>by obtain ⟨_,_,rfl⟩:=len2 hl; rfl
 have b7:=F7.binds (ps:=["thing"]) fun _ _ _ _ _ _ us hl=>by obtain ⟨_,rfl⟩:=len1 hl; rfl
 have b8:=F8.binds (ps:=["thing"]) fun _ _ _ _ _ _ us hl=>by obtain ⟨_,rfl⟩:=len1 hl; rfl
 have b9:=F9.binds (ps:=["thing"]) fun _ _ _ _ _ _ us hl=>by obtain ⟨_,rfl⟩:=len1 hl; rfl
 have b10:=F10.binds (ps:=["choices","thing"]) fun _ _ _ _ _ _ us hl=>by obtain ⟨_,_,rfl⟩:=len2 hl; rfl
 have b11:=F11.binds (ps:=["tongue"]) fun _ _ _ _ _ _ us hl=>by obtain ⟨_,rfl⟩:=len1 hl; rfl
 have b12:=F12.binds (ps:=["tongue","letters"]) fun _ _ _ _ _ _ us hl=>by obtain ⟨_,_,rfl⟩:=len2 hl; rfl
 have b13:=F13.binds (ps:=["tongue","letters","text"]) fun _ _ _ _ _ _ us hl=>by obtain ⟨_,_,_,rfl⟩:=len3 hl; rfl
 have b14:=F14.binds (ps:=["tongue","letters","book"]) fun _ _ _ _ _ _ us hl=>by obtain ⟨_,_,_,rfl⟩:=len3 hl; rfl
 have b15:=F15.binds (ps:=["tongue","letters"]) fun _ _ _ _ _ _ us hl=>by obtain ⟨_,_,rfl⟩:=len2 hl; rfl
 have b16:=F16.binds (ps:=["calls","text"]) fun _ _ _ _ _ _ us hl=>by obtain ⟨_,_,rfl⟩:=len2 hl; rfl
 have b17:=F17.binds (ps:=["_law_script","_law_k"]) fun _ _ _ _ _ _ us hl=>by obtain ⟨_,_,rfl⟩:=len2 hl; rfl
 have b18:=F18.binds (ps:=["_law_cell_here","_law_k","_law_sizes"]) fun _ _ _ _ _ _ us hl=>by obtain ⟨_,_,_,rfl⟩:=len3 hl; rfl
 have b19:=F19.binds (ps:=["_law_top","_law_bottom"]) fun _ _ _ _ _ _ us hl=>by obtain ⟨_,_,rfl⟩:=len2 hl; rfl
 have b20:=F20.binds (ps:=["_law_row","_law_many"]) fun _ _ _ _ _ _ us hl=>by obtain ⟨_,_,rfl⟩:=len2 hl; rfl
 have b21:=F21.binds (ps:=["_law_cell_here","_law_k","_law_letter","_law_dear"]) fun _ _ _ _ _ _ us hl=>by obtain ⟨_,_,_,_,rfl⟩:=len4 hl; rfl
 have b22:=F22.binds (ps:=["_law_script","_law_most","_law_longest"]) fun _ _ _ _ _ _ us hl=>by obtain ⟨_,_,_,rfl⟩:=len3 hl; rfl
 have b23:=F23.binds (ps:=["_law_kept"]) fun _ _ _ _ _ _ us hl=>by obtain ⟨_,rfl⟩:=len1 hl; rfl
 have b24:=F24.binds (ps:=["_law_tongue_here"]) fun _ _ _ _ _ _ us hl=>by obtain ⟨_,rfl⟩:=len1 hl; rfl
 have b25:=F25.binds (ps:=["_law_tongue_here","_law_letters_here","_law_text"]) fun _ _ _ _ _ _ us hl=>by obtain ⟨_,_,_,rfl⟩:=len3 hl; rfl
 have b26:=F26.binds (ps:=["_law_tongue_here","_law_cell_here","_law_k"]) fun _ _ _ _ _ _ us hl=>by obtain ⟨_,_,_,rfl⟩:=len3 hl; rfl
 have b27:=F27.binds (ps:=["_law_cell_here","_law_k","_law_many"]) fun _ _ _ _ _ _ us hl=>by obtain ⟨_,_,_,rfl⟩:=len3 hl; rfl
 have b28:=F28.binds (ps:=["_law_letters_here","_law_cell_here","_law_k"]) fun _ _ _ _ _ _ us hl=>by obtain ⟨_,_,_,rfl⟩:=len3 hl; rfl
 have b29:=F29.binds (ps:=["_law_tongue_here","_law_thing","_law_way"]) fun _ _ _ _ _ _ us hl=>by obtain ⟨_,_,_,rfl⟩:=len3 hl; rfl
 have b30:=F30.binds (ps:=["_law_tongue_here"]) fun _ _ _ _ _ _ us hl=>by obtain ⟨_,rfl⟩:=len1 hl; rfl
 have b31:=F31.binds (ps:=["_law_thing","_law_letters_here","_law_text","_law_way"]) fun _ _ _ _ _ _ us hl=>by obtain ⟨_,_,_,_,rfl⟩:=len4 hl; rfl
 have b32:=F32.binds (ps:=["_law_tongue_here","_law_letters_here"]) fun _ _ _ _ _ _ us hl=>by obtain ⟨_,_,rfl⟩:=len2 hl; rfl
 have b33:=F33.binds (ps:=["_law_tongue_here","_law_letters_here","_law_book","_law_text"]) fun _ _ _ _ _ _ us hl=>by obtain ⟨_,_,_,_,rfl⟩:=len4 hl; rfl
 have cl:∀{D:Addr},PySem.W.hasDictIn K D=true→(PySem.W.clsIn K D).isSome=true:=fun q=>by
  obtain ⟨cd,z,_⟩:=PySem.W.any_some q
  rw [z]; rfl
 have C:Cl K mg [C0,C1,C2,C3,C4,C5,C6,C7,C8,C9,C10,C11,C12,C13,C14]:=by
  refine ⟨rfl,PySem.W.mg_of X G m0,PySem.W.mg_of X G m1,PySem.W.mg_of X G m2,PySem.W.mg_of X G m3,PySem.W.mg_of X G m4,PySem.W.mg_of X G m5,PySem.W.mg_of X G m6,PySem.W.mg_of X G m7,PySem.W.mg_of X G m8,PySem.W.mg_of X G m9,PySem.W.mg_of X G m10,PySem.W.mg_of X G m11,PySem.W.mg_of X G m12,PySem.W.mg_of X G m13,PySem.W.mg_of X G m14,excB,⟨q1,q0,q2,q3,q4,q5,q6,qb⟩,q7,q8,q9,⟨r1,cl r2,r3⟩,fun i h1 h2=>?_,⟨qc,qd,qe,qf,q4,q5,qg,qh⟩,qi,⟨r5,cl qe,qh⟩,qj⟩
  have L:∀D∈[C2,C3,C4,C5,C6,C7,C8,C9,C10,C11,C12,C13,C14],Other K C1 D:=List.forall_mem_cons.mpr ⟨⟨n2,d2,t2⟩,List.forall_mem_cons.mpr ⟨⟨n3,d3,t3⟩,List.forall_mem_cons.mpr ⟨⟨n4,d4,t4⟩,List.forall_mem_cons.mpr ⟨⟨n5,d5,t5⟩,List.forall_mem_cons.mpr ⟨⟨n6,d6,t6⟩,List.forall_mem_cons.mpr ⟨⟨n7,d7,t7⟩,List.forall_mem_cons.mpr ⟨⟨n8,d8,t8⟩,List.forall_mem_cons.mpr ⟨⟨n9,d9,t9⟩,List.forall_mem_cons.mpr ⟨⟨n10,d10,t10⟩,List.forall_mem_cons.mpr ⟨⟨n11,d11,t11⟩,List.forall_mem_cons.mpr ⟨⟨n12,d12,t12⟩,List.forall_mem_cons.mpr ⟨⟨n13,d13,t13⟩,List.forall_mem_cons.mpr ⟨⟨n14,d14,t14⟩,fun _ h=>nomatch h⟩⟩⟩⟩⟩⟩⟩⟩⟩⟩⟩⟩⟩
  obtain ⟨j,rfl⟩:∃j,i=j + 2:=⟨i - 2,by omega⟩
  have hj:j < 13:=by omega
  show Other K C1 ([C2,C3,C4,C5,C6,C7,C8,C9,C10,C11,C12,C13,C14].getD j 0)
  rw [List.getD_eq_getElem?_getD,List.getElem?_eq_getElem (by exact hj)]
  exact L _ (List.getElem_mem _)
 refine ⟨PySem.W.fnOf "law" "law" (defArgs sLaw) (defBody sLaw) (defScope sLaw) .none kV34 dc34 pm34 an34 cd34 ct34,fun s v=>.of_eq rfl,fun base _ _ BM=>?_⟩
 have GW:=ok_whole (P:=l.prog) (w:=w) (mg:=mg) (base:=base) F0 B
 have GI:=ok_within (P:=l.prog) (w:=w) (mg:=mg) (base:=base) F1 GW (PySem.W.mg_of X G a0) k0 b0
 have GG:=ok_gcd (P:=l.prog) (w:=w) (mg:=mg) (base:=base) F6 B
 have GF:=ok_isF (P:=l.prog) (w:=w) (mg:=mg) (base:=base) F2 B GW (PySem.W.mg_of X G a0) k0 b0 GG (PySem.W.mg_of X G a6) k6 b6
 have GN:=ok_name (P:=l.prog) (w:=w) (mg:=mg) (base:=base) l4 c4 B CN4.ck BM (PySem.W.mg_of X G aLe) (PySem.W.mg_of X G aLo)
 have GL:=ok_letterG (P:=l.prog) (w:=w) (mg:=mg) (base:=base) F5 B GN (PySem.W.mg_of X G a4) k4 b4
 have GA:=ok_aboveG (P:=l.prog) (w:=w) (mg:=mg) (base:=base) F3 GF (PySem.W.mg_of X G a2) k2 b2
 have GR:=ok_rowG (P:=l.prog) (w:=w) (mg:=mg) (base:=base) F9 B GL (PySem.W.mg_of X G a5) k5 b5 GA (PySem.W.mg_of X G a3) k3 b3
 have GSi:=ok_signsG (P:=l.prog) (w:=w) (mg:=mg) (base:=base) l8 c8 B CN8.ck BM (PySem.W.mg_of X G aFe) (PySem.W.mg_of X G aMo) GR (PySem.W.mg_of X G a9) k9 b9
 have GSo:=ok_signsOfG (P:=l.prog) (w:=w) (mg:=mg) (base:=base) F11
 have GUl:=ok_unlikeG (P:=l.prog) (w:=w) (mg:=mg) (base:=base) F10 B
 have GLk:=ok_lookG (P:=l.prog) (w:=w) (mg:=mg) (base:=base) F7 B (PySem.W.mg_of X G aLw) (PySem.W.mg_of X G m3) IKt GSi (PySem.W.mg_of X G a8) k8 b8 GSo (PySem.W.mg_of X G a11) k11 b11 GUl (PySem.W.mg_of X G a10) k10 b10 GI (PySem.W.mg_of X G a1) k1 b1
 have GCd:=ok_called (P:=l.prog) (w:=w) (mg:=mg) (base:=base) F16 B
 have GCb:=ok_calls (P:=l.prog) (w:=w) (mg:=mg) (base:=base) l15 c15 B CN15.ck BM (PySem.W.mg_of X G m1) excB (PySem.W.mg_none_of X G zzi) GLk (PySem.W.mg_of X G a7) k7 b7 GSo (PySem.W.mg_of X G a11) k11 b11 GL (PySem.W.mg_of X G a5) k5 b5
 have GTt:=ok_tt (P:=l.prog) (w:=w) (mg:=mg) (base:=base) F12 GCb (PySem.W.mg_of X G a15) k15 b15 GCd (PySem.W.mg_of X G a16) k16 b16
 have GTx:=ok_tx (P:=l.prog) (w:=w) (mg:=mg) (base:=base) F13 GCb (PySem.W.mg_of X G a15) k15 b15 GCd (PySem.W.mg_of X G a16) k16 b16
 have GTb:=ok_tb (P:=l.prog) (w:=w) (mg:=mg) (base:=base) F14 GCb (PySem.W.mg_of X G a15) k15 b15 GCd (PySem.W.mg_of X G a16) k16 b16
 have GCe:=ok_cell (P:=l.prog) (w:=w) (mg:=mg) (base:=base) F17 B
 have GD:=ok_draws (P:=l.prog) (w:=w) (mg:=mg) (base:=base) F18 B
 have GLo:=ok_low (P:=l.prog) (w:=w) (mg:=mg) (base:=base) F19 B
 have GLt:=ok_letters (P:=l.prog) (w:=w) (mg:=mg) (base:=base) F20 B
 have GSg:=ok_sign (P:=l.prog) (w:=w) (mg:=mg) (base:=base) F21 B GD (PySem.W.mg_of X G a18) k18 b18 GLo (PySem.W.mg_of X G a19) k19 b19
 have GTo:=ok_tongue (P:=l.prog) (w:=w) (mg:=mg) (base:=base) F22 B GCe (PySem.W.mg_of X G a17) k17 b17 GD (PySem.W.mg_of X G a18) k18 b18 GLt (PySem.W.mg_of X G a20) k20 b20 GSg (PySem.W.mg_of X G a21) k21 b21
 have GCp:=ok_copyT (P:=l.prog) (w:=w) (mg:=mg) (base:=base) F24 B
 have GNt:=ok_noTurn (P:=l.prog) (w:=w) (mg:=mg) (base:=base) F23 B (PySem.W.mg_none_of X G zve) C
 have GLc:=ok_lcalled (P:=l.prog) (w:=w) (mg:=mg) (base:=base) F25 B
 have GDt:=ok_dtext (P:=l.prog) (w:=w) (mg:=mg) (base:=base) F26 B GD (PySem.W.mg_of X G a18) k18 b18
 have GDl:=ok_dletters (P:=l.prog) (w:=w) (mg:=mg) (base:=base) F27 B GD (PySem.W.mg_of X G a18) k18 b18 GLt (PySem.W.mg_of X G a20) k20 b20
 have GLu:=ok_lturned (P:=l.prog) (w:=w) (mg:=mg) (base:=base) F32 B GLc (PySem.W.mg_of X G a25) k25 b25
 have GNl:=ok_noLet (P:=l.prog) (w:=w) (mg:=mg) (base:=base) F28 B GD (PySem.W.mg_of X G a18) k18 b18
 have GRf:=ok_refused (P:=l.prog) (w:=w) (mg:=mg) (base:=base) F29 C rfl GTt (PySem.W.mg_of X G a12) k12 b12 GTx (PySem.W.mg_of X G a13) k13 b13 GTb (PySem.W.mg_of X G a14) k14 b14 GNt (PySem.W.mg_of X G a23) k23 b23
 have GNg:=ok_noTgs (P:=l.prog) (w:=w) (mg:=mg) (base:=base) F30 B
 have GPa:=ok_part (P:=l.prog) (w:=w) (mg:=mg) (base:=base) F31 C rfl GTt (PySem.W.mg_of X G a12) k12 b12 GTx (PySem.W.mg_of X G a13) k13 b13 GTb (PySem.W.mg_of X G a14) k14 b14
 have GBr:=ok_bright (P:=l.prog) (w:=w) (mg:=mg) (base:=base) F33 B GTx (PySem.W.mg_of X G a13) k13 b13 GTb (PySem.W.mg_of X G a14) k14 b14 GLc (PySem.W.mg_of X G a25) k25 b25
 exact ok_law F34 B GCe (PySem.W.mg_of X G a17) k17 b17 GD (PySem.W.mg_of X G a18) k18 b18 GTo (PySem.W.mg_of X G a22) k22 b22 GCp (PySem.W.mg_of X G a24) k24 b24 GDl (PySem.W.mg_of X G a27) k27 b27 GDt (PySem.W.mg_of X G a26) k26 b26 GTt (PySem.W.mg_of X G a12) k12 b12 GLu (PySem.W.mg_of X G a32) k32 b32 GBr (PySem.W.mg_of X G a33) k33 b33 GNl (PySem.W.mg_of X G a28) k28 b28 GRf (PySem.W.mg_of X G a29) k29 b29 GNg (PySem.W.mg_of X G a30) k30 b30 GPa (PySem.W.mg_of X G a31) k31 b31
theorem walk {l:PySem.W.OpenLaw} {q:Program} {loose:List Str} {XP:(Str→Option Value)→Heap→Prop} {YP:World→Heap→Prop} {d:DefRec} {K:Params→PySem.W.Frag} (hn:l.most=some 63) (hdf:d.params.defaults=[])
  (hY:∀(w:World) (h:Heap),YP w h→(K w.params).In h) (hf:HF q ["is_name","are_signs","calls_by"]) (hC:∀w:World,HC (K w.params) ["is_name","are_signs","calls_by"]) (hKT:∀w:World,HT0 (K w.params) ["is_name","are_signs","calls_by"])
  (F:∀(w:World) (mg:Str→Option Value) (fa:Addr) (h:Heap),(K w.params).In h→h.Ns mainGlobals mg→mg d.name=some (.ref fa)→
   ∃fd:FuncData,(∀(s:Shared) (u:Value),BindsTo s fd ⟨[u],[]⟩ [("_law_script",u)])∧∀base:Heap,(K w.params).In base→base.Ns mainGlobals mg→BmOf mg base→FnOk l.prog w (K w.params) mg base (CXE l.prog w) 11 fa fd ["_law_script"] (spLaw (tbOf (K w.params) "is_name") (tbOf (K w.params) "are_signs") (tbOf (K w.params) "calls_by") (K w.params))) :
  PySem.W.WalkO q loose XP YP l.row.toRowW d [] (fun f vs=>PySem.call f vs):=by
 refine L2.walk_ofN ["is_name","are_signs","calls_by"] (n:=63) (k:=11) (x:="_law_script") (CX:=fun w=>CXE l.prog w) (sp:=fun w=>spLaw (tbOf (K w.params) "is_name") (tbOf (K w.params) "are_signs") (tbOf (K w.params) "calls_by") (K w.params)) hn (by decide) hdf ⟨rfl,by decide,by decide⟩ hY hf hC hKT F ?_ fun _ _ _ _ _ z=>?_
 ·intro w H a ns hl hT hS
  exact ⟨a,ns,rfl,hS,hl,⟨#[],hT "is_name" (by simp),trivial⟩,⟨#[],hT "are_signs" (by simp),trivial⟩,⟨#[],hT "calls_by" (by simp),trivial⟩,fun _=>rfl⟩
 ·obtain ⟨_,_,_,_,_,_,_,_,_,_,_,_,z⟩:=z
  exact z
theorem walkF {l:PySem.W.OpenLaw} {q:Program} {loose:List Str} {XP:(Str→Option Value)→Heap→Prop} {d:DefRec} {K:Params→PySem.W.Frag} (hn:l.most=some 63) (hdf:d.params.defaults=[])
  (hf:HF q ["is_name","are_signs","calls_by"]) (hC:∀w:World,HC (filt (K w.params)) ["is_name","are_signs","calls_by"]) (hKT:∀w:World,HT0 (filt (K w.params)) ["is_name","are_signs","calls_by"])
  (F:∀(w:World) (mg:Str→Option Value) (fa:Addr) (h:Heap),(filt (K w.params)).In h→h.Ns mainGlobals mg→mg d.name=some (.ref fa)→
   ∃fd:FuncData,(∀(s:Shared) (u:Value),BindsTo s fd ⟨[u],[]⟩ [("_law_script",u)])∧∀base:Heap,(filt (K w.params)).In base→base.Ns mainGlobals mg→BmOf mg base→FnOk l.prog w (filt (K w.params)) mg base (CXE l.prog w) 11 fa fd ["_law_script"] (spLaw (tbOf (filt (K w.params)) "is_name") (tbOf (filt (K w.params)) "are_signs") (tbOf (filt (K w.params)) "calls_by") (filt (K w.params)))) :
  PySem.W.WalkO q loose XP (fun w h=>(filt (K w.params)).In h) l.row.toRowW d [] (fun f vs=>PySem.call f vs):=
 walk (K:=fun P=>filt (K P)) hn hdf (fun w h Y=>Y) hf hC hKT F
end G1
open PySem PySem.W PyProof.Rows
local macro_rules | `(tactic| refine $t) => `(tactic| (refine' $t; try (case hl => exact HD.left_cut HP.e1 (by kernel_rfl) HP.e2 HP.pre HP.blk HP.body HP.chain (by kernel_rfl) HP.look1 (fun w => by kernel_rfl) (fun w => by kernel_rfl))))
set_option maxRecDepth 100000 in
set_option maxHeartbeats 0 in
theorem PySem.Challenge.cw_dearsigns_k57_letters_holds : PySem.Challenge.rw_dearsigns_k57_letters.Holds := by
 w_on; o_law; z_head; (case hw=>w_witness2)
 k_fill
 refine L2.walkX_of (fun _=>by kernel_rfl) (G1.walkF (l:=PySem.Challenge.rw_dearsigns_k57_letters) rfl rfl ⟨⟨_,rfl⟩,⟨_,rfl⟩,⟨_,rfl⟩,trivial⟩ ?C ?KT ?F)
 case C=>
  intro w
  refine' ⟨⟨_,_,_,_,L2.codeN_mk ?x0_a ?x0_l ?x0_hc ?x0_lc ?x0_h11 ?x0_h18 ?x0_h7 ?x0_h9 ?x0_h10 ?x0_ne⟩,⟨_,_,_,_,L2.codeN_mk ?x1_a ?x1_l ?x1_hc ?x1_lc ?x1_h11 ?x1_h18 ?x1_h7 ?x1_h9 ?x1_h10 ?x1_ne⟩,⟨_,_,_,_,L2.codeN_mk ?x2_a ?x2_l ?x2_hc ?x2_lc ?x2_h11 ?x2_h18 ?x2_h7 ?x2_h9 ?x2_h10 ?x2_ne⟩,trivial⟩
  (case x0_a=>refine L2.filt_ns ?_; k_is)
  (case x0_l=>refine L2.filt_look ?zz1 ?zz2; (case zz1=>k_is); (case zz2=>rfl))
  (case x0_hc=>rfl)
  (case x0_lc=>refine L2.filt_look ?zz1 ?zz2; (case zz1=>k_is); (case zz2=>rfl))
  (case x0_h11=>rfl)
  (case x0_h18=>rfl)
  (case x0_h7=>rfl)
  (case x0_h9=>rfl)
  (case x0_h10=>rfl)
  (case x0_ne=>decide)
  (case x1_a=>refine L2.filt_ns ?_; k_is)
  (case x1_l=>refine L2.filt_look ?zz1 ?zz2; (case zz1=>k_is); (case zz2=>rfl))
  (case x1_hc=>rfl)
  (case x1_lc=>refine L2.filt_look ?zz1 ?zz2; (case zz1=>k_is); (case zz2=>rfl))
  (case x1_h11=>rfl)
  (case x1_h18=>rfl)
  (case x1_h7=>rfl)
  (case x1_h9=>rfl)
  (case x1_h10=>rfl)
  (case x1_ne=>decide)
  (case x2_a=>refine L2.filt_ns ?_; k_is)
  (case x2_l=>refine L2.filt_look ?zz1 ?zz2; (case zz1=>k_is); (case zz2=>rfl))
  (case x2_hc=>rfl)
  (case x2_lc=>refine L2.filt_look ?zz1 ?zz2; (case zz1=>k_is); (case zz2=>rfl))
  (case x2_h11=>rfl)
  (case x2_h18=>rfl)
  (case x2_h7=>rfl)
  (case x2_h9=>rfl)
  (case x2_h10=>rfl)
  (case x2_ne=>decide)
 case KT=>
  intro w
  exact ⟨by kernel_rfl,by kernel_rfl,by kernel_rfl,trivial⟩
 case F=>
  intro w mg fa h KX G hmg
  refine' G1.all_mk KX G hmg (L2.codeN_mk ?y0_a ?y0_l ?y0_hc ?y0_lc ?y0_h11 ?y0_h18 ?y0_h7 ?y0_h9 ?y0_h10 ?y0_ne) (L2.codeN_mk ?y1_a ?y1_l ?y1_hc ?y1_lc ?y1_h11 ?y1_h18 ?y1_h7 ?y1_h9 ?y1_h10 ?y1_ne) (L2.codeN_mk ?y2_a ?y2_l ?y2_hc ?y2_lc ?y2_h11 ?y2_h18 ?y2_h7 ?y2_h9 ?y2_h10 ?y2_ne) ?a0 ?l0 ?c0 ?a1 ?l1 ?c1 ?a2 ?l2 ?c2 ?a3 ?l3 ?c3 ?a4 ?l4 ?c4 ?a5 ?l5 ?c5 ?a6 ?l6 ?c6 ?a7 ?l7 ?c7 ?a8 ?l8 ?c8 ?a9 ?l9 ?c9 ?a10 ?l10 ?c10 ?a11 ?l11 ?c11 ?a12 ?l12 ?c12 ?a13 ?l13 ?c13 ?a14 ?l14 ?c14 ?a15 ?l15 ?c15 ?a16 ?l16 ?c16 ?a17 ?l17 ?c17 ?a18 ?l18 ?c18 ?a19 ?l19 ?c19 ?a20 ?l20 ?c20 ?a21 ?l21 ?c21 ?a22 ?l22 ?c22 ?a23 ?l23 ?c23 ?a24 ?l24 ?c24 ?a25 ?l25 ?c25 ?a26 ?l26 ?c26 ?a27 ?l27 ?c27 ?a28 ?l28 ?c28 ?a29 ?l29 ?c29 ?a30 ?l30 ?c30 ?a31 ?l31 ?c31 ?a32 ?l32 ?c32 ?a33 ?l33 ?c33 ?a34 ?l34 ?c34 ?aLe ?aLo ?aFe ?aMo ?aLw ?m0 ?m1 ?m2 ?m3 ?m4 ?m5 ?m6 ?m7 ?m8 ?m9 ?m10 ?m11 ?m12 ?m13 ?m14 ?q1 ?q0 ?q2 ?q3 ?q6 ?qb ?q7 ?q4 ?q5 ?q8 ?q9 ?r1 ?r2 ?r3 ?n2 ?d2 ?t2 ?n3 ?d3 ?t3 ?n4 ?d4 ?t4 ?n5 ?d5 ?t5 ?n6 ?d6 ?t6 ?n7 ?d7 ?t7 ?n8 ?d8 ?t8 ?n9 ?d9 ?t9 ?n10 ?d10 ?t10 ?n11 ?d11 ?t11 ?n12 ?d12 ?t12 ?n13 ?d13 ?t13 ?n14 ?d14 ?t14 ?excB ?qc ?qd ?qe ?qf ?qg ?qh ?qi ?r5 ?qj ?IKtf ?IKt ?zzi ?zve ?z_isi ?z_int ?z_bool ?z_tuple ?z_abs ?z_len ?z_enum ?z_str ?z_range ?z_max ?z_all ?z_set ?z_list ?z_min
  (case y0_a=>refine L2.filt_ns ?_; k_is)
  (case y0_l=>refine L2.filt_look ?zz1 ?zz2; (case zz1=>k_is); (case zz2=>rfl))
  (case y0_hc=>rfl)
  (case y0_lc=>refine L2.filt_look ?zz1 ?zz2; (case zz1=>k_is); (case zz2=>rfl))
  (case y0_h11=>rfl)
  (case y0_h18=>rfl)
  (case y0_h7=>rfl)
  (case y0_h9=>rfl)
  (case y0_h10=>rfl)
  (case y0_ne=>decide)
  (case y1_a=>refine L2.filt_ns ?_; k_is)
  (case y1_l=>refine L2.filt_look ?zz1 ?zz2; (case zz1=>k_is); (case zz2=>rfl))
  (case y1_hc=>rfl)
  (case y1_lc=>refine L2.filt_look ?zz1 ?zz2; (case zz1=>k_is); (case zz2=>rfl))
  (case y1_h11=>rfl)
  (case y1_h18=>rfl)
  (case y1_h7=>rfl)
  (case y1_h9=>rfl)
  (case y1_h10=>rfl)
  (case y1_ne=>decide)
  (case y2_a=>refine L2.filt_ns ?_; k_is)
  (case y2_l=>refine L2.filt_look ?zz1 ?zz2; (case zz1=>k_is); (case zz2=>rfl))
  (case y2_hc=>rfl)
  (case y2_lc=>refine L2.filt_look ?zz1 ?zz2; (case zz1=>k_is); (case zz2=>rfl))
  (case y2_h11=>rfl)
  (case y2_h18=>rfl)
  (case y2_h7=>rfl)
  (case y2_h9=>rfl)
  (case y2_h10=>rfl)
  (case y2_ne=>decide)
  (case a0=>refine L2.filt_ns ?_; k_is)
  (case l0=>refine L2.filt_look ?zz1 ?zz2; (case zz1=>k_is); (case zz2=>rfl))
  (case c0=>refine L2.filt_code ?_; k_is)
  (case a1=>refine L2.filt_ns ?_; k_is)
  (case l1=>refine L2.filt_look ?zz1 ?zz2; (case zz1=>k_is); (case zz2=>rfl))
  (case c1=>refine L2.filt_code ?_; k_is)
  (case a2=>refine L2.filt_ns ?_; k_is)
  (case l2=>refine L2.filt_look ?zz1 ?zz2; (case zz1=>k_is); (case zz2=>rfl))
  (case c2=>refine L2.filt_code ?_; k_is)
  (case a3=>refine L2.filt_ns ?_; k_is)
  (case l3=>refine L2.filt_look ?zz1 ?zz2; (case zz1=>k_is); (case zz2=>rfl))
  (case c3=>refine L2.filt_code ?_; k_is)
  (case a4=>refine L2.filt_ns ?_; k_is)
  (case l4=>refine L2.filt_look ?zz1 ?zz2; (case zz1=>k_is); (case zz2=>rfl))
  (case c4=>refine L2.filt_code ?_; k_is)
  (case a5=>refine L2.filt_ns ?_; k_is)
  (case l5=>refine L2.filt_look ?zz1 ?zz2; (case zz1=>k_is); (case zz2=>rfl))
  (case c5=>refine L2.filt_code ?_; k_is)
  (case a6=>refine L2.filt_ns ?_; k_is)
  (case l6=>refine L2.filt_look ?zz1 ?zz2; (case zz1=>k_is); (case zz2=>rfl))
  (case c6=>refine L2.filt_code ?_; k_is)
  (case a7=>refine L2.filt_ns ?_; k_is)
  (case l7=>refine L2.filt_look ?zz1 ?zz2; (case zz1=>k_is); (case zz2=>rfl))
  (case c7=>refine L2.filt_code ?_; k_is)
  (case a8=>refine L2.filt_ns ?_; k_is)
  (case l8=>refine L2.filt_look ?zz1 ?zz2; (case zz1=>k_is); (case zz2=>rfl))
  (case c8=>refine L2.filt_code ?_; k_is)
  (case a9=>refine L2.filt_ns ?_; k_is)
  (case l9=>refine L2.filt_look ?zz1 ?zz2; (case zz1=>k_is); (case zz2=>rfl))
  (case c9=>refine L2.filt_code ?_; k_is)
  (case a10=>refine L2.filt_ns ?_; k_is)
  (case l10=>refine L2.filt_look ?zz1 ?zz2; (case zz1=>k_is); (case zz2=>rfl))
  (case c10=>refine L2.filt_code ?_; k_is)
  (case a11=>refine L2.filt_ns ?_; k_is)
  (case l11=>refine L2.filt_look ?zz1 ?zz2; (case zz1=>k_is); (case zz2=>rfl))
  (case c11=>refine L2.filt_code ?_; k_is)
  (case a12=>refine L2.filt_ns ?_; k_is)
  (case l12=>refine L2.filt_look ?zz1 ?zz2; (case zz1=>k_is); (case zz2=>rfl))
  (case c12=>refine L2.filt_code ?_; k_is)
  (case a13=>refine L2.filt_ns ?_; k_is)
  (case l13=>refine L2.filt_look ?zz1 ?zz2; (case zz1=>k_is); (case zz2=>rfl))
  (case c13=>refine L2.filt_code ?_; k_is)
  (case a14=>refine L2.filt_ns ?_; k_is)
  (case l14=>refine L2.filt_look ?zz1 ?zz2; (case zz1=>k_is); (case zz2=>rfl))
  (case c14=>refine L2.filt_code ?_; k_is)
  (case a15=>refine L2.filt_ns ?_; k_is)
  (case l15=>refine L2.filt_look ?zz1 ?zz2; (case zz1=>k_is); (case zz2=>rfl))
  (case c15=>refine L2.filt_code ?_; k_is)
  (case a16=>refine L2.filt_ns ?_; k_is)
  (case l16=>refine L2.filt_look ?zz1 ?zz2; (case zz1=>k_is); (case zz2=>rfl))
  (case c16=>refine L2.filt_code ?_; k_is)
  (case a17=>refine L2.filt_ns ?_; k_is)
  (case l17=>refine L2.filt_look ?zz1 ?zz2; (case zz1=>k_is); (case zz2=>rfl))
  (case c17=>refine L2.filt_code ?_; k_is)
  (case a18=>refine L2.filt_ns ?_; k_is)
  (case l18=>refine L2.filt_look ?zz1 ?zz2; (case zz1=>k_is); (case zz2=>rfl))
  (case c18=>refine L2.filt_code ?_; k_is)
  (case a19=>refine L2.filt_ns ?_; k_is)
  (case l19=>refine L2.filt_look ?zz1 ?zz2; (case zz1=>k_is); (case zz2=>rfl))
  (case c19=>refine L2.filt_code ?_; k_is)
  (case a20=>refine L2.filt_ns ?_; k_is)
  (case l20=>refine L2.filt_look ?zz1 ?zz2; (case zz1=>k_is); (case zz2=>rfl))
  (case c20=>refine L2.filt_code ?_; k_is)
  (case a21=>refine L2.filt_ns ?_; k_is)
  (case l21=>refine L2.filt_look ?zz1 ?zz2; (case zz1=>k_is); (case zz2=>rfl))
  (case c21=>refine L2.filt_code ?_; k_is)
  (case a22=>refine L2.filt_ns ?_; k_is)
  (case l22=>refine L2.filt_look ?zz1 ?zz2; (case zz1=>k_is); (case zz2=>rfl))
  (case c22=>refine L2.filt_code ?_; k_is)
  (case a23=>refine L2.filt_ns ?_; k_is)
  (case l23=>refine L2.filt_look ?zz1 ?zz2; (case zz1=>k_is); (case zz2=>rfl))
  (case c23=>refine L2.filt_code ?_; k_is)
  (case a24=>refine L2.filt_ns ?_; k_is)
  (case l24=>refine L2.filt_look ?zz1 ?zz2; (case zz1=>k_is); (case zz2=>rfl))
  (case c24=>refine L2.filt_code ?_; k_is)
  (case a25=>refine L2.filt_ns ?_; k_is)
  (case l25=>refine L2.filt_look ?zz1 ?zz2; (case zz1=>k_is); (case zz2=>rfl))
  (case c25=>refine L2.filt_code ?_; k_is)
  (case a26=>refine L2.filt_ns ?_; k_is)
  (case l26=>refine L2.filt_look ?zz1 ?zz2; (case zz1=>k_is); (case zz2=>rfl))
  (case c26=>refine L2.filt_code ?_; k_is)
  (case a27=>refine L2.filt_ns ?_; k_is)
  (case l27=>refine L2.filt_look ?zz1 ?zz2; (case zz1=>k_is); (case zz2=>rfl))
  (case c27=>refine L2.filt_code ?_; k_is)
  (case a28=>refine L2.filt_ns ?_; k_is)
  (case l28=>refine L2.filt_look ?zz1 ?zz2; (case zz1=>k_is); (case zz2=>rfl))
  (case c28=>refine L2.filt_code ?_; k_is)
  (case a29=>refine L2.filt_ns ?_; k_is)
  (case l29=>refine L2.filt_look ?zz1 ?zz2; (case zz1=>k_is); (case zz2=>rfl))
  (case c29=>refine L2.filt_code ?_; k_is)
  (case a30=>refine L2.filt_ns ?_; k_is)
  (case l30=>refine L2.filt_look ?zz1 ?zz2; (case zz1=>k_is); (case zz2=>rfl))
  (case c30=>refine L2.filt_code ?_; k_is)
  (case a31=>refine L2.filt_ns ?_; k_is)
  (case l31=>refine L2.filt_look ?zz1 ?zz2; (case zz1=>k_is); (case zz2=>rfl))
  (case c31=>refine L2.filt_code ?_; k_is)
  (case a32=>refine L2.filt_ns ?_; k_is)
  (case l32=>refine L2.filt_look ?zz1 ?zz2; (case zz1=>k_is); (case zz2=>rfl))
  (case c32=>refine L2.filt_code ?_; k_is)
  (case a33=>refine L2.filt_ns ?_; k_is)
  (case l33=>refine L2.filt_look ?zz1 ?zz2; (case zz1=>k_is); (case zz2=>rfl))
  (case c33=>refine L2.filt_code ?_; k_is)
  (case a34=>refine L2.filt_ns ?_; k_is)
  (case l34=>refine L2.filt_look ?zz1 ?zz2; (case zz1=>k_is); (case zz2=>rfl))
  (case c34=>refine L2.filt_code ?_; k_is)
  (case aLe=>refine L2.filt_ns ?_; k_is)
  (case aLo=>refine L2.filt_ns ?_; k_is)
  (case aFe=>refine L2.filt_ns ?_; k_is)
  (case aMo=>refine L2.filt_ns ?_; k_is)
  (case aLw=>refine L2.filt_ns ?_; k_is)
  (case m0=>refine L2.filt_ns ?_; k_is)
  (case m1=>refine L2.filt_ns ?_; k_is)
  (case m2=>refine L2.filt_ns ?_; k_is)
  (case m3=>refine L2.filt_ns ?_; k_is)
  (case m4=>refine L2.filt_ns ?_; k_is)
  (case m5=>refine L2.filt_ns ?_; k_is)
  (case m6=>refine L2.filt_ns ?_; k_is)
  (case m7=>refine L2.filt_ns ?_; k_is)
  (case m8=>refine L2.filt_ns ?_; k_is)
  (case m9=>refine L2.filt_ns ?_; k_is)
  (case m10=>refine L2.filt_ns ?_; k_is)
  (case m11=>refine L2.filt_ns ?_; k_is)
  (case m12=>refine L2.filt_ns ?_; k_is)
  (case m13=>refine L2.filt_ns ?_; k_is)
  (case m14=>refine L2.filt_ns ?_; k_is)
  (case q1=>kernel_rfl)
  (case q0=>kernel_rfl)
  (case q2=>kernel_rfl)
  (case q3=>kernel_rfl)
  (case q6=>kernel_rfl)
  (case qb=>kernel_rfl)
  (case q7=>kernel_rfl)
  (case q4=>kernel_rfl)
  (case q5=>kernel_rfl)
  (case q8=>kernel_rfl)
  (case q9=>kernel_rfl)
  (case r1=>kernel_rfl)
  (case r2=>kernel_rfl)
  (case r3=>kernel_rfl)
  (case n2=>kernel_rfl)
  (case d2=>kernel_rfl)
  (case t2=>kernel_rfl)
  (case n3=>kernel_rfl)
  (case d3=>kernel_rfl)
  (case t3=>kernel_rfl)
  (case n4=>kernel_rfl)
  (case d4=>kernel_rfl)
  (case t4=>kernel_rfl)
  (case n5=>kernel_rfl)
  (case d5=>kernel_rfl)
  (case t5=>kernel_rfl)
  (case n6=>kernel_rfl)
  (case d6=>kernel_rfl)
  (case t6=>kernel_rfl)
  (case n7=>kernel_rfl)
  (case d7=>kernel_rfl)
  (case t7=>kernel_rfl)
  (case n8=>kernel_rfl)
  (case d8=>kernel_rfl)
  (case t8=>kernel_rfl)
  (case n9=>kernel_rfl)
  (case d9=>kernel_rfl)
  (case t9=>kernel_rfl)
  (case n10=>kernel_rfl)
  (case d10=>kernel_rfl)
  (case t10=>kernel_rfl)
  (case n11=>kernel_rfl)
  (case d11=>kernel_rfl)
  (case t11=>kernel_rfl)
  (case n12=>kernel_rfl)
  (case d12=>kernel_rfl)
  (case t12=>kernel_rfl)
  (case n13=>kernel_rfl)
  (case d13=>kernel_rfl)
  (case t13=>kernel_rfl)
  (case n14=>kernel_rfl)
  (case d14=>kernel_rfl)
  (case t14=>kernel_rfl)
  (case excB=>kernel_rfl)
  (case qc=>kernel_rfl)
  (case qd=>kernel_rfl)
  (case qe=>kernel_rfl)
  (case qf=>kernel_rfl)
  (case qg=>kernel_rfl)
  (case qh=>kernel_rfl)
  (case qi=>kernel_rfl)
  (case r5=>kernel_rfl)
  (case qj=>kernel_rfl)
  (case IKtf=>refine L2.filt_find ?_; k_is)
  (case IKt=>(refine' L2.initK_mk ?IKt_lC ?IKt_tl ?IKt_no ?IKt_ni ?IKt_lf ?IKt_cq ?IKt_hb ?IKt_hbi ?IKt_hXs ?IKt_hce ?IKt_h1 ?IKt_hX2 ?IKt_h3 ?IKt_h4 ?IKt_g1 ?IKt_g2 ?IKt_g3 ?IKt_hcl ?IKt_hpa ?IKt_har ?IKt_hcd ?IKt_lc2 ?IKt_hc4 ?IKt_hfi ?IKt_hns ?IKt_hgl ?IKt_hbl ?IKt_gs ?IKt_lcc ?IKt_m1 ?IKt_m2 ?IKt_op ?IKt_hline ?IKt_hin ?IKt_hsw ?IKt_hs ?IKt_hp ?IKt_ht ?IKt_hh ?IKt_hdb ?IKt_hml; (case IKt_lf=>refine L2.filt_look ?zz1 ?zz2; (case zz1=>k_is); (case zz2=>rfl)); (case IKt_lC=>refine L2.filt_look ?zz1 ?zz2; (case zz1=>k_is); (case zz2=>rfl)); (case IKt_ni=>refine L2.filt_ns ?_; k_is); (case IKt_tl=>kernel_rfl); (case IKt_no=>kernel_rfl); (case IKt_cq=>refine L2.filt_code ?_; first | k_is | kernel_rfl); (case IKt_hb=>rfl); (case IKt_hbi=>exact fun s e u=>.of_eq rfl); (case IKt_hXs=>decide); (case IKt_hce=>decide); (case IKt_h1=>rfl); (case IKt_hX2=>rfl); (case IKt_h3=>rfl); (case IKt_h4=>rfl); (case IKt_g1=>rfl); (case IKt_g2=>rfl); (case IKt_g3=>rfl); (case IKt_hcl=>rfl); (case IKt_hpa=>rfl); (case IKt_har=>rfl); (case IKt_hcd=>rfl); (case IKt_lc2=>refine L2.filt_look ?zz1 ?zz2; (case zz1=>k_is); (case zz2=>rfl)); (case IKt_hc4=>rfl); (case IKt_hfi=>decide +kernel); (case IKt_hns=>decide +kernel); (case IKt_hgl=>rfl); (case IKt_hbl=>rfl); (case IKt_gs=>refine L2.filt_ns ?_; k_is); (case IKt_lcc=>refine L2.filt_look ?zz1 ?zz2; (case zz1=>k_is); (case zz2=>rfl)); (case IKt_m1=>kernel_rfl); (case IKt_m2=>kernel_rfl); (case IKt_op=>refine L2.filt_ns ?_; k_is); (case IKt_hline=>rfl); (case IKt_hin=>exact fun L=>rfl); (case IKt_hsw=>exact fun L=>rfl); (case IKt_hs=>kernel_rfl); (case IKt_hp=>kernel_rfl); (case IKt_ht=>kernel_rfl); (case IKt_hh=>kernel_rfl); (case IKt_hdb=>decide); (case IKt_hml=>decide)))
  (case zzi=>refine L2.filt_ns ?_; k_is)
  (case zve=>refine L2.filt_ns ?_; k_is)
  (case z_isi=>refine L2.filt_ns ?_; k_is)
  (case z_int=>refine L2.filt_ns ?_; k_is)
  (case z_bool=>refine L2.filt_ns ?_; k_is)
  (case z_tuple=>refine L2.filt_ns ?_; k_is)
  (case z_abs=>refine L2.filt_ns ?_; k_is)
  (case z_len=>refine L2.filt_ns ?_; k_is)
  (case z_enum=>refine L2.filt_ns ?_; k_is)
  (case z_str=>refine L2.filt_ns ?_; k_is)
  (case z_range=>refine L2.filt_ns ?_; k_is)
  (case z_max=>refine L2.filt_ns ?_; k_is)
  (case z_all=>refine L2.filt_ns ?_; k_is)
  (case z_set=>refine L2.filt_ns ?_; k_is)
  (case z_list=>refine L2.filt_ns ?_; k_is)
  (case z_min=>refine L2.filt_ns ?_; k_is)
