import PyProof.Rows.All
import Wide.All
import OpenK.AllK
import Wide.FinOn
import PyProof.EqAt
import PyProof.EqKinds
import PyProof.TupleCall
import Lean
import PyProof.NeKinds
import PyProof.NeData
import PyProof.FactsAll.dict
import PyProof.EnumFor
import PyProof.EnumMake
import PyProof.EnumStmt
import PyProof.Draws
import PyProof.TupleIter
import PyProof.ZipIter
import PyProof.Rows.FactsT2
import PyProof.DictUpdate
import PyProof.ListRange
import KE.KRevIter
import PyProof.ExcClass3
import PyProof.ExcAttrAll.ValueError
import PyProof.InstStoreFacts
import PyProof.RulesAs
import PyProof.StationsW
import OpenK.KDescr
import KE.KIsAll
import PyProof.EnumIter
import PyProof.AttrMiss
import PyProof.IsiBase
import PyProof.FactsAll.enumerate
import KE.KDictOf
import PyProof.StrOps2
import PyProof.FitsBits
import PyProof.Rows.IntMath
import PyProof.IsiPairs
import PyProof.IsiHeapPairs
import PyProof.IsiNone
import PySem.Challenge.RW_eachstepsame_k27_beginnings_refused
set_option maxRecDepth 100000
set_option maxHeartbeats 0
set_option Elab.async false
set_option linter.all false
noncomputable def PySem.W.Fast.tw9426274577428465108:PySem.Program:=PySem.Challenge.pw_eachstepsame_k27_beginnings_refused
theorem PySem.W.Fast.te9426274577428465108:PySem.Challenge.pw_eachstepsame_k27_beginnings_refused=PySem.W.Fast.tw9426274577428465108:=rfl
namespace Op
open PySem PySem.W PyProof.Rows PySem.Calls
noncomputable section
noncomputable def de(P:Params)(k:Str)(t:Nat)(v:Value):DictEntry:=⟨PyData.keyHash P k,.str k t,v⟩
noncomputable def tu(l:List Value):Obj:=⟨.type "tuple",none,.seq ⟨l⟩ 0,⟨[]⟩⟩
noncomputable def co(l:List Value):Obj:=⟨.type "code",none,.fields ⟨l⟩,⟨[]⟩⟩
noncomputable def ob(c:Value)(d:Data):Obj:=⟨c,none,d,⟨[]⟩⟩
noncomputable def at_:List Stmt→Nat→Stmt
 |[],_=> .Pass ⟨0,0,0,0⟩
 |s::_,0=>s
 |_::l,n+1=>at_ l n
noncomputable def inC:Stmt→List Stmt
 | .ClassDef _ _ _ b .. =>b
 |_=>[]
noncomputable def fd(s:Stmt)(qn:Str)(g:Nat)(cl:List (Str×Nat))(df kd dc pm:Value)(an:Option Nat)(cd ct:Value)(bl:Nat):Data:=match s with
 | .FunctionDef n a b _ _ _ sc _ _ _=> .func ⟨n,qn,a,.stmts b,sc,g,cl,df,kd,dc,pm,an,cd,ct,bl⟩
 |_=> .plain
noncomputable def body:List Stmt:=PySem.Challenge.pw_eachstepsame_k27_beginnings_refused.main.body
def q:Program:={PySem.Challenge.pw_eachstepsame_k27_beginnings_refused with main:={PySem.Challenge.pw_eachstepsame_k27_beginnings_refused.main with body:=((((((((body.eraseIdx 47).eraseIdx 43).eraseIdx 41).eraseIdx 35).eraseIdx 25).eraseIdx 17).eraseIdx 12).eraseIdx 1)}}
def t0:Obj:=tu []
def dr(P:Params)(k:Str)(t r:Nat):DictEntry:=de P k t (.ref r)
def ds(P:Params)(k:Str)(t:Nat)(x:Str)(u:Nat):DictEntry:=de P k t (.str x u)
def dc(n:Nat)(l:List DictEntry):Obj:=ob (.type "dict") (.dict ⟨l⟩ n)
noncomputable def lf(o:Obj):BT:= .node o .nil .nil
def n7(a b c d e f g:Obj):BT:= .node a (.node b (lf c) (lf d)) (.node e (lf f) (lf g))
def H0(a:Str)(b:Nat)(c:Int)(d:Nat)(e:Int):Obj:=co [(.str a b),(.str a (b+1)),(.str "/claim/cut.py" (b+2)),(.int c 0),(.int 0 0),(.int 0 0),(.int 0 0),(.int 0 0),(.ref d),(.bool false),(.int 181 0),(.ref (d+1)),.none,.none,.none,.none,(.int e 0),(.int c 0),(.str "/claim/cut.py" (b+4))]
noncomputable def H1(a:Nat)(b:Nat)(c:Str)(d:Nat):Obj:=⟨(.type "frame"),none,.plain,⟨[(some (.ref a)),(some (.ref 3)),(some (.ref b)),none,(some (.str c d)),none,(some (.ref 0))]⟩⟩
def H2(a:Str)(b:Nat):Obj:=tu [(.str a b)]
def H3(a:Nat)(b:Str):Obj:=ob .none (fd (at_ body a) b 0 [] .none .none .none .none none .none .none 0)
def H4(a:Str)(b:Nat)(c:Str)(d:Int)(e:Int)(f:Nat)(g:Int)(h:Nat):Obj:=co [(.str a b),(.str c (b+1)),(.str "/claim/cut.py" (b+2)),(.int d 0),(.int e 0),(.int 0 0),(.int 0 0),(.int 3 0),(.ref f),(.bool true),(.int 181 0),(.ref (f+1)),.none,(.ref (f+2)),(.ref (f+3)),(.ref (f+4)),(.int g 0),(.int d 0),(.str "/claim/cut.py" h)]
def H5(a:Nat)(b:Str)(c:Str)(d:Nat)(e:Nat):Obj:=ob (.type "function") (fd (at_ body a) b 3 [] .none .none .none (.str c d) none (.ref e) .none 0)
def H6(a:Str)(b:Nat)(c:Str)(d:Str)(e:Str)(f:Str):Obj:=tu [(.str a b),(.str c (b+1)),(.str d (b+2)),(.str e (b+3)),(.str f (b+4))]
def H7(a:Nat)(b:Nat)(c:Str):Obj:=ob .none (fd (at_ (inC (at_ body a)) b) c 0 [] .none .none .none .none none .none .none 0)
def H8(a:Nat)(b:Nat)(c:Str)(d:Str)(e:Nat)(f:Nat):Obj:=ob (.type "function") (fd (at_ (inC (at_ body a)) b) c 3 [] .none .none .none (.str d e) none (.ref f) .none 0)
def H9(a:Str)(b:Nat)(c:Str)(d:Str):Obj:=tu [(.str a b),(.str c (b+1)),(.str d (b+2))]
def H10(a:Str)(b:Nat)(c:Str)(d:Str)(e:Str):Obj:=tu [(.str a b),(.str c (b+1)),(.str d (b+2)),(.str e (b+3))]
noncomputable def H11(a:Str)(b:Nat)(c:Nat)(d:Nat):Obj:=⟨(.type "type"),none,(.cls ⟨a,[(.type "object")],[(.ref b),(.type "object")],c,a,true,[],[],false,none,false⟩),⟨[none,none,(some (.str a d)),(some (.str a (d+8))),(some (.builtin "object.__new__")),(some (.bool true))]⟩⟩
def H12(a:Nat)(b:Nat):Obj:=ob (.type "getset_descriptor") (.fields ⟨[(.str "__dict__" a),(.ref b),(.builtin "function.__dict__"),(.builtin "function.__dict__#set")]⟩)
def H13(a:Nat)(b:Nat):Obj:=ob (.type "getset_descriptor") (.fields ⟨[(.str "__weakref__" a),(.ref b),(.builtin "ExceptionGroup.__weakref__"),.none]⟩)
def H14(a:Nat):Obj:=ob (.type "super") (.fields ⟨[(.ref a),(.ref a),(.ref a)]⟩)
def H15(a:Nat):Obj:=ob (.type "builtin_function_or_method") (.fields ⟨[(.builtin "object.__init_subclass__"),(.ref a)]⟩)
def H16(P:Params)(a:Nat)(b:Str)(c:Nat)(d:Str)(e:Int)(f:Str)(g:Nat)(h:Nat)(i:Str)(j:Nat)(k:Str)(l:Nat)(m:Nat)(n:Str)(o:Nat)(p:Nat):Obj:=dc 8 [(ds P "__module__" a b c),(ds P "__qualname__" (a+2) d (a+1)),(de P "__firstlineno__" (a+4) (.int e (a+3))),(dr P f g h),(dr P i j (h+7)),(dr P k l m),(dr P n o (m+7)),(dr P "__static_attributes__" p (m+8))]
def H17(a:Int)(b:Nat)(c:Int)(d:Int)(e:Nat)(f:Int):Obj:=ob .none (.fields ⟨[(.int a 0),(.int 4 0),(.ref b),(.int c 0),(.int 4 0),(.ref (b+7)),(.int d 0),(.int 4 0),(.ref e),(.int f 0),(.int 4 0),(.ref (e+7))]⟩)
def H18(a:Str)(b:Nat)(c:Str):Obj:=tu [(.str a b),(.str c (b+1))]
def H19(P:Params)(a:Nat)(b:Nat)(c:Int)(d:Str)(e:Nat)(f:Nat)(g:Str)(h:Nat)(i:Str)(j:Nat)(k:Nat)(l:Str)(m:Str)(n:Nat)(o:Nat)(p:Str)(q:Nat)(r:Nat)(s:Str)(t:Nat):Obj:=dc a [(ds P "__module__" b "eachstepsame.blocks" 194),(de P "__firstlineno__" (b+4) (.int c (b+3))),(dr P d e f),(dr P g h (f+7)),(dr P i j k),(dr P l (j+7) (k+7)),(dr P m n o),(dr P p q r),(dr P s t (r+1)),(de P "__doc__" (t+1) .none)]
noncomputable def H20(a:Str)(b:Nat)(c:Nat)(d:Nat)(e:Nat):Obj:=⟨(.type "type"),none,(.cls ⟨a,[(.ref 94)],[(.ref b),(.ref 94),(.type "object")],c,a,true,[],[],false,none,false⟩),⟨[(some (.ref d)),none,(some (.str a e)),(some (.str a (e+8))),(some (.builtin "object.__new__")),(some (.bool true))]⟩⟩
def H21(P:Params)(a:Nat)(b:Str)(c:Nat)(d:Str)(e:Int)(f:Nat)(g:Nat)(h:Str)(i:Str)(j:Nat)(k:Str)(l:Nat)(m:Str)(n:Str)(o:Nat):Obj:=dc 10 [(ds P "__module__" a b c),(ds P "__qualname__" (a+2) d (a+1)),(de P "__firstlineno__" (a+4) (.int e (a+3))),(dr P "__init__" f g),(dr P h (f+7) (g+7)),(dr P i j (g+14)),(dr P k l (g+21)),(dr P m (l+8) (g+28)),(dr P n (f+38) (g+35)),(dr P "__static_attributes__" o (g+36))]
def H22(a:Int)(b:Nat)(c:Int)(d:Int)(e:Int)(f:Int)(g:Int):Obj:=ob .none (.fields ⟨[(.int a 0),(.int 4 0),(.ref b),(.int c 0),(.int 4 0),(.ref (b+7)),(.int d 0),(.int 4 0),(.ref (b+14)),(.int e 0),(.int 4 0),(.ref (b+21)),(.int f 0),(.int 4 0),(.ref (b+28)),(.int g 0),(.int 4 0),(.ref (b+35))]⟩)
def H23(P:Params)(a:Nat)(b:Nat)(c:Str)(d:Nat)(e:Int)(f:Nat)(g:Nat)(h:Str)(i:Nat)(j:Str)(k:Nat)(l:Nat)(m:Str)(n:Nat)(o:Nat)(p:Str):Obj:=dc a [(ds P "__module__" b c d),(de P "__firstlineno__" (b+4) (.int e (b+3))),(dr P "__init__" f g),(dr P h i (g+7)),(dr P j k l),(dr P m n o),(dr P p (n+2) (o+1)),(de P "__doc__" (n+3) .none)]
def H24(a:Str)(b:Nat)(c:Str)(d:Str)(e:Str)(f:Str)(g:Str):Obj:=tu [(.str a b),(.str c (b+1)),(.str d (b+2)),(.str e (b+3)),(.str f (b+4)),(.str g (b+5))]
def H25(a:Str)(b:Nat)(c:Str)(d:Int)(e:Int)(f:Nat)(g:Int):Obj:=co [(.str a b),(.str c (b+1)),(.str "/claim/cut.py" (b+2)),(.int d 0),(.int e 0),(.int 0 0),(.int 0 0),(.int 3 0),(.ref f),(.bool true),(.int 181 0),(.ref (f+1)),.none,.none,.none,(.ref (f+2)),(.int g 0),(.int d 0),(.str "/claim/cut.py" (b+4))]
def H26(P:Params)(a:Nat)(b:Nat)(c:Str)(d:Nat)(e:Int)(f:Nat)(g:Nat)(h:Str)(i:Nat)(j:Str)(k:Nat)(l:Str)(m:Nat)(n:Str)(o:Nat)(p:Str)(q:Nat)(r:Str)(s:Nat)(t:Nat)(u:Str)(v:Nat)(w:Nat)(x:Str):Obj:=dc a [(ds P "__module__" b c d),(de P "__firstlineno__" (b+4) (.int e (b+3))),(dr P "__init__" f g),(dr P h i (g+7)),(dr P j k (g+14)),(dr P l m (g+21)),(dr P n o (g+28)),(dr P p q (g+35)),(dr P r s t),(dr P u v w),(dr P x (v+2) (w+1)),(de P "__doc__" (v+3) .none)]
def H27(P:Params)(a:Nat)(b:Nat)(c:Int)(d:Str)(e:Nat)(f:Nat)(g:Str)(h:Nat)(i:Nat):Obj:=dc a [(ds P "__module__" b "eachstepsame.errors" 774),(de P "__firstlineno__" (b+4) (.int c (b+3))),(dr P d e f),(dr P g h i),(de P "__doc__" (h+1) .none)]
def H28(P:Params)(a:Nat)(b:Str)(c:Int)(d:Nat)(e:Nat)(f:Nat):Obj:=dc 5 [(ds P "__module__" a "eachstepsame.errors" 774),(ds P "__qualname__" (a+2) b (a+1)),(de P "__firstlineno__" (a+4) (.int c (a+3))),(dr P "__init__" d e),(dr P "__static_attributes__" f (e+1))]
def H29(a:Int)(b:Nat):Obj:=ob .none (.fields ⟨[(.int a 0),(.int 4 0),(.ref b)]⟩)
noncomputable def H30(a:Str)(b:Nat)(c:Nat)(d:Nat)(e:Nat):Obj:=⟨(.type "type"),none,(.cls ⟨a,[(.ref 488)],[(.ref b),(.ref 488),(.type "ValueError"),(.type "Exception"),(.type "BaseException"),(.type "object")],c,a,true,[],[],false,none,false⟩),⟨[(some (.ref d)),none,(some (.str a e)),(some (.str a (e+8))),(some (.builtin "ValueError.__new__")),(some (.bool true))]⟩⟩
def H31(a:Str)(b:Nat)(c:Str)(d:Str)(e:Str)(f:Str)(g:Str)(h:Str):Obj:=tu [(.str a b),(.str c (b+1)),(.str d (b+2)),(.str e (b+3)),(.str f (b+4)),(.str g (b+5)),(.str h (b+6))]
def o12a:=ob .none (.fields ⟨[]⟩)
def o13a:=H0 "<module>" 182 1 11 185
def o14a:=H1 13 3 "__main__" 164
def o3(P:Params):=dc 61 [(ds P "__name__" 165 "law_eachstepsame_k27_beginnings_refused" 1364),(de P "__doc__" 166 .none),(de P "__package__" 167 .none),(de P "__loader__" 168 (.builtin "__main__.__loader__#opaque")),(de P "__spec__" 169 .none),(dr P "__annotations__" 170 6),(dr P "__builtins__" 171 4),(ds P "__file__" 173 "/claim/cut.py" 172),(de P "__cached__" 174 .none),(dr P "_wall" 193 21),(dr P "Row" 246 52),(dr P "End" 295 94),(dr P "Jump" 351 143),(dr P "Branch" 418 197),(dr P "Back" 466 237),(dr P "Raise" 507 270),(dr P "Risk" 578 324),(dr P "Block" 631 362),(dr P "Function" 705 418),(dr P "Code" 773 474),(dr P "StepError" 793 488),(dr P "NoInput" 818 508),(dr P "NoBudget" 841 527),(dr P "Fault" 866 546),(dr P "NUM" 870 549),(dr P "TRUTH" 872 550),(dr P "is_whole" 879 557),(dr P "is_truth" 886 564),(dr P "parts_of" 892 569),(dr P "is_value" 898 574),(dr P "tagged" 904 579),(dr P "RISKY" 912 580),(dr P "is_risky" 919 587),(dr P "reckoned" 928 594),(dr P "of_one" 936 601),(dr P "of_two" 945 608),(dr P "risked" 953 615),(dr P "product" 962 622),(dr P "need_place" 970 629),(dr P "replaced" 979 636),(dr P "Run" 1026 660),(dr P "Going" 1098 716),(dr P "need_start" 1109 727),(dr P "need_so_many" 1117 734),(dr P "need_budget" 1124 741),(dr P "Pile" 1213 807),(dr P "run_blocks" 1224 816),(dr P "Stay" 1310 873),(dr P "BlockRunner" 1363 915),(dr P "_law_cell_at" 1373 924),(dr P "_law_mixed" 1382 931),(dr P "_law_sort_by" 1393 938),(dr P "_law_pieces" 1400 945),(dr P "_law_fitting" 1413 952),(dr P "_law_no_value" 1426 959),(dr P "_law_made" 1432 964),(dr P "_law_tagged" 1438 969),(dr P "_law_run" 1450 976),(dr P "_law_good" 1456 981),(dr P "_law_bad_budget" 1463 988),(dr P "law" 1469 993)]
def o12:=ob .none (.fields ⟨[(.int 1 0),(.int 0 0),(.ref 20),(.int 5 0),(.int 0 0),(.ref 27),(.int 18 0),(.int 0 0),(.ref 62),(.int 31 0),(.int 0 0),(.ref 104),(.int 47 0),(.int 0 0),(.ref 151),(.int 68 0),(.int 0 0),(.ref 205),(.int 81 0),(.int 0 0),(.ref 245),(.int 91 0),(.int 0 0),(.ref 278),(.int 114 0),(.int 0 0),(.ref 332),(.int 129 0),(.int 0 0),(.ref 372),(.int 152 0),(.int 0 0),(.ref 428),(.int 173 0),(.int 0 0),(.ref 484),(.int 175 0),(.int 0 0),(.ref 497),(.int 179 0),(.int 0 0),(.ref 516),(.int 183 0),(.int 0 0),(.ref 535),(.int 190 0),(.int 0 0),(.ref 556),(.int 192 0),(.int 0 0),(.ref 563),(.int 194 0),(.int 0 0),(.ref 568),(.int 200 0),(.int 0 0),(.ref 573),(.int 209 0),(.int 0 0),(.ref 578),(.int 217 0),(.int 0 0),(.ref 586),(.int 219 0),(.int 0 0),(.ref 593),(.int 231 0),(.int 0 0),(.ref 600),(.int 237 0),(.int 0 0),(.ref 607),(.int 249 0),(.int 0 0),(.ref 614),(.int 261 0),(.int 0 0),(.ref 621),(.int 266 0),(.int 0 0),(.ref 628),(.int 269 0),(.int 0 0),(.ref 635),(.int 272 0),(.int 0 0),(.ref 642),(.int 284 0),(.int 0 0),(.ref 670),(.int 314 0),(.int 0 0),(.ref 726),(.int 320 0),(.int 0 0),(.ref 733),(.int 323 0),(.int 0 0),(.ref 740),(.int 327 0),(.int 0 0),(.ref 747),(.int 378 0),(.int 0 0),(.ref 815),(.int 381 0),(.int 0 0),(.ref 822),(.int 414 0),(.int 0 0),(.ref 883),(.int 445 0),(.int 0 0),(.ref 923),(.int 449 0),(.int 0 0),(.ref 930),(.int 453 0),(.int 0 0),(.ref 937),(.int 465 0),(.int 0 0),(.ref 944),(.int 471 0),(.int 0 0),(.ref 951),(.int 481 0),(.int 0 0),(.ref 958),(.int 496 0),(.int 0 0),(.ref 963),(.int 506 0),(.int 0 0),(.ref 968),(.int 510 0),(.int 0 0),(.ref 975),(.int 520 0),(.int 0 0),(.ref 980),(.int 528 0),(.int 0 0),(.ref 987),(.int 530 0),(.int 0 0),(.ref 992)]⟩)
def o17:=H2 "k" 190
def o19:=H3 0 "_wall"
def o20:=H4 "_wall" 187 "_wall" 1 1 15 191 192
def o21:=H5 0 "_wall" "__main__" 164 20
def o23:=ob (.type "builtin_function_or_method") (.fields ⟨[(.builtin "type.__prepare__"),(.type "type")]⟩)
def o24(P:Params):=dc 7 [(ds P "__module__" 203 "eachstepsame.blocks" 194),(ds P "__qualname__" 205 "Row" 204),(de P "__firstlineno__" 207 (.int 5 206)),(dr P "__init__" 218 35),(dr P "told" 225 42),(dr P "moved" 234 49),(dr P "__static_attributes__" 239 50)]
def o26:=ob .none (.fields ⟨[(.int 7 0),(.int 4 0),(.ref 34),(.int 13 0),(.int 4 0),(.ref 41),(.int 16 0),(.int 4 0),(.ref 48)]⟩)
def o27:=H0 "Row" 198 5 25 201
def o28:=H1 27 24 "eachstepsame.blocks" 194
def o31:=H6 "self" 211 "name" "op" "extra" "operands"
def o33:=H7 2 0 "Row.__init__"
def o34:=H4 "__init__" 208 "Row.__init__" 7 5 29 216 217
def o35:=H8 2 0 "Row.__init__" "eachstepsame.blocks" 194 34
def o38:=H2 "self" 222
def o40:=H7 2 1 "Row.told"
def o41:=H4 "told" 219 "Row.told" 13 1 36 223 224
def o42:=H8 2 1 "Row.told" "eachstepsame.blocks" 194 41
def o45:=H9 "self" 229 "names" "given"
def o47:=H7 2 2 "Row.moved"
def o48:=H4 "moved" 226 "Row.moved" 16 3 43 232 233
def o49:=H8 2 2 "Row.moved" "eachstepsame.blocks" 194 48
def o50:=H10 "extra" 235 "name" "op" "operands"
def o51(P:Params):=dc 4 [(ds P "__module__" 203 "eachstepsame.blocks" 194),(de P "__firstlineno__" 207 (.int 5 206)),(dr P "__init__" 218 35),(dr P "told" 225 42),(dr P "moved" 234 49),(dr P "__static_attributes__" 239 50),(dr P "__dict__" 241 53),(dr P "__weakref__" 243 54),(de P "__doc__" 244 .none)]
def o52:=H11 "Row" 52 51 196
def o53:=H12 240 52
def o54:=H13 242 52
def o55:=H14 52
def o56:=H15 52
def o59(P:Params):=H16 P 254 "eachstepsame.blocks" 194 "End" 18 "edges" 265 70 "with_edges" 273 "reads" 280 84 "every_read" 287 288
def o61:=H17 20 69 23 26 83 29
def o62:=H0 "End" 249 18 60 252
def o63:=H1 62 59 "eachstepsame.blocks" 194
def o66:=H2 "self" 262
def o68:=H7 3 0 "End.edges"
def o69:=H4 "edges" 259 "End.edges" 20 1 64 263 264
def o70:=H8 3 0 "End.edges" "eachstepsame.blocks" 194 69
def o73:=H18 "self" 269 "edges"
def o75:=H7 3 1 "End.with_edges"
def o76:=H4 "with_edges" 266 "End.with_edges" 23 2 71 271 272
def o77:=H8 3 1 "End.with_edges" "eachstepsame.blocks" 194 76
def o80:=H2 "self" 277
def o82:=H7 3 2 "End.reads"
def o83:=H4 "reads" 274 "End.reads" 26 1 78 278 279
def o84:=H8 3 2 "End.reads" "eachstepsame.blocks" 194 83
def o87:=H2 "self" 284
def o89:=H7 3 3 "End.every_read"
def o90:=H4 "every_read" 281 "End.every_read" 29 1 85 285 286
def o91:=H8 3 3 "End.every_read" "eachstepsame.blocks" 194 90
def o93(P:Params):=H19 P 4 254 18 "edges" 265 70 "with_edges" 273 "reads" 280 84 "every_read" "__static_attributes__" 288 92 "__dict__" 290 95 "__weakref__" 292
noncomputable def o94:Obj:=⟨(.type "type"),none,(.cls ⟨"End",[(.type "object")],[(.ref 94),(.type "object")],93,"End",true,[],[(.ref 143),(.ref 197),(.ref 237),(.ref 270),(.ref 324)],false,none,false⟩),⟨[none,none,(some (.str "End" 247)),(some (.str "End" 255)),(some (.builtin "object.__new__")),(some (.bool true))]⟩⟩
def o95:=H12 289 94
def o96:=H13 291 94
def o97:=H14 94
def o98:=H15 94
def o99:=tu [(.ref 94)]
def o101(P:Params):=dc 9 [(ds P "__module__" 303 "eachstepsame.blocks" 194),(ds P "__qualname__" 305 "Jump" 304),(de P "__firstlineno__" 307 (.int 31 306)),(dr P "__init__" 315 112),(dr P "told" 322 119),(dr P "moved" 331 126),(dr P "edges" 338 133),(dr P "with_edges" 346 140),(dr P "__static_attributes__" 348 141)]
def o103:=ob .none (.fields ⟨[(.int 33 0),(.int 4 0),(.ref 111),(.int 36 0),(.int 4 0),(.ref 118),(.int 39 0),(.int 4 0),(.ref 125),(.int 42 0),(.int 4 0),(.ref 132),(.int 45 0),(.int 4 0),(.ref 139)]⟩)
def o104:=H0 "Jump" 298 31 102 301
def o105:=H1 104 101 "eachstepsame.blocks" 194
def o108:=H18 "self" 311 "edge"
def o110:=H7 4 0 "Jump.__init__"
def o111:=H4 "__init__" 308 "Jump.__init__" 33 2 106 313 314
def o112:=H8 4 0 "Jump.__init__" "eachstepsame.blocks" 194 111
def o115:=H2 "self" 319
def o117:=H7 4 1 "Jump.told"
def o118:=H4 "told" 316 "Jump.told" 36 1 113 320 321
def o119:=H8 4 1 "Jump.told" "eachstepsame.blocks" 194 118
def o122:=H9 "self" 326 "names" "blocks"
def o124:=H7 4 2 "Jump.moved"
def o125:=H4 "moved" 323 "Jump.moved" 39 3 120 329 330
def o126:=H8 4 2 "Jump.moved" "eachstepsame.blocks" 194 125
def o129:=H2 "self" 335
def o131:=H7 4 3 "Jump.edges"
def o132:=H4 "edges" 332 "Jump.edges" 42 1 127 336 337
def o133:=H8 4 3 "Jump.edges" "eachstepsame.blocks" 194 132
def o136:=H18 "self" 342 "edges"
def o138:=H7 4 4 "Jump.with_edges"
def o139:=H4 "with_edges" 339 "Jump.with_edges" 45 2 134 344 345
def o140:=H8 4 4 "Jump.with_edges" "eachstepsame.blocks" 194 139
def o141:=H2 "edge" 347
def o142(P:Params):=dc 2 [(ds P "__module__" 303 "eachstepsame.blocks" 194),(de P "__firstlineno__" 307 (.int 31 306)),(dr P "__init__" 315 112),(dr P "told" 322 119),(dr P "moved" 331 126),(dr P "edges" 338 133),(dr P "with_edges" 346 140),(dr P "__static_attributes__" 348 141),(de P "__doc__" 349 .none)]
def o143:=H20 "Jump" 143 142 99 296
def o144:=H14 143
def o145:=H15 143
def o148(P:Params):=H21 P 359 "eachstepsame.blocks" 194 "Branch" 47 373 159 "told" "moved" 389 "edges" 396 "with_edges" "reads" 415
def o150:=H22 49 158 54 57 60 63 66
def o151:=H0 "Branch" 354 47 149 357
def o152:=H1 151 148 "eachstepsame.blocks" 194
def o155:=H10 "self" 367 "test" "yes" "no"
def o157:=H7 5 0 "Branch.__init__"
def o158:=H4 "__init__" 364 "Branch.__init__" 49 4 153 371 372
def o159:=H8 5 0 "Branch.__init__" "eachstepsame.blocks" 194 158
def o162:=H2 "self" 377
def o164:=H7 5 1 "Branch.told"
def o165:=H4 "told" 374 "Branch.told" 54 1 160 378 379
def o166:=H8 5 1 "Branch.told" "eachstepsame.blocks" 194 165
def o169:=H9 "self" 384 "names" "blocks"
def o171:=H7 5 2 "Branch.moved"
def o172:=H4 "moved" 381 "Branch.moved" 57 3 167 387 388
def o173:=H8 5 2 "Branch.moved" "eachstepsame.blocks" 194 172
def o176:=H2 "self" 393
def o178:=H7 5 3 "Branch.edges"
def o179:=H4 "edges" 390 "Branch.edges" 60 1 174 394 395
def o180:=H8 5 3 "Branch.edges" "eachstepsame.blocks" 194 179
def o183:=H18 "self" 400 "edges"
def o185:=H7 5 4 "Branch.with_edges"
def o186:=H4 "with_edges" 397 "Branch.with_edges" 63 2 181 402 403
def o187:=H8 5 4 "Branch.with_edges" "eachstepsame.blocks" 194 186
def o190:=H2 "self" 408
def o192:=H7 5 5 "Branch.reads"
def o193:=H4 "reads" 405 "Branch.reads" 66 1 188 409 410
def o194:=H8 5 5 "Branch.reads" "eachstepsame.blocks" 194 193
def o195:=H9 "no" 412 "test" "yes"
def o196(P:Params):=H19 P 2 359 47 "__init__" 373 159 "told" 380 "moved" 389 173 "edges" "with_edges" 404 187 "reads" 411 194 "__static_attributes__" 415
def o197:=H20 "Branch" 197 196 146 352
def o198:=H14 197
def o199:=H15 197
def o202(P:Params):=H16 P 426 "eachstepsame.blocks" 194 "Back" 68 "__init__" 438 213 "told" 445 "moved" 454 227 "reads" 461 463
def o204:=H17 70 212 73 76 226 79
def o205:=H0 "Back" 421 68 203 424
def o206:=H1 205 202 "eachstepsame.blocks" 194
def o209:=H18 "self" 434 "operand"
def o211:=H7 6 0 "Back.__init__"
def o212:=H4 "__init__" 431 "Back.__init__" 70 2 207 436 437
def o213:=H8 6 0 "Back.__init__" "eachstepsame.blocks" 194 212
def o216:=H2 "self" 442
def o218:=H7 6 1 "Back.told"
def o219:=H4 "told" 439 "Back.told" 73 1 214 443 444
def o220:=H8 6 1 "Back.told" "eachstepsame.blocks" 194 219
def o223:=H9 "self" 449 "names" "blocks"
def o225:=H7 6 2 "Back.moved"
def o226:=H4 "moved" 446 "Back.moved" 76 3 221 452 453
def o227:=H8 6 2 "Back.moved" "eachstepsame.blocks" 194 226
def o230:=H2 "self" 458
def o232:=H7 6 3 "Back.reads"
def o233:=H4 "reads" 455 "Back.reads" 79 1 228 459 460
def o234:=H8 6 3 "Back.reads" "eachstepsame.blocks" 194 233
def o235:=H2 "operand" 462
def o236(P:Params):=H23 P 2 426 "eachstepsame.blocks" 194 68 438 213 "told" 445 "moved" 454 227 "reads" 461 234 "__static_attributes__"
def o237:=H20 "Back" 237 236 200 419
def o238:=H14 237
def o239:=H15 237
def o242(P:Params):=dc 7 [(ds P "__module__" 474 "eachstepsame.blocks" 194),(ds P "__qualname__" 476 "Raise" 475),(de P "__firstlineno__" 478 (.int 81 477)),(dr P "__init__" 486 253),(dr P "told" 493 260),(dr P "moved" 502 267),(dr P "__static_attributes__" 504 268)]
def o244:=ob .none (.fields ⟨[(.int 83 0),(.int 4 0),(.ref 252),(.int 86 0),(.int 4 0),(.ref 259),(.int 89 0),(.int 4 0),(.ref 266)]⟩)
def o245:=H0 "Raise" 469 81 243 472
def o246:=H1 245 242 "eachstepsame.blocks" 194
def o249:=H18 "self" 482 "fault"
def o251:=H7 7 0 "Raise.__init__"
def o252:=H4 "__init__" 479 "Raise.__init__" 83 2 247 484 485
def o253:=H8 7 0 "Raise.__init__" "eachstepsame.blocks" 194 252
def o256:=H2 "self" 490
def o258:=H7 7 1 "Raise.told"
def o259:=H4 "told" 487 "Raise.told" 86 1 254 491 492
def o260:=H8 7 1 "Raise.told" "eachstepsame.blocks" 194 259
def o263:=H9 "self" 497 "names" "blocks"
def o265:=H7 7 2 "Raise.moved"
def o266:=H4 "moved" 494 "Raise.moved" 89 3 261 500 501
def o267:=H8 7 2 "Raise.moved" "eachstepsame.blocks" 194 266
def o268:=H2 "fault" 503
def o269(P:Params):=dc 2 [(ds P "__module__" 474 "eachstepsame.blocks" 194),(de P "__firstlineno__" 478 (.int 81 477)),(dr P "__init__" 486 253),(dr P "told" 493 260),(dr P "moved" 502 267),(dr P "__static_attributes__" 504 268),(de P "__doc__" 505 .none)]
def o270:=H20 "Raise" 270 269 240 467
def o271:=H14 270
def o272:=H15 270
def o275(P:Params):=H21 P 515 "eachstepsame.blocks" 194 "Risk" 91 531 286 "told" "moved" 547 "edges" 554 "with_edges" "reads" 575
def o277:=H22 93 285 100 103 106 109 112
def o278:=H0 "Risk" 510 91 276 513
def o279:=H1 278 275 "eachstepsame.blocks" 194
def o282:=H24 "self" 523 "op" "extra" "asked" "edge" "catches"
def o284:=H7 8 0 "Risk.__init__"
def o285:=H4 "__init__" 520 "Risk.__init__" 93 6 280 529 530
def o286:=H8 8 0 "Risk.__init__" "eachstepsame.blocks" 194 285
def o289:=H2 "self" 535
def o291:=H7 8 1 "Risk.told"
def o292:=H4 "told" 532 "Risk.told" 100 1 287 536 537
def o293:=H8 8 1 "Risk.told" "eachstepsame.blocks" 194 292
def o296:=H9 "self" 542 "names" "blocks"
def o298:=H7 8 2 "Risk.moved"
def o299:=H4 "moved" 539 "Risk.moved" 103 3 294 545 546
def o300:=H8 8 2 "Risk.moved" "eachstepsame.blocks" 194 299
def o303:=H2 "self" 551
def o305:=H7 8 3 "Risk.edges"
def o306:=H4 "edges" 548 "Risk.edges" 106 1 301 552 553
def o307:=H8 8 3 "Risk.edges" "eachstepsame.blocks" 194 306
def o310:=H18 "self" 558 "edges"
def o312:=H7 8 4 "Risk.with_edges"
def o313:=H4 "with_edges" 555 "Risk.with_edges" 109 2 308 560 561
def o314:=H8 8 4 "Risk.with_edges" "eachstepsame.blocks" 194 313
def o317:=H2 "self" 566
def o319:=H7 8 5 "Risk.reads"
def o320:=H4 "reads" 563 "Risk.reads" 112 1 315 567 568
def o321:=H8 8 5 "Risk.reads" "eachstepsame.blocks" 194 320
def o322:=H6 "asked" 570 "catches" "edge" "extra" "op"
def o323(P:Params):=H19 P 2 515 91 "__init__" 531 286 "told" 538 "moved" 547 300 "edges" "with_edges" 562 314 "reads" 569 321 "__static_attributes__" 575
def o324:=H20 "Risk" 324 323 273 508
def o325:=H14 324
def o326:=H15 324
def o329(P:Params):=H16 P 586 "eachstepsame.blocks" 194 "Block" 114 "__init__" 600 340 "told" 607 "given" 613 352 "ticks" 620 624
def o331:=H17 116 339 121 124 351 127
def o332:=H0 "Block" 581 114 330 584
def o333:=H1 332 329 "eachstepsame.blocks" 194
def o336:=H10 "self" 594 "params" "rows" "end"
def o338:=H7 9 0 "Block.__init__"
def o339:=H4 "__init__" 591 "Block.__init__" 116 4 334 598 599
def o340:=H8 9 0 "Block.__init__" "eachstepsame.blocks" 194 339
def o343:=H2 "self" 604
def o345:=H7 9 1 "Block.told"
def o346:=H4 "told" 601 "Block.told" 121 1 341 605 606
def o347:=H8 9 1 "Block.told" "eachstepsame.blocks" 194 346
def o350:=H7 9 2 "Block.given"
def o351:=H25 "given" 608 "Block.given" 124 1 348 611
def o352:=H8 9 2 "Block.given" "eachstepsame.blocks" 194 351
def o355:=H2 "self" 617
def o357:=H7 9 3 "Block.ticks"
def o358:=H4 "ticks" 614 "Block.ticks" 127 1 353 618 619
def o359:=H8 9 3 "Block.ticks" "eachstepsame.blocks" 194 358
def o360:=H9 "end" 621 "params" "rows"
def o361(P:Params):=H19 P 4 586 114 "__init__" 600 340 "told" 607 "given" 613 352 "ticks" "__static_attributes__" 624 360 "__dict__" 626 363 "__weakref__" 628
def o362:=H11 "Block" 362 361 579
def o363:=H12 625 362
def o364:=H13 627 362
def o365:=H14 362
def o366:=H15 362
def o369(P:Params):=H21 P 639 "eachstepsame.blocks" 194 "Function" 129 654 380 "told" "width" 668 "kind_of" 676 "with_blocks" "kinds_of" 698
def o371:=H22 131 379 138 141 144 147 150
def o372:=H0 "Function" 634 129 370 637
def o373:=H1 372 369 "eachstepsame.blocks" 194
def o376:=H6 "self" 647 "takes" "gives" "kinds" "blocks"
def o378:=H7 10 0 "Function.__init__"
def o379:=H4 "__init__" 644 "Function.__init__" 131 5 374 652 653
def o380:=H8 10 0 "Function.__init__" "eachstepsame.blocks" 194 379
def o383:=H2 "self" 658
def o385:=H7 10 1 "Function.told"
def o386:=H4 "told" 655 "Function.told" 138 1 381 659 660
def o387:=H8 10 1 "Function.told" "eachstepsame.blocks" 194 386
def o390:=H2 "self" 665
def o392:=H7 10 2 "Function.width"
def o393:=H4 "width" 662 "Function.width" 141 1 388 666 667
def o394:=H8 10 2 "Function.width" "eachstepsame.blocks" 194 393
def o397:=H18 "self" 672 "name"
def o399:=H7 10 3 "Function.kind_of"
def o400:=H4 "kind_of" 669 "Function.kind_of" 144 2 395 674 675
def o401:=H8 10 3 "Function.kind_of" "eachstepsame.blocks" 194 400
def o404:=H18 "self" 680 "blocks"
def o406:=H7 10 4 "Function.with_blocks"
def o407:=H4 "with_blocks" 677 "Function.with_blocks" 147 2 402 682 683
def o408:=H8 10 4 "Function.with_blocks" "eachstepsame.blocks" 194 407
def o411:=H18 "self" 688 "names"
def o413:=H7 10 5 "Function.kinds_of"
def o414:=H4 "kinds_of" 685 "Function.kinds_of" 150 2 409 690 691
def o415:=H8 10 5 "Function.kinds_of" "eachstepsame.blocks" 194 414
def o416:=H6 "blocks" 693 "gives" "kept_kinds" "kinds" "takes"
def o417(P:Params):=H26 P 4 639 "eachstepsame.blocks" 194 129 654 380 "told" 661 "width" 668 "kind_of" 676 "with_blocks" 684 "kinds_of" 692 "__static_attributes__" 698 416 "__dict__" 700 419 "__weakref__"
def o418:=H11 "Function" 418 417 632
def o419:=H12 699 418
def o420:=H13 701 418
def o421:=H14 418
def o422:=H15 418
def o425(P:Params):=H21 P 713 "eachstepsame.blocks" 194 "Code" 152 725 436 "told" "names" 739 "width" 746 "function_named" "with_function" 766
def o427:=H22 154 435 158 161 164 167 170
def o428:=H0 "Code" 708 152 426 711
def o429:=H1 428 425 "eachstepsame.blocks" 194
def o432:=H18 "self" 721 "functions"
def o434:=H7 11 0 "Code.__init__"
def o435:=H4 "__init__" 718 "Code.__init__" 154 2 430 723 724
def o436:=H8 11 0 "Code.__init__" "eachstepsame.blocks" 194 435
def o439:=H2 "self" 729
def o441:=H7 11 1 "Code.told"
def o442:=H4 "told" 726 "Code.told" 158 1 437 730 731
def o443:=H8 11 1 "Code.told" "eachstepsame.blocks" 194 442
def o446:=H2 "self" 736
def o448:=H7 11 2 "Code.names"
def o449:=H4 "names" 733 "Code.names" 161 1 444 737 738
def o450:=H8 11 2 "Code.names" "eachstepsame.blocks" 194 449
def o453:=H2 "self" 743
def o455:=H7 11 3 "Code.width"
def o456:=H4 "width" 740 "Code.width" 164 1 451 744 745
def o457:=H8 11 3 "Code.width" "eachstepsame.blocks" 194 456
def o460:=H18 "self" 750 "name"
def o462:=H7 11 4 "Code.function_named"
def o463:=H4 "function_named" 747 "Code.function_named" 167 2 458 752 753
def o464:=H8 11 4 "Code.function_named" "eachstepsame.blocks" 194 463
def o467:=H9 "self" 758 "name" "function"
def o469:=H7 11 5 "Code.with_function"
def o470:=H4 "with_function" 755 "Code.with_function" 170 3 465 761 762
def o471:=H8 11 5 "Code.with_function" "eachstepsame.blocks" 194 470
def o472:=H18 "functions" 764 "kept_functions"
def o473(P:Params):=H26 P 4 713 "eachstepsame.blocks" 194 152 725 436 "told" 732 "names" 739 "width" 746 "function_named" 754 "with_function" 763 "__static_attributes__" 766 472 "__dict__" 768 475 "__weakref__"
def o474:=H11 "Code" 474 473 706
def o475:=H12 767 474
def o476:=H13 769 474
def o477:=H14 474
def o478:=H15 474
def o479:=tu [(.type "ValueError")]
def o481(P:Params):=dc 4 [(ds P "__module__" 783 "eachstepsame.errors" 774),(ds P "__qualname__" 785 "StepError" 784),(de P "__firstlineno__" 787 (.int 173 786)),(dr P "__static_attributes__" 788 486)]
def o484:=H0 "StepError" 778 173 482 781
def o485:=H1 484 481 "eachstepsame.errors" 774
def o487(P:Params):=H27 P 3 783 173 "__static_attributes__" 788 486 "__weakref__" 790 489
noncomputable def o488:Obj:=⟨(.type "type"),none,(.cls ⟨"StepError",[(.type "ValueError")],[(.ref 488),(.type "ValueError"),(.type "Exception"),(.type "BaseException"),(.type "object")],487,"StepError",true,[],[(.ref 508),(.ref 527),(.ref 546)],false,none,false⟩),⟨[(some (.ref 479)),none,(some (.str "StepError" 776)),(some (.str "StepError" 784)),(some (.builtin "ValueError.__new__")),(some (.bool true))]⟩⟩
def o489:=H13 789 488
def o490:=H14 488
def o491:=H15 488
def o492:=tu [(.ref 488)]
def o494(P:Params):=H28 P 801 "NoInput" 175 813 505 815
def o496:=H29 177 504
def o497:=H0 "NoInput" 796 175 495 799
def o498:=H1 497 494 "eachstepsame.errors" 774
def o501:=H18 "self" 809 "place"
def o503:=H7 14 0 "NoInput.__init__"
def o504:=H4 "__init__" 806 "NoInput.__init__" 177 2 499 811 812
def o505:=H8 14 0 "NoInput.__init__" "eachstepsame.errors" 774 504
def o506:=H2 "place" 814
def o507(P:Params):=H27 P 2 801 175 "__init__" 813 505 "__static_attributes__" 815 506
def o508:=H30 "NoInput" 508 507 492 794
def o509:=H14 508
def o510:=H15 508
def o513(P:Params):=H28 P 826 "NoBudget" 179 837 524 838
def o515:=H29 181 523
def o516:=H0 "NoBudget" 821 179 514 824
def o517:=H1 516 513 "eachstepsame.errors" 774
def o520:=H2 "self" 834
def o522:=H7 15 0 "NoBudget.__init__"
def o523:=H4 "__init__" 831 "NoBudget.__init__" 181 1 518 835 836
def o524:=H8 15 0 "NoBudget.__init__" "eachstepsame.errors" 774 523
def o526(P:Params):=H27 P 2 826 179 "__init__" 837 524 "__static_attributes__" 838 525
def o527:=H30 "NoBudget" 527 526 511 819
def o528:=H14 527
def o529:=H15 527
def o532(P:Params):=H28 P 849 "Fault" 183 861 543 863
def o534:=H29 185 542
def o535:=H0 "Fault" 844 183 533 847
def o536:=H1 535 532 "eachstepsame.errors" 774
def o539:=H18 "self" 857 "name"
def o541:=H7 16 0 "Fault.__init__"
def o542:=H4 "__init__" 854 "Fault.__init__" 185 2 537 859 860
def o543:=H8 16 0 "Fault.__init__" "eachstepsame.errors" 774 542
def o544:=H2 "name" 862
def o545(P:Params):=H27 P 2 849 183 "__init__" 861 543 "__static_attributes__" 863 544
def o546:=H30 "Fault" 546 545 530 842
def o547:=H14 546
def o548:=H15 546
def o549:=H2 "num" 869
def o550:=H2 "truth" 871
def o553:=H2 "thing" 876
def o555:=H3 20 "is_whole"
def o556:=H4 "is_whole" 873 "is_whole" 190 1 551 877 878
def o557:=H5 20 "is_whole" "eachstepsame.kinds" 867 556
def o560:=H2 "thing" 883
def o562:=H3 21 "is_truth"
def o563:=H4 "is_truth" 880 "is_truth" 192 1 558 884 885
def o564:=H5 21 "is_truth" "eachstepsame.kinds" 867 563
def o567:=H3 22 "parts_of"
def o568:=H25 "parts_of" 887 "parts_of" 194 1 565 890
def o569:=H5 22 "parts_of" "eachstepsame.kinds" 867 568
def o572:=H3 23 "is_value"
def o573:=H25 "is_value" 893 "is_value" 200 2 570 896
def o574:=H5 23 "is_value" "eachstepsame.kinds" 867 573
def o577:=H3 24 "tagged"
def o578:=H25 "tagged" 899 "tagged" 209 1 575 902
def o579:=H5 24 "tagged" "eachstepsame.kinds" 867 578
def o580:=H6 "mul" 907 "div" "mod" "pick" "lay"
def o583:=H2 "op" 916
def o585:=H3 27 "is_risky"
def o586:=H4 "is_risky" 913 "is_risky" 217 1 581 917 918
def o587:=H5 27 "is_risky" "eachstepsame.ops" 905 586
def o590:=H9 "op" 923 "extra" "values"
def o592:=H3 28 "reckoned"
def o593:=H4 "reckoned" 920 "reckoned" 219 3 588 926 927
def o594:=H5 28 "reckoned" "eachstepsame.ops" 905 593
def o597:=H18 "op" 932 "value"
def o599:=H3 29 "of_one"
def o600:=H4 "of_one" 929 "of_one" 231 2 595 934 935
def o601:=H5 29 "of_one" "eachstepsame.ops" 905 600
def o604:=H9 "op" 940 "one" "other"
def o606:=H3 30 "of_two"
def o607:=H4 "of_two" 937 "of_two" 237 3 602 943 944
def o608:=H5 30 "of_two" "eachstepsame.ops" 905 607
def o611:=H18 "op" 949 "values"
def o613:=H3 31 "risked"
def o614:=H4 "risked" 946 "risked" 249 2 609 951 952
def o615:=H5 31 "risked" "eachstepsame.ops" 905 614
def o618:=H9 "one" 957 "other" "result"
def o620:=H3 32 "product"
def o621:=H4 "product" 954 "product" 261 2 616 960 961
def o622:=H5 32 "product" "eachstepsame.ops" 905 621
def o625:=H18 "row" 966 "place"
def o627:=H3 33 "need_place"
def o628:=H4 "need_place" 963 "need_place" 266 2 623 968 969
def o629:=H5 33 "need_place" "eachstepsame.ops" 905 628
def o632:=H9 "whole" 974 "place" "part"
def o634:=H3 34 "replaced"
def o635:=H4 "replaced" 971 "replaced" 269 3 630 977 978
def o636:=H5 34 "replaced" "eachstepsame.ops" 905 635
def o639(P:Params):=dc 6 [(ds P "__module__" 989 "eachstepsame.runs" 980),(ds P "__qualname__" 991 "Run" 990),(de P "__firstlineno__" 993 (.int 272 992)),(dr P "__init__" 1005 650),(dr P "seen" 1012 657),(dr P "__static_attributes__" 1019 658)]
def o641:=ob .none (.fields ⟨[(.int 274 0),(.int 4 0),(.ref 649),(.int 282 0),(.int 4 0),(.ref 656)]⟩)
def o642:=H0 "Run" 984 272 640 987
def o643:=H1 642 639 "eachstepsame.runs" 980
def o646:=H24 "self" 997 "ending" "thing" "log" "took" "steps"
def o648:=H7 36 0 "Run.__init__"
def o649:=H4 "__init__" 994 "Run.__init__" 274 6 644 1003 1004
def o650:=H8 36 0 "Run.__init__" "eachstepsame.runs" 980 649
def o653:=H2 "self" 1009
def o655:=H7 36 1 "Run.seen"
def o656:=H4 "seen" 1006 "Run.seen" 282 1 651 1010 1011
def o657:=H8 36 1 "Run.seen" "eachstepsame.runs" 980 656
def o658:=H24 "ending" 1013 "kept_log" "log" "steps" "thing" "took"
def o659(P:Params):=H23 P 4 989 "eachstepsame.runs" 980 272 1005 650 "seen" 1012 "__static_attributes__" 1019 658 "__dict__" 1021 661 "__weakref__"
def o660:=H11 "Run" 660 659 982
def o661:=H12 1020 660
def o662:=H13 1022 660
def o663:=H14 660
def o664:=H15 660
def o667(P:Params):=H21 P 1034 "eachstepsame.runs" 980 "Going" 284 1046 678 "takes_tick" "write" 1061 "answer" 1069 "fail" "ended" 1091
def o669:=H22 286 677 294 301 304 308 312
def o670:=H0 "Going" 1029 284 668 1032
def o671:=H1 670 667 "eachstepsame.runs" 980
def o674:=H18 "self" 1042 "budget"
def o676:=H7 37 0 "Going.__init__"
def o677:=H4 "__init__" 1039 "Going.__init__" 286 2 672 1044 1045
def o678:=H8 37 0 "Going.__init__" "eachstepsame.runs" 980 677
def o681:=H2 "self" 1050
def o683:=H7 37 1 "Going.takes_tick"
def o684:=H4 "takes_tick" 1047 "Going.takes_tick" 294 1 679 1051 1052
def o685:=H8 37 1 "Going.takes_tick" "eachstepsame.runs" 980 684
def o688:=H18 "self" 1057 "value"
def o690:=H7 37 2 "Going.write"
def o691:=H4 "write" 1054 "Going.write" 301 2 686 1059 1060
def o692:=H8 37 2 "Going.write" "eachstepsame.runs" 980 691
def o695:=H18 "self" 1065 "value"
def o697:=H7 37 3 "Going.answer"
def o698:=H4 "answer" 1062 "Going.answer" 304 2 693 1067 1068
def o699:=H8 37 3 "Going.answer" "eachstepsame.runs" 980 698
def o702:=H18 "self" 1073 "fault"
def o704:=H7 37 4 "Going.fail"
def o705:=H4 "fail" 1070 "Going.fail" 308 2 700 1075 1076
def o706:=H8 37 4 "Going.fail" "eachstepsame.runs" 980 705
def o709:=H2 "self" 1081
def o711:=H7 37 5 "Going.ended"
def o712:=H4 "ended" 1078 "Going.ended" 312 1 707 1082 1083
def o713:=H8 37 5 "Going.ended" "eachstepsame.runs" 980 712
def o714:=H24 "budget" 1085 "ending" "log" "steps" "thing" "took"
def o715(P:Params):=H26 P 4 1034 "eachstepsame.runs" 980 284 1046 678 "takes_tick" 1053 "write" 1061 "answer" 1069 "fail" 1077 "ended" 1084 "__static_attributes__" 1091 714 "__dict__" 1093 717 "__weakref__"
noncomputable def o716:Obj:=⟨(.type "type"),none,(.cls ⟨"Going",[(.type "object")],[(.ref 716),(.type "object")],715,"Going",true,[],[(.ref 807)],false,none,false⟩),⟨[none,none,(some (.str "Going" 1027)),(some (.str "Going" 1035)),(some (.builtin "object.__new__")),(some (.bool true))]⟩⟩
def o717:=H12 1092 716
def o718:=H13 1094 716
def o719:=H14 716
def o720:=H15 716
def o723:=H6 "kinds" 1102 "inputs" "budget" "place" "kind"
def o725:=H3 38 "need_start"
def o726:=H4 "need_start" 1099 "need_start" 314 3 721 1107 1108
def o727:=H5 38 "need_start" "eachstepsame.runs" 980 726
def o730:=H18 "count" 1113 "inputs"
def o732:=H3 39 "need_so_many"
def o733:=H4 "need_so_many" 1110 "need_so_many" 320 2 728 1115 1116
def o734:=H5 39 "need_so_many" "eachstepsame.runs" 980 733
def o737:=H2 "budget" 1121
def o739:=H3 40 "need_budget"
def o740:=H4 "need_budget" 1118 "need_budget" 323 1 735 1122 1123
def o741:=H5 40 "need_budget" "eachstepsame.runs" 980 740
def o742:=tu [(.ref 716)]
def o744(P:Params):=dc 12 [(ds P "__module__" 1134 "eachstepsame.piles" 1125),(ds P "__qualname__" 1136 "Pile" 1135),(de P "__firstlineno__" 1138 (.int 327 1137)),(dr P "__init__" 1146 755),(dr P "run_from_main" 1154 762),(dr P "go_on" 1163 769),(dr P "enter" 1172 776),(dr P "risk" 1185 783),(dr P "end_call" 1192 790),(dr P "leave" 1200 797),(dr P "fault_comes" 1208 804),(dr P "__static_attributes__" 1210 805)]
def o746:=ob .none (.fields ⟨[(.int 329 0),(.int 4 0),(.ref 754),(.int 333 0),(.int 4 0),(.ref 761),(.int 339 0),(.int 4 0),(.ref 768),(.int 349 0),(.int 4 0),(.ref 775),(.int 353 0),(.int 4 0),(.ref 782),(.int 361 0),(.int 4 0),(.ref 789),(.int 364 0),(.int 4 0),(.ref 796),(.int 371 0),(.int 4 0),(.ref 803)]⟩)
def o747:=H0 "Pile" 1129 327 745 1132
def o748:=H1 747 744 "eachstepsame.piles" 1125
def o751:=H18 "self" 1142 "budget"
def o753:=H7 42 0 "Pile.__init__"
def o754:=H4 "__init__" 1139 "Pile.__init__" 329 2 749 1144 1145
def o755:=H8 42 0 "Pile.__init__" "eachstepsame.piles" 1125 754
def o758:=H18 "self" 1150 "inputs"
def o760:=H7 42 1 "Pile.run_from_main"
def o761:=H4 "run_from_main" 1147 "Pile.run_from_main" 333 2 756 1152 1153
def o762:=H8 42 1 "Pile.run_from_main" "eachstepsame.piles" 1125 761
def o765:=H9 "self" 1158 "stay" "row"
def o767:=H7 42 2 "Pile.go_on"
def o768:=H4 "go_on" 1155 "Pile.go_on" 339 1 763 1161 1162
def o769:=H8 42 2 "Pile.go_on" "eachstepsame.piles" 1125 768
def o772:=H9 "self" 1167 "name" "given"
def o774:=H7 42 3 "Pile.enter"
def o775:=H4 "enter" 1164 "Pile.enter" 349 3 770 1170 1171
def o776:=H8 42 3 "Pile.enter" "eachstepsame.piles" 1125 775
def o779:=H31 "self" 1176 "stay" "op" "extra" "values" "value" "fault"
def o781:=H7 42 4 "Pile.risk"
def o782:=H4 "risk" 1173 "Pile.risk" 353 5 777 1183 1184
def o783:=H8 42 4 "Pile.risk" "eachstepsame.piles" 1125 782
def o786:=H2 "self" 1189
def o788:=H7 42 5 "Pile.end_call"
def o789:=H4 "end_call" 1186 "Pile.end_call" 361 1 784 1190 1191
def o790:=H8 42 5 "Pile.end_call" "eachstepsame.piles" 1125 789
def o793:=H18 "self" 1196 "value"
def o795:=H7 42 6 "Pile.leave"
def o796:=H4 "leave" 1193 "Pile.leave" 364 2 791 1198 1199
def o797:=H8 42 6 "Pile.leave" "eachstepsame.piles" 1125 796
def o800:=H18 "self" 1204 "name"
def o802:=H7 42 7 "Pile.fault_comes"
def o803:=H4 "fault_comes" 1201 "Pile.fault_comes" 371 2 798 1206 1207
def o804:=H8 42 7 "Pile.fault_comes" "eachstepsame.piles" 1125 803
def o805:=H2 "frames" 1209
def o806(P:Params):=H26 P 2 1134 "eachstepsame.piles" 1125 327 1146 755 "run_from_main" 1154 "go_on" 1163 "enter" 1172 "risk" 1185 "end_call" 1192 "leave" 1200 797 "fault_comes" 1208 804 "__static_attributes__"
noncomputable def o807:Obj:=⟨(.type "type"),none,(.cls ⟨"Pile",[(.ref 716)],[(.ref 807),(.ref 716),(.type "object")],806,"Pile",true,[],[(.ref 915)],false,none,false⟩),⟨[(some (.ref 742)),none,(some (.str "Pile" 1127)),(some (.str "Pile" 1135)),(some (.builtin "object.__new__")),(some (.bool true))]⟩⟩
def o808:=H14 807
def o809:=H15 807
def o812:=H9 "code" 1219 "inputs" "budget"
def o814:=H3 44 "run_blocks"
def o815:=H4 "run_blocks" 1216 "run_blocks" 378 3 810 1222 1223
def o816:=H5 44 "run_blocks" "eachstepsame.blockrun" 1214 815
def o819(P:Params):=dc 11 [(ds P "__module__" 1232 "eachstepsame.blockrun" 1214),(ds P "__qualname__" 1234 "Stay" 1233),(de P "__firstlineno__" 1236 (.int 381 1235)),(dr P "__init__" 1245 830),(dr P "come_to" 1257 837),(dr P "go_along" 1266 844),(dr P "go_well" 1274 851),(dr P "goes_on_at" 1284 858),(dr P "value_of" 1292 865),(dr P "values_of" 1298 870),(dr P "__static_attributes__" 1303 871)]
def o821:=ob .none (.fields ⟨[(.int 383 0),(.int 4 0),(.ref 829),(.int 388 0),(.int 4 0),(.ref 836),(.int 395 0),(.int 4 0),(.ref 843),(.int 398 0),(.int 4 0),(.ref 850),(.int 401 0),(.int 4 0),(.ref 857),(.int 409 0),(.int 4 0),(.ref 864),(.int 412 0),(.int 4 0),(.ref 869)]⟩)
def o822:=H0 "Stay" 1227 381 820 1230
def o823:=H1 822 819 "eachstepsame.blockrun" 1214
def o826:=H9 "self" 1240 "function" "given"
def o828:=H7 45 0 "Stay.__init__"
def o829:=H4 "__init__" 1237 "Stay.__init__" 383 3 824 1243 1244
def o830:=H8 45 0 "Stay.__init__" "eachstepsame.blockrun" 1214 829
def o833:=H24 "self" 1249 "number" "given" "block" "name" "value"
def o835:=H7 45 1 "Stay.come_to"
def o836:=H4 "come_to" 1246 "Stay.come_to" 388 3 831 1255 1256
def o837:=H8 45 1 "Stay.come_to" "eachstepsame.blockrun" 1214 836
def o840:=H9 "self" 1261 "edge" "results"
def o842:=H7 45 2 "Stay.go_along"
def o843:=H4 "go_along" 1258 "Stay.go_along" 395 3 838 1264 1265
def o844:=H8 45 2 "Stay.go_along" "eachstepsame.blockrun" 1214 843
def o847:=H18 "self" 1270 "value"
def o849:=H7 45 3 "Stay.go_well"
def o850:=H4 "go_well" 1267 "Stay.go_well" 398 2 845 1272 1273
def o851:=H8 45 3 "Stay.go_well" "eachstepsame.blockrun" 1214 850
def o854:=H10 "self" 1278 "fault" "caught" "edge"
def o856:=H7 45 4 "Stay.goes_on_at"
def o857:=H4 "goes_on_at" 1275 "Stay.goes_on_at" 401 2 852 1282 1283
def o858:=H8 45 4 "Stay.goes_on_at" "eachstepsame.blockrun" 1214 857
def o861:=H18 "self" 1288 "operand"
def o863:=H7 45 5 "Stay.value_of"
def o864:=H4 "value_of" 1285 "Stay.value_of" 409 2 859 1290 1291
def o865:=H8 45 5 "Stay.value_of" "eachstepsame.blockrun" 1214 864
def o868:=H7 45 6 "Stay.values_of"
def o869:=H25 "values_of" 1293 "Stay.values_of" 412 2 866 1296
def o870:=H8 45 6 "Stay.values_of" "eachstepsame.blockrun" 1214 869
def o871:=H10 "end" 1299 "function" "have" "rows"
def o872(P:Params):=dc 4 [(ds P "__module__" 1232 "eachstepsame.blockrun" 1214),(de P "__firstlineno__" 1236 (.int 381 1235)),(dr P "__init__" 1245 830),(dr P "come_to" 1257 837),(dr P "go_along" 1266 844),(dr P "go_well" 1274 851),(dr P "goes_on_at" 1284 858),(dr P "value_of" 1292 865),(dr P "values_of" 1298 870),(dr P "__static_attributes__" 1303 871),(dr P "__dict__" 1305 874),(dr P "__weakref__" 1307 875),(de P "__doc__" 1308 .none)]
def o873:=H11 "Stay" 873 872 1225
def o874:=H12 1304 873
def o875:=H13 1306 873
def o876:=H14 873
def o877:=H15 873
def o878:=tu [(.ref 807)]
def o880(P:Params):=H16 P 1318 "eachstepsame.blockrun" 1214 "BlockRunner" 414 "__init__" 1331 891 "begin" 1340 "do_row" 1349 905 "do_end" 1358 1360
def o882:=H17 416 890 420 423 904 431
def o883:=H0 "BlockRunner" 1313 414 881 1316
def o884:=H1 883 880 "eachstepsame.blockrun" 1214
def o887:=H9 "self" 1326 "code" "budget"
def o889:=H7 46 0 "BlockRunner.__init__"
def o890:=H4 "__init__" 1323 "BlockRunner.__init__" 416 3 885 1329 1330
def o891:=H8 46 0 "BlockRunner.__init__" "eachstepsame.blockrun" 1214 890
def o894:=H9 "self" 1335 "name" "given"
def o896:=H7 46 1 "BlockRunner.begin"
def o897:=H4 "begin" 1332 "BlockRunner.begin" 420 3 892 1338 1339
def o898:=H8 46 1 "BlockRunner.begin" "eachstepsame.blockrun" 1214 897
def o901:=H9 "self" 1344 "stay" "row"
def o903:=H7 46 2 "BlockRunner.do_row"
def o904:=H4 "do_row" 1341 "BlockRunner.do_row" 423 3 899 1347 1348
def o905:=H8 46 2 "BlockRunner.do_row" "eachstepsame.blockrun" 1214 904
def o908:=H9 "self" 1353 "stay" "end"
def o910:=H7 46 3 "BlockRunner.do_end"
def o911:=H4 "do_end" 1350 "BlockRunner.do_end" 431 3 906 1356 1357
def o912:=H8 46 3 "BlockRunner.do_end" "eachstepsame.blockrun" 1214 911
def o913:=H2 "code" 1359
def o914(P:Params):=H23 P 2 1318 "eachstepsame.blockrun" 1214 414 1331 891 "begin" 1340 "do_row" 1349 905 "do_end" 1358 912 "__static_attributes__"
noncomputable def o915:Obj:=⟨(.type "type"),none,(.cls ⟨"BlockRunner",[(.ref 807)],[(.ref 915),(.ref 807),(.ref 716),(.type "object")],914,"BlockRunner",true,[],[],false,none,false⟩),⟨[(some (.ref 878)),none,(some (.str "BlockRunner" 1311)),(some (.str "BlockRunner" 1319)),(some (.builtin "object.__new__")),(some (.bool true))]⟩⟩
def o916:=H14 915
def o917:=H15 915
def o920:=H18 "_law_script" 1369 "_law_k"
def o922:=H3 48 "_law_cell_at"
def o923:=H4 "_law_cell_at" 1366 "_law_cell_at" 445 2 918 1371 1372
def o924:=H5 48 "_law_cell_at" "law_eachstepsame_k27_beginnings_refused" 1364 923
def o927:=H9 "_law_cell" 1377 "_law_k" "_law_number"
def o929:=H3 49 "_law_mixed"
def o930:=H4 "_law_mixed" 1374 "_law_mixed" 449 2 925 1380 1381
def o931:=H5 49 "_law_mixed" "law_eachstepsame_k27_beginnings_refused" 1364 930
def o934:=H6 "_law_cell" 1386 "_law_k" "_law_way" "_law_parts" "_law_by"
def o936:=H3 50 "_law_sort_by"
def o937:=H4 "_law_sort_by" 1383 "_law_sort_by" 453 2 932 1391 1392
def o938:=H5 50 "_law_sort_by" "law_eachstepsame_k27_beginnings_refused" 1364 937
def o941:=H2 "_law_kind" 1397
def o943:=H3 51 "_law_pieces"
def o944:=H4 "_law_pieces" 1394 "_law_pieces" 465 1 939 1398 1399
def o945:=H5 51 "_law_pieces" "law_eachstepsame_k27_beginnings_refused" 1364 944
def o948:=H31 "_law_kind" 1404 "_law_cell" "_law_k" "_law_way" "_law_found" "_law_j" "_law_part"
def o950:=H3 52 "_law_fitting"
def o951:=H4 "_law_fitting" 1401 "_law_fitting" 471 3 946 1411 1412
def o952:=H5 52 "_law_fitting" "law_eachstepsame_k27_beginnings_refused" 1364 951
def o955:=H31 "_law_kind" 1417 "_law_value" "_law_cell" "_law_at" "_law_other" "_law_some" "_law_one"
def o957:=H3 53 "_law_no_value"
def o958:=H4 "_law_no_value" 1414 "_law_no_value" 481 3 953 1424 1425
def o959:=H5 53 "_law_no_value" "law_eachstepsame_k27_beginnings_refused" 1364 958
def o962:=H3 54 "_law_made"
def o963:=H25 "_law_made" 1427 "_law_made" 496 2 960 1430
def o964:=H5 54 "_law_made" "law_eachstepsame_k27_beginnings_refused" 1364 963
def o967:=H3 55 "_law_tagged"
def o968:=H25 "_law_tagged" 1433 "_law_tagged" 506 1 965 1436
def o969:=H5 55 "_law_tagged" "law_eachstepsame_k27_beginnings_refused" 1364 968
def o972:=H24 "_law_code" 1442 "_law_things" "_law_budget" "_law_told" "_law_found" "e"
def o974:=H3 56 "_law_run"
def o975:=H4 "_law_run" 1439 "_law_run" 510 3 970 1448 1449
def o976:=H5 56 "_law_run" "law_eachstepsame_k27_beginnings_refused" 1364 975
def o979:=H3 57 "_law_good"
def o980:=H25 "_law_good" 1451 "_law_good" 520 2 977 1454
def o981:=H5 57 "_law_good" "law_eachstepsame_k27_beginnings_refused" 1364 980
def o984:=H2 "_law_cell" 1460
def o986:=H3 58 "_law_bad_budget"
def o987:=H4 "_law_bad_budget" 1457 "_law_bad_budget" 528 1 982 1461 1462
def o988:=H5 58 "_law_bad_budget" "law_eachstepsame_k27_beginnings_refused" 1364 987
def o991:=H3 59 "law"
def o992:=H25 "law" 1464 "law" 530 1 989 1467
def o993:=H5 59 "law" "law_eachstepsame_k27_beginnings_refused" 1364 992
def ha(P:Params):Heap:=⟨⟨[(boot_o_0 P),(boot_o_1 P),(boot_o_2 P),(boot_o_3 P),(boot_o_4 P),(boot_o_5 P),(boot_o_6 P),(boot_o_7 P),(boot_o_8 P),(boot_o_9 P),(boot_o_10 P),t0,o12a,o13a,o14a]⟩,{}⟩
def tb1(P:Params):BT:=n7 (boot_o_1 P) (boot_o_3 P) (boot_o_7 P) t0 (boot_o_5 P) (boot_o_9 P) o13a
def tb2(P:Params):BT:=n7 (boot_o_2 P) (boot_o_4 P) (boot_o_8 P) o12a (boot_o_6 P) (boot_o_10 P) o14a
def tb(P:Params):BT:=(.node (boot_o_0 P) (tb1 P) (tb2 P))
def h0(P:Params)(r:List Obj):List Obj:=(boot_o_0 P)::(boot_o_1 P)::(boot_o_2 P)::(o3 P)::(boot_o_4 P)::(boot_o_5 P)::(boot_o_6 P)::(boot_o_7 P)::(boot_o_8 P)::(boot_o_9 P)::(boot_o_10 P)::t0::o12::o13a::o14a::t0::o12a::o17::t0::o19::o20::o21::t0::o23::r
def h1(P:Params)(r:List Obj):List Obj:=(o24 P)::t0::o26::o27::o28::t0::o12a::o31::t0::o33::o34::o35::t0::o12a::o38::t0::o40::o41::o42::t0::o12a::o45::t0::o47::r
def h2(P:Params)(r:List Obj):List Obj:=o48::o49::o50::(o51 P)::o52::o53::o54::o55::o56::t0::o23::(o59 P)::t0::o61::o62::o63::t0::o12a::o66::t0::o68::o69::o70::t0::r
def h3(P:Params)(r:List Obj):List Obj:=o12a::o73::t0::o75::o76::o77::t0::o12a::o80::t0::o82::o83::o84::t0::o12a::o87::t0::o89::o90::o91::t0::(o93 P)::o94::o95::r
def h4(P:Params)(r:List Obj):List Obj:=o96::o97::o98::o99::o23::(o101 P)::t0::o103::o104::o105::t0::o12a::o108::t0::o110::o111::o112::t0::o12a::o115::t0::o117::o118::o119::r
def h5(P:Params)(r:List Obj):List Obj:=t0::o12a::o122::t0::o124::o125::o126::t0::o12a::o129::t0::o131::o132::o133::t0::o12a::o136::t0::o138::o139::o140::o141::(o142 P)::o143::r
def h6(P:Params)(r:List Obj):List Obj:=o144::o145::o99::o23::(o148 P)::t0::o150::o151::o152::t0::o12a::o155::t0::o157::o158::o159::t0::o12a::o162::t0::o164::o165::o166::t0::r
def h7(P:Params)(r:List Obj):List Obj:=o12a::o169::t0::o171::o172::o173::t0::o12a::o176::t0::o178::o179::o180::t0::o12a::o183::t0::o185::o186::o187::t0::o12a::o190::t0::r
def h8(P:Params)(r:List Obj):List Obj:=o192::o193::o194::o195::(o196 P)::o197::o198::o199::o99::o23::(o202 P)::t0::o204::o205::o206::t0::o12a::o209::t0::o211::o212::o213::t0::o12a::r
def h9(P:Params)(r:List Obj):List Obj:=o216::t0::o218::o219::o220::t0::o12a::o223::t0::o225::o226::o227::t0::o12a::o230::t0::o232::o233::o234::o235::(o236 P)::o237::o238::o239::r
def h10(P:Params)(r:List Obj):List Obj:=o99::o23::(o242 P)::t0::o244::o245::o246::t0::o12a::o249::t0::o251::o252::o253::t0::o12a::o256::t0::o258::o259::o260::t0::o12a::o263::r
def h11(P:Params)(r:List Obj):List Obj:=t0::o265::o266::o267::o268::(o269 P)::o270::o271::o272::o99::o23::(o275 P)::t0::o277::o278::o279::t0::o12a::o282::t0::o284::o285::o286::t0::r
def h12(P:Params)(r:List Obj):List Obj:=o12a::o289::t0::o291::o292::o293::t0::o12a::o296::t0::o298::o299::o300::t0::o12a::o303::t0::o305::o306::o307::t0::o12a::o310::t0::r
def h13(P:Params)(r:List Obj):List Obj:=o312::o313::o314::t0::o12a::o317::t0::o319::o320::o321::o322::(o323 P)::o324::o325::o326::t0::o23::(o329 P)::t0::o331::o332::o333::t0::o12a::r
def h14(P:Params)(r:List Obj):List Obj:=o336::t0::o338::o339::o340::t0::o12a::o343::t0::o345::o346::o347::t0::o12a::o350::o351::o352::t0::o12a::o355::t0::o357::o358::o359::r
def h15(P:Params)(r:List Obj):List Obj:=o360::(o361 P)::o362::o363::o364::o365::o366::t0::o23::(o369 P)::t0::o371::o372::o373::t0::o12a::o376::t0::o378::o379::o380::t0::o12a::o383::r
def h16(P:Params)(r:List Obj):List Obj:=t0::o385::o386::o387::t0::o12a::o390::t0::o392::o393::o394::t0::o12a::o397::t0::o399::o400::o401::t0::o12a::o404::t0::o406::o407::r
def h17(P:Params)(r:List Obj):List Obj:=o408::t0::o12a::o411::t0::o413::o414::o415::o416::(o417 P)::o418::o419::o420::o421::o422::t0::o23::(o425 P)::t0::o427::o428::o429::t0::o12a::r
def h18(P:Params)(r:List Obj):List Obj:=o432::t0::o434::o435::o436::t0::o12a::o439::t0::o441::o442::o443::t0::o12a::o446::t0::o448::o449::o450::t0::o12a::o453::t0::o455::r
def h19(P:Params)(r:List Obj):List Obj:=o456::o457::t0::o12a::o460::t0::o462::o463::o464::t0::o12a::o467::t0::o469::o470::o471::o472::(o473 P)::o474::o475::o476::o477::o478::o479::r
def h20(P:Params)(r:List Obj):List Obj:=o23::(o481 P)::t0::o12a::o484::o485::t0::(o487 P)::o488::o489::o490::o491::o492::o23::(o494 P)::t0::o496::o497::o498::t0::o12a::o501::t0::o503::r
def h21(P:Params)(r:List Obj):List Obj:=o504::o505::o506::(o507 P)::o508::o509::o510::o492::o23::(o513 P)::t0::o515::o516::o517::t0::o12a::o520::t0::o522::o523::o524::t0::(o526 P)::o527::r
def h22(P:Params)(r:List Obj):List Obj:=o528::o529::o492::o23::(o532 P)::t0::o534::o535::o536::t0::o12a::o539::t0::o541::o542::o543::o544::(o545 P)::o546::o547::o548::o549::o550::t0::r
def h23(P:Params)(r:List Obj):List Obj:=o12a::o553::t0::o555::o556::o557::t0::o12a::o560::t0::o562::o563::o564::t0::o12a::o567::o568::o569::t0::o12a::o572::o573::o574::t0::r
def h24(P:Params)(r:List Obj):List Obj:=o12a::o577::o578::o579::o580::t0::o12a::o583::t0::o585::o586::o587::t0::o12a::o590::t0::o592::o593::o594::t0::o12a::o597::t0::o599::r
def h25(P:Params)(r:List Obj):List Obj:=o600::o601::t0::o12a::o604::t0::o606::o607::o608::t0::o12a::o611::t0::o613::o614::o615::t0::o12a::o618::t0::o620::o621::o622::t0::r
def h26(P:Params)(r:List Obj):List Obj:=o12a::o625::t0::o627::o628::o629::t0::o12a::o632::t0::o634::o635::o636::t0::o23::(o639 P)::t0::o641::o642::o643::t0::o12a::o646::t0::r
def h27(P:Params)(r:List Obj):List Obj:=o648::o649::o650::t0::o12a::o653::t0::o655::o656::o657::o658::(o659 P)::o660::o661::o662::o663::o664::t0::o23::(o667 P)::t0::o669::o670::o671::r
def h28(P:Params)(r:List Obj):List Obj:=t0::o12a::o674::t0::o676::o677::o678::t0::o12a::o681::t0::o683::o684::o685::t0::o12a::o688::t0::o690::o691::o692::t0::o12a::o695::r
def h29(P:Params)(r:List Obj):List Obj:=t0::o697::o698::o699::t0::o12a::o702::t0::o704::o705::o706::t0::o12a::o709::t0::o711::o712::o713::o714::(o715 P)::o716::o717::o718::o719::r
def h30(P:Params)(r:List Obj):List Obj:=o720::t0::o12a::o723::t0::o725::o726::o727::t0::o12a::o730::t0::o732::o733::o734::t0::o12a::o737::t0::o739::o740::o741::o742::o23::r
def h31(P:Params)(r:List Obj):List Obj:=(o744 P)::t0::o746::o747::o748::t0::o12a::o751::t0::o753::o754::o755::t0::o12a::o758::t0::o760::o761::o762::t0::o12a::o765::t0::o767::r
def h32(P:Params)(r:List Obj):List Obj:=o768::o769::t0::o12a::o772::t0::o774::o775::o776::t0::o12a::o779::t0::o781::o782::o783::t0::o12a::o786::t0::o788::o789::o790::t0::r
def h33(P:Params)(r:List Obj):List Obj:=o12a::o793::t0::o795::o796::o797::t0::o12a::o800::t0::o802::o803::o804::o805::(o806 P)::o807::o808::o809::t0::o12a::o812::t0::o814::o815::r
def h34(P:Params)(r:List Obj):List Obj:=o816::t0::o23::(o819 P)::t0::o821::o822::o823::t0::o12a::o826::t0::o828::o829::o830::t0::o12a::o833::t0::o835::o836::o837::t0::o12a::r
def h35(P:Params)(r:List Obj):List Obj:=o840::t0::o842::o843::o844::t0::o12a::o847::t0::o849::o850::o851::t0::o12a::o854::t0::o856::o857::o858::t0::o12a::o861::t0::o863::r
def h36(P:Params)(r:List Obj):List Obj:=o864::o865::t0::o12a::o868::o869::o870::o871::(o872 P)::o873::o874::o875::o876::o877::o878::o23::(o880 P)::t0::o882::o883::o884::t0::o12a::o887::r
def h37(P:Params)(r:List Obj):List Obj:=t0::o889::o890::o891::t0::o12a::o894::t0::o896::o897::o898::t0::o12a::o901::t0::o903::o904::o905::t0::o12a::o908::t0::o910::o911::r
def h38(P:Params)(r:List Obj):List Obj:=o912::o913::(o914 P)::o915::o916::o917::t0::o12a::o920::t0::o922::o923::o924::t0::o12a::o927::t0::o929::o930::o931::t0::o12a::o934::t0::r
def h39(P:Params)(r:List Obj):List Obj:=o936::o937::o938::t0::o12a::o941::t0::o943::o944::o945::t0::o12a::o948::t0::o950::o951::o952::t0::o12a::o955::t0::o957::o958::o959::r
def h40(P:Params)(r:List Obj):List Obj:=t0::o12a::o962::o963::o964::t0::o12a::o967::o968::o969::t0::o12a::o972::t0::o974::o975::o976::t0::o12a::o979::o980::o981::t0::o12a::r
def h41(P:Params)(r:List Obj):List Obj:=o984::t0::o986::o987::o988::t0::o12a::o991::o992::o993::r
def hl(P:Params):List Obj:=h0 P (h1 P (h2 P (h3 P (h4 P (h5 P (h6 P (h7 P (h8 P (h9 P (h10 P (h11 P (h12 P (h13 P (h14 P (h15 P (h16 P (h17 P (h18 P (h19 P (h20 P (h21 P (h22 P (h23 P (h24 P (h25 P (h26 P (h27 P (h28 P (h29 P (h30 P (h31 P (h32 P (h33 P (h34 P (h35 P (h36 P (h37 P (h38 P (h39 P (h40 P (h41 P ([]))))))))))))))))))))))))))))))))))))))))))
def hf(P:Params):Heap:=⟨⟨hl P⟩,{}⟩
noncomputable def ev:List Obj→List Obj
 |a::_::l=>a::ev l
 |l=>l
noncomputable def od:List Obj→List Obj
 |_::b::l=>b::od l
 |_=>[]
def mT:Nat→List Obj→BT
 |n+1,a::l=> .node a (mT n (ev l)) (mT n (od l))
 |_,_=> .nil
def tl(P:Params):BT:=mT 11 (hl P)
noncomputable def pk:Nat→List Addr→List Obj→Frag
 |n,a::r,o::l=>if Nat.beq n a then(a,o)::pk (n+1) r l else pk (n+1) (a::r) l
 |_,_,_=>[]
noncomputable def as:List Addr:=[2,3,15,17,18,20,21,29,31,32,34,35,36,38,39,41,42,43,45,46,48,49,50,51,52,53,54,64,66,67,69,70,71,73,74,76,77,78,80,81,83,84,85,87,88,90,91,92,93,94,95,96,99,106,108,109,111,112,113,115,116,118,119,120,122,123,125,126,127,129,130,132,133,134,136,137,139,140,141,142,143,146,153,155,156,158,159,160,162,163,165,166,167,169,170,172,173,174,176,177,179,180,181,183,184,186,187,188,190,191,193,194,195,196,197,200,207,209,210,212,213,214,216,217,219,220,221,223,224,226,227,228,230,231,233,234,235,236,237,240,247,249,250,252,253,254,256,257,259,260,261,263,264,266,267,268,269,270,273,280,282,283,285,286,287,289,290,292,293,294,296,297,299,300,301,303,304,306,307,308,310,311,313,314,315,317,318,320,321,322,323,324,334,336,337,339,340,341,343,344,346,347,348,351,352,353,355,356,358,359,360,361,362,363,364,374,376,377,379,380,381,383,384,386,387,388,390,391,393,394,395,397,398,400,401,402,404,405,407,408,409,411,412,414,415,416,417,418,419,420,430,432,433,435,436,437,439,440,442,443,444,446,447,449,450,451,453,454,456,457,458,460,461,463,464,465,467,468,470,471,472,473,474,475,476,479,486,487,488,489,492,499,501,502,504,505,506,507,508,511,518,520,521,523,524,525,526,527,530,537,539,540,542,543,544,545,546,549,550,551,553,554,556,557,558,560,561,563,564,565,568,569,570,573,574,575,578,579,580,581,583,584,586,587,588,590,591,593,594,595,597,598,600,601,602,604,605,607,608,609,611,612,614,615,616,618,619,621,622,623,625,626,628,629,630,632,633,635,636,644,646,647,649,650,651,653,654,656,657,658,659,660,661,662,672,674,675,677,678,679,681,682,684,685,686,688,689,691,692,693,695,696,698,699,700,702,703,705,706,707,709,710,712,713,714,715,716,717,718,721,723,724,726,727,728,730,731,733,734,735,737,738,740,741,742,749,751,752,754,755,756,758,759,761,762,763,765,766,768,769,770,772,773,775,776,777,779,780,782,783,784,786,787,789,790,791,793,794,796,797,798,800,801,803,804,805,806,807,810,812,813,815,816,824,826,827,829,830,831,833,834,836,837,838,840,841,843,844,845,847,848,850,851,852,854,855,857,858,859,861,862,864,865,866,869,870,871,872,873,874,875,878,885,887,888,890,891,892,894,895,897,898,899,901,902,904,905,906,908,909,911,912,913,914,915,918,920,921,923,924,925,927,928,930,931,932,934,935,937,938,939,941,942,944,945,946,948,949,951,952,953,955,956,958,959,960,963,964,965,968,969,970,972,973,975,976,977,980,981,982,984,985,987,988,989,992,993]
def K(P:Params):Frag:=pk 0 as (hl P)
def kc(P:Params):Frag:=K P
noncomputable def env:Env:={scope:=PySem.Challenge.pw_eachstepsame_k27_beginnings_refused.main.scope,locals:=mainNs,globals:=mainNs,cells:=[],code:=(.ref 13),frame:=some 14}
def cE:Code:= .body (behindTheImports PySem.Challenge.pw_eachstepsame_k27_beginnings_refused) env
theorem tws:((fun(_:Params→BT) (_:Params→BT) (_:Params→Heap) (_:Params→Heap) (_:Params→Frag) (_:Program) (_:Code)=>true) tb tl ha hf kc q cE)=true:=by k_qdec
theorem pre(w:World):(fun os:OsState=>topGo treeTable PySem.Challenge.pw_eachstepsame_k27_beginnings_refused w 11 (some (.ref 6)) 12 ⟨boot_heap w.params,⟨[]⟩,boot_drawn,boot_toks,os⟩ (topStub PySem.Challenge.pw_eachstepsame_k27_beginnings_refused))=fun os=>some (⟨ha w.params,⟨[]⟩,{},187,os⟩,⟨denote treeTable cE,cE,⟨0,0,0,0⟩,[topFrame ⟨0,0,0,0⟩]⟩):=by
 rewrite[PySem.W.Fast.te15667345088766844465,PySem.W.Fast.te14364793385576792824,PySem.W.Fast.te9426274577428465108,PySem.W.Fast.te12167769141508308155,PySem.W.Fast.te11892475500146522536,PySem.W.Fast.te2343313782933208130]
 kernel_rfl
theorem block(w:World):(fun os:OsState=>segRun treeTable PySem.Challenge.pw_eachstepsame_k27_beginnings_refused w 11 (some (.ref 6)) 1 1 ⟨ha w.params,⟨[]⟩,{},187,os⟩ (blockOf (behindTheImports PySem.Challenge.pw_eachstepsame_k27_beginnings_refused) env cE ⟨0,0,0,0⟩ [topFrame ⟨0,0,0,0⟩]))=fun os=>some (Flow.next,(⟨tb w.params,15,{},⟨[]⟩,{},187,os⟩:SharedT).abs,cE,⟨0,0,0,0⟩):=by
 rewrite[PySem.W.Fast.te14374325043358763698,PySem.W.Fast.te14364793385576792824,PySem.W.Fast.te9426274577428465108,PySem.W.Fast.te12167769141508308155,PySem.W.Fast.te17306263501064129316,PySem.W.Fast.te17150320874572105945,PySem.W.Fast.te2343313782933208130]
 kernel_rfl
theorem seg(w:World):(fun os:OsState=>segRunT treeTable PySem.Challenge.pw_eachstepsame_k27_beginnings_refused w 11 (some (.ref 6)) 1 7351 (⟨tb w.params,15,{},⟨[]⟩,{},187,os⟩:SharedT) (piecesOf (behindTheImports PySem.Challenge.pw_eachstepsame_k27_beginnings_refused) env cE ⟨0,0,0,0⟩ [topFrame ⟨0,0,0,0⟩]))=fun os=>some (Flow.next,(⟨tl w.params,994,{},⟨[]⟩,{},1470,os⟩:SharedT),cE,⟨530,0,562,64⟩):=by
 rewrite[PySem.W.Fast.te10110043849684766642,PySem.W.Fast.te14364793385576792824,PySem.W.Fast.te9426274577428465108,PySem.W.Fast.te17306263501064129316,PySem.W.Fast.te7101502176447651324,PySem.W.Fast.te17150320874572105945,PySem.W.Fast.te2343313782933208130]
 kernel_rfl
theorem fin(w:World):(fun os:OsState=>topRun treeTable PySem.Challenge.pw_eachstepsame_k27_beginnings_refused w 11 (some (.ref 6)) 2 (⟨tl w.params,994,{},⟨[]⟩,{},1470,os⟩:SharedT).abs ⟨doneF .next,cE,⟨530,0,562,64⟩,[topFrame ⟨0,0,0,0⟩]⟩)=fun os=>some (⟨hf w.params,⟨[]⟩,{},1470,os⟩:Shared):=by
 rewrite[PySem.W.Fast.te14082659384304107361,PySem.W.Fast.te14364793385576792824,PySem.W.Fast.te9426274577428465108,PySem.W.Fast.te7101502176447651324,PySem.W.Fast.te10544986032919753165,PySem.W.Fast.te2343313782933208130]
 kernel_rfl
theorem run(w:World)(os:OsState):topRun treeTable PySem.Challenge.pw_eachstepsame_k27_beginnings_refused w 11 (some (.ref 6)) (12+(1+(7351+2))) ⟨boot_heap w.params,⟨[]⟩,boot_drawn,boot_toks,os⟩ (topStub PySem.Challenge.pw_eachstepsame_k27_beginnings_refused)=some (⟨hf w.params,⟨[]⟩,{},1470,os⟩:Shared):=by
 have a:=piece_app (rest:=[]) (segRun_of (congrFun (seg w) os)) (piece_nil (congrFun (fin w) os))
 rw[List.append_nil] at a
 exact go_top (congrFun (pre w) os) (piece_block (congrFun (block w) os) a)
def Xt(s:Shared):Bool:=xlAt q [] s&&recOk [] s
theorem keys(P:Params):as=(K P).map (·.1):=by kernel_rfl
def hk:Hook:=kHook K as keys
theorem lk1(w:World):(fun os:OsState=>staticsOk (importedModules PySem.Challenge.pw_eachstepsame_k27_beginnings_refused.main.body) (boot_heap w.params) (hf w.params)&&namesBound PySem.Challenge.pw_eachstepsame_k27_beginnings_refused (hf w.params)&&gensDone (⟨hf w.params,⟨[]⟩,{},1470,os⟩:Shared)&&laidKept (boot_heap w.params) (hf w.params))=fun os=>true:=by
 rewrite[PySem.W.Fast.te5923862056798008813,PySem.W.Fast.te9426274577428465108,PySem.W.Fast.te10544986032919753165]
 kernel_rfl
theorem lk2(w:World):(fun os:OsState=>seen ((recsOf q).map (·.name)) (ownsOf q) [] {(⟨hf w.params,⟨[]⟩,{},1470,os⟩:Shared) with gens:= #[]})=fun os=>expectedOf q:=by
 rewrite[PySem.W.Fast.te5160383126252970620,PySem.W.Fast.te3399658132070893891,PySem.W.Fast.te5991557255702980513,PySem.W.Fast.te1768822226353211369,PySem.W.Fast.te10544986032919753165]
 kernel_rfl
theorem lk3(w:World):(fun os:OsState=>(⟨hf w.params,⟨[]⟩,{},1470,os⟩:Shared).heap.bltView)=fun os=>bltViewBooted:=by
 rewrite[PySem.W.Fast.te10544986032919753165]
 kernel_rfl
theorem lk4(w:World):(fun os:OsState=>(⟨hf w.params,⟨[]⟩,{},1470,os⟩:Shared).heap.keysOk (looseW q []) ((recsOf q).map (·.name)) ((litsOf q).map (·.1)) ((clssOf q (looseW q [])).map (·.name))&&(⟨hf w.params,⟨[]⟩,{},1470,os⟩:Shared).heap.accountedOkI (importedModules PySem.Challenge.pw_eachstepsame_k27_beginnings_refused.main.body)&&(⟨hf w.params,⟨[]⟩,{},1470,os⟩:Shared).heap.isNs mainGlobals&&(⟨hf w.params,⟨[]⟩,{},1470,os⟩:Shared).heap.isNs builtinsNs&&tablesOk q (⟨hf w.params,⟨[]⟩,{},1470,os⟩:Shared).heap&&Xt (⟨hf w.params,⟨[]⟩,{},1470,os⟩:Shared)&&(if true then(⟨hf w.params,⟨[]⟩,{},1470,os⟩:Shared).gens.size==0 else !leftWithCleanup (⟨hf w.params,⟨[]⟩,{},1470,os⟩:Shared).gens))=fun os=>true:=by
 rewrite[PySem.W.Fast.te821141287760084731,PySem.W.Fast.te3399658132070893891,PySem.W.Fast.te7409074990110511671,PySem.W.Fast.te13664370479719496447,PySem.W.Fast.te5923862056798008813,PySem.W.Fast.te10994771534591457954,PySem.W.Fast.te9426274577428465108,PySem.W.Fast.te1768822226353211369,PySem.W.Fast.te10544986032919753165]
 kernel_rfl
theorem lk5(w:World):(fun os:OsState=>tabsOk q (⟨hf w.params,⟨[]⟩,{},1470,os⟩:Shared))=fun os=>true:=by
 rewrite[PySem.W.Fast.te479339242167458305,PySem.W.Fast.te1768822226353211369,PySem.W.Fast.te10544986032919753165]
 kernel_rfl
theorem lk6(w:World):(fun os:OsState=>pinSeenD q (drecsOf q) (⟨hf w.params,⟨[]⟩,{},1470,os⟩:Shared))=fun os=>pinGoodD (drecsOf q):=by
 rewrite[PySem.W.Fast.te16090120013241838585,PySem.W.Fast.te3247288618530077131,PySem.W.Fast.te1768822226353211369,PySem.W.Fast.te10544986032919753165]
 kernel_rfl
theorem lk7(w:World):(fun os:OsState=>plainSeenE q (looseW q []) (⟨hf w.params,⟨[]⟩,{},1470,os⟩:Shared))=fun os=>plainGoodE q (looseW q []):=by
 rewrite[PySem.W.Fast.te2386780881361962483,PySem.W.Fast.te821141287760084731,PySem.W.Fast.te1768822226353211369,PySem.W.Fast.te10544986032919753165]
 kernel_rfl
theorem lk8(w:World):(fun os:OsState=>plainSeenD q [] (⟨hf w.params,⟨[]⟩,{},1470,os⟩:Shared))=fun os=>plainGoodD q []:=by
 rewrite[PySem.W.Fast.te11698064438423848299,PySem.W.Fast.te1768822226353211369,PySem.W.Fast.te10544986032919753165]
 kernel_rfl
theorem lk9(w:World):(fun os:OsState=>wideSeen q (⟨hf w.params,⟨[]⟩,{},1470,os⟩:Shared))=fun os=>wideGood q:=by
 rewrite[PySem.W.Fast.te7317090234206586261,PySem.W.Fast.te1768822226353211369,PySem.W.Fast.te10544986032919753165]
 kernel_rfl
theorem lk10(w:World):(fun os:OsState=>clsSeenW q [] (⟨hf w.params,⟨[]⟩,{},1470,os⟩:Shared))=fun os=>clsGoodW q []:=by
 rewrite[PySem.W.Fast.te7369524293546568484,PySem.W.Fast.te1768822226353211369,PySem.W.Fast.te10544986032919753165]
 kernel_rfl
theorem kkc:K=kc:=rfl
theorem lk11(w:World):(fun os:OsState=>hk.obs (⟨hf w.params,⟨[]⟩,{},1470,os⟩:Shared))=fun os=>hk.val w:=by
 show(fun os:OsState=>as.map (⟨hf w.params,⟨[]⟩,{},1470,os⟩:Shared).heap.get?)=fun os=>(K w.params).map fun p=>some p.2
 rewrite[kkc,PySem.W.Fast.te10544986032919753165,PySem.W.Fast.te11339538413228328203]
 kernel_rfl
theorem looks(w:World):(fun os:OsState=>((staticsOk (importedModules PySem.Challenge.pw_eachstepsame_k27_beginnings_refused.main.body) (boot_heap w.params) (hf w.params)&&namesBound PySem.Challenge.pw_eachstepsame_k27_beginnings_refused (hf w.params)&&gensDone (⟨hf w.params,⟨[]⟩,{},1470,os⟩:Shared)&&laidKept (boot_heap w.params) (hf w.params)),
  openSeen q [] (importedModules PySem.Challenge.pw_eachstepsame_k27_beginnings_refused.main.body) Xt true (⟨hf w.params,⟨[]⟩,{},1470,os⟩:Shared),hk.obs (⟨hf w.params,⟨[]⟩,{},1470,os⟩:Shared)))=fun _=>(true,openGood q [],hk.val w):=by
 funext os
 refine looks_pair (congrFun (lk1 w) os) (looks_pair ?_ (congrFun (lk11 w) os))
 exact looks_pair (congrFun (lk2 w) os) (looks_pair (congrFun (lk3 w) os) (looks_pair (congrFun (lk4 w) os) (looks_pair (congrFun (lk5 w) os) (looks_pair (congrFun (lk6 w) os) (looks_pair (congrFun (lk7 w) os) (looks_pair (congrFun (lk8 w) os) (looks_pair (congrFun (lk9 w) os) (congrFun (lk10 w) os))))))))
theorem left:LeftO PySem.Challenge.pw_eachstepsame_k27_beginnings_refused q [] Xt hk.obs hk.val 14826 true:=
 LeftO.of_pieces (boot_open (by kernel_rfl) (by kernel_rfl) (fun s=>by kernel_rfl)) (fun w=>by kernel_rfl) run (by kernel_rfl) looks
end
end Op
section
open PySem PySem.Spec PyProof.Rows
noncomputable def aa:= @wpAny_bind
noncomputable def ac:= @Heap.get?_push_of_some
noncomputable def ah:= @List.getElem?_set_ne
noncomputable def av:= @Bool.false_ne_true
noncomputable def ae:= @wpAny_pure
noncomputable def aj:= @Option.some.inj
noncomputable def af:= @Nat.le_refl
noncomputable def ai:= @Heap.lt_size
noncomputable def ak:= @Nat.ne_of_lt
noncomputable def al:= @List.mem_of_getElem?
noncomputable def am:= @Nat.lt_of_lt_of_le
noncomputable def aq:= @Heap.get?_push_size
noncomputable def aC:= @List.getElem?_eq_getElem
noncomputable def aB:= @List.set_append_left
noncomputable def aD:= @PySem.mem_of_lookup
noncomputable def aF:= @List.length_set
noncomputable def aG:= @Nat.lt_succ_self
noncomputable def aM:= @List.getElem?_map
noncomputable def aL:= @List.mem_append_right
noncomputable def aN:= @List.getElem?_append_left
noncomputable def aQ:= @List.getElem?_append_right
noncomputable def aO:= @List.length_append
noncomputable def aV:= @List.getElem?_set_self
noncomputable def aP:= @Nat.le_trans
noncomputable def aR:= @Nat.ne_of_gt
noncomputable def aX:= @wpAny_setField_rec
noncomputable def aY:= @Int.emod_lt_of_pos
noncomputable def bg:= @Nat.lt_irrefl
noncomputable def aJ:= @wpAny_mono
noncomputable def aH:= @wpAny_field
noncomputable def aW:= @PyProof.Rows.callWith_type1
theorem aA{α:Type _}{l:List α}{i:Nat}{a:α}(h:l[i]? =some a):∃h:i<l.length,l[i]=a:=List.getElem?_eq_some_iff.mp h
noncomputable abbrev ao:=PySem.W.Frag
end
theorem jO{P:Prop}(h:false=true):P:=absurd h av
namespace L2
open PySem PySem.Spec PyProof.Rows
variable{us:List Value}{C a b dx it:Addr}{base h:Heap}{w:World}{P:Program}{o:Obj}{ch fp:List Addr}{i j n t':Nat}{qual x:Str}{u:Value}{E Q:Value→Shared→Prop}{A:Around}{c e tg:Expr}{s:Shared}{pos:Pos}{pins:List (Addr×Obj)}{f:Value→Value→Sem Value}{mA mg:Str→Option Value}{kw:List (Str×Value)}
noncomputable abbrev Key:=Sum Int Str
noncomputable def kt:Key→Value→Bool
 | .inl k,v=>Value.isInt k v
 | .inr x,v=>Value.isStrOf x v
noncomputable def B2(w:World):Key→Int
 | .inl k=>hashInt k
 | .inr x=>hashStr w x
theorem bI:∀{k:Key}{v:Value},kt k v=true→(∃i t,k=Sum.inl i∧v=Value.int i t)∨(∃x t,k=Sum.inr x∧v=Value.str x t)
 | .inl i,v,h=>by
  obtain⟨t,e⟩:=Value.isInt_shape (k:=i) (v:=v) h
  exact .inl ⟨i,t,rfl,e⟩
 | .inr x,v,h=>by
  obtain⟨t,e⟩:=Value.isStrOf_shape (x:=x) (v:=v) h
  exact .inr ⟨x,t,rfl,e⟩
theorem qI(i:Int)(t:Tok):kt (.inl i) (.int i t)=true:=by simp[kt,Value.isInt]
theorem qH(x:Str)(t:Tok):kt (.inr x) (.str x t)=true:=by simp[kt,Value.isStrOf]
theorem yJ(a b:Int):decide ((Sum.inl a:Key)=Sum.inl b)=(a==b):=by
 by_cases e:a=b
 ·subst e;simp
 ·have h:¬(Sum.inl a:Key)=Sum.inl b:=fun q=>e (Sum.inl.inj q)
  rw[decide_eq_false h]
  exact(beq_eq_false_iff_ne.mpr e).symm
theorem yG(a b:Str):decide ((Sum.inr a:Key)=Sum.inr b)=decide (a=b):=by
 by_cases e:a=b
 ·subst e;simp
 ·have h:¬(Sum.inr a:Key)=Sum.inr b:=fun q=>e (Sum.inr.inj q)
  rw[decide_eq_false h,decide_eq_false e]
theorem yI(a:Int)(b:Str):decide ((Sum.inl a:Key)=Sum.inr b)=false:=decide_eq_false (fun q=>nomatch q)
theorem yH(a:Str)(b:Int):decide ((Sum.inr a:Key)=Sum.inl b)=false:=decide_eq_false (fun q=>nomatch q)
noncomputable def bH(prog:Program)(w:World):PySem.KeyKind prog w Key where
 is:=kt
 hash:=B2 w
 inj:=fun v a b ha hb=>by
  rcases bI ha with⟨i,t,rfl,rfl⟩|⟨x,t,rfl,rfl⟩
  ·rcases bI hb with⟨j,u,rfl,e⟩|⟨y,u,rfl,e⟩
   ·injection e with e1 _;rw[e1]
   ·exact nomatch e
  ·rcases bI hb with⟨j,u,rfl,e⟩|⟨y,u,rfl,e⟩
   ·exact nomatch e
   ·injection e with e1 _;rw[e1]
 byValue:=fun k v h=>by
  rcases bI h with⟨i,t,rfl,rfl⟩|⟨x,t,rfl,rfl⟩<;>rfl
 pyHash:=fun hv h=>by
  rcases bI hv with⟨i,t,rfl,rfl⟩|⟨x,t,rfl,rfl⟩
  ·exact wpAny_pyHash_int h
  ·exact wpAny_pyHash_str h
 eqBool:=fun hu hv h=>by
  rcases bI hu with⟨i,t,rfl,rfl⟩|⟨x,t,rfl,rfl⟩
  ·rcases bI hv with⟨j,u,rfl,rfl⟩|⟨y,u,rfl,rfl⟩
   ·rw[yJ] at h;exact wpAny_eqBool_int h
   ·rw[yI] at h;exact SeqAt.EqAt.int_str i t y u _ _ _ _ h
  ·rcases bI hv with⟨j,u,rfl,rfl⟩|⟨y,u,rfl,rfl⟩
   ·rw[yH] at h;exact SeqAt.EqAt.str_int x t j u _ _ _ _ h
   ·rw[yG] at h;exact wpAny_eqBool_str h
 «strs»:=fun k x t v h=>by
  rcases bI h with⟨i,u,rfl,e⟩|⟨y,u,rfl,e⟩
  ·exact nomatch e
  ·injection e with e1 _
   subst e1
   cases v<;>rfl
theorem iM(prog:Program)(w:World)(i:Int)(t:Tok):(bH prog w).is (.inl i) (.int i t)=true:=qI i t
theorem mG(prog:Program)(w:World)(x:Str)(t:Tok):(bH prog w).is (.inr x) (.str x t)=true:=qH x t
inductive V where
 |non|bl (b:Bool)|int (i:Int)|str (x:Str)|byt (b:Array UInt8)|flt (b:UInt64)|ref (a:Addr)|ty (n:String)
 deriving DecidableEq
noncomputable def RelV:V→Value→Prop
 | .non,u=>u=Value.none
 | .bl b,u=>u=Value.bool b
 | .int i,u=>∃t,u=Value.int i t
 | .str x,u=>∃t,u=Value.str x t
 | .byt b,u=>∃t,u=Value.bytes b t
 | .flt b,u=>∃t,u=Value.float b t
 | .ref a,u=>u=Value.ref a
 | .ty n,u=>u=Value.type n
noncomputable abbrev bj:List V→List Value→Prop:=Paired RelV
theorem bj.length{xs:List V}(r:bj xs us):xs.length=us.length:=Paired.length r
theorem bj.get:∀{xs:List V}{us:List Value}{i:Nat}{x:V},bj xs us→xs[i]? =some x→∃u,us[i]? =some u∧RelV x u
 |_,_,_,_,.nil,e=>by simp at e
 |_,_,0,_,.cons r _,e=>by simp at e;subst e;exact⟨_,rfl,r⟩
 |_,_,i+1,x,.cons _ t,e=>by
  obtain⟨u,h1,h2⟩:=bj.get (i:=i) (x:=x) t (by simpa using e)
  exact⟨u,by simpa using h1,h2⟩
theorem bj.append:∀{xs ys:List V}{us ws:List Value},bj xs us→bj ys ws→bj (xs++ys) (us++ws)
 |_,_,_,_,.nil,s=>s
 |_,_,_,_,.cons r t,s=>.cons r (bj.append t s)
theorem bj.take:∀{xs:List V}{us:List Value}(n:Nat),bj xs us→bj (xs.take n) (us.take n)
 |_,_,0,_=>.nil
 |_,_,_+1,.nil=>.nil
 |_,_,n+1,.cons r t=>.cons r (bj.take n t)
theorem bj.drop:∀{xs:List V}{us:List Value}(n:Nat),bj xs us→bj (xs.drop n) (us.drop n)
 |_,_,0,r=>r
 |_,_,_+1,.nil=>.nil
 |_,_,n+1,.cons _ t=>bj.drop n t
noncomputable def eO:Option V→Option Value→Prop
 |some v,some u=>RelV v u
 |none,none=>True
 |_,_=>False
noncomputable def KV{κ:Type}:List (κ×V)→List (κ×Value)→Prop:=Paired fun(p:κ×V)(q:κ×Value)=>p.1=q.1∧RelV p.2 q.2
noncomputable def kV:Key→V
 | .inl i=>.int i
 | .inr x=>.str x
inductive HO where
 |lst (xs:List V)
 |tup (xs:List V)
 |dK (kvs:List (Key×V))|dT (kvs:List (List Key×V))
 |set (S:Int→Bool)(n:Nat)
 |ins (C dx:Addr)(fs:List (Str×V))
 |own (x:Addr)
 |xd (fs:List (Str×V))
 |met (f x:Addr)
 |rng (lo hi:Int)
 |frz (o:Obj)(u:HO)
 |tbl (ps:Array Value)
 |ext (φ:Heap→Prop)
noncomputable abbrev Hp:=Addr→Option HO
noncomputable def bm(H:Hp)(a:Addr)(o:HO):Hp:=fun b=>if b=a then some o else H b
theorem bd{H:Hp}{o:HO}:bm H a o a=some o:=by unfold bm;rw[if_pos rfl]
theorem az{H:Hp}{o:HO}(h:b≠a):bm H a o b=H b:=by unfold bm;rw[if_neg h]
theorem dW{H:Hp}{o u:HO}(h:H a=some o)(h':H b=some u)(d:o≠u):a≠b:=by
 intro e;subst e;rw[h] at h';exact d (aj h')
theorem aw{H:Hp}{o:HO}(h:H a=some o)(h':H b=none):a≠b:=by
 intro e;subst e;rw[h] at h';cases h'
section
variable(P:Program)(w:World)
noncomputable def bx(H:Hp)(h:Heap)(a:Addr):HO→Prop
 | .lst xs=>xs.length≤sizeLine∧∃(its:List Value)(n:Nat),bj xs its∧h.get? a=some {cls:= .type "list",data:= .seq its.toArray n}
 | .tup xs=>xs.length≤sizeLine∧∃its:List Value,bj xs its∧IsTup h a its.toArray
 | .dK kvs=>kvs.length≤sizeLine∧(a==sysModules)=false∧∃vs,KV kvs vs∧h.DictOf (bH P w) a vs
 | .dT kvs=>kvs.length≤sizeLine∧(a==sysModules)=false∧∃xs:List (List Key×Addr×Value),
   Paired (fun(p:List Key×V)(q:List Key×Addr×Value)=>p.1=q.1∧H q.2.1=some (.tup (p.1.map kV))∧RelV p.2 q.2.2) kvs xs∧
   ∃o es ep,h.get? a=some o∧o.ExactDict∧o.data=.dict es ep∧es.toList=xs.map (entryOfKey (tupleKind (bH P w)))∧(xs.map (·.1)).Nodup
 | .set S n=>h.SetOf (intKind P w) a S n
 | .ins C dx fs=>H dx=some (.own a)∧fs.length≤1000∧dx≠a∧h.get? a=some (PySem.W.instObj C dx)∧
   ∃mA,h.Ns1 dx mA∧(∀f,eO (fs.lookup f) (mA f))∧PySem.Within mA (fs.map (·.1))
 | .own _=>∃o,h.get? a=some o
 | .xd fs=>∃mA,h.Ns1 a mA∧∀f,eO (fs.lookup f) (mA f)
 | .rng lo hi=>∃t u v,h.get? a=some {cls:= .type "range",data:= .fields #[.int lo t,.int hi u,.int 1 v]}
 | .frz o u=>h.get? a=some o∧bx H h a u
 | .tbl ps=>h.get? a=some {cls:= .none,data:= .fields ps}
 | .met f x=>h.get? a=some (PySem.W.methodObj (.ref f) (.ref x))
 | .ext φ=>φ h∧(∃o,h.get? a=some o)∧∀h1 h2:Heap,φ h1→(∀o,h1.get? a=some o→h2.get? a=some o)→φ h2
noncomputable def ge(H:Hp)(h:Heap):Prop:=∀a o,H a=some o→bx P w H h a o
end
section
variable{P:Program}{w:World}{H H':Hp}{h h':Heap}{a:Addr}{o:HO}
theorem bx.lt(x:bx P w H h a o):a<h.objs.size:=by
 cases o with
 |lst xs=>obtain⟨_,_,_,_,e⟩:=x;exact ai e
 |tup xs=>obtain⟨_,_,_,p⟩:=x;exact p.lt
 |dK kvs=>obtain⟨_,_,_,_,o,_,_,e,_⟩:=x;exact ai e
 |dT kvs=>obtain⟨_,_,_,_,o,_,_,e,_⟩:=x;exact ai e
 |set S n=>obtain⟨o,_,_,_,e,_⟩:=x;exact ai e
 |ins C dx fs=>obtain⟨_,_,_,e,_⟩:=x;exact ai e
 |own y=>obtain⟨_,e⟩:=x;exact ai e
 |xd fs=>obtain⟨_,⟨_,_,_,e,_⟩,_⟩:=x;exact ai e
 |rng lo hi=>obtain⟨_,_,_,e⟩:=x;exact ai e
 |frz ob u=>obtain⟨e,_⟩:=x;exact ai e
 |tbl ps=>exact ai (show h.get? a=some _ from x)
 |met f y=>exact ai (show h.get? a=some _ from x)
 |ext φ=>obtain⟨_,⟨_,e⟩,_⟩:=x;exact ai e
theorem Paired.mapP{α β:Type}{F G:α→β→Prop}:∀{l₁:List α}{l₂:List β},Paired F l₁ l₂→(∀a b,F a b→G a b)→Paired G l₁ l₂
 |_,_,.nil,_=>.nil
 |_,_,.cons r t,f=>.cons (f _ _ r) (Paired.mapP t f)
theorem bx.stay(x:bx P w H h a o)(k:∀b u,(b=a∨H b=some (.own a))→h.get? b=some u→h'.get? b=some u)
  (ho:∀b,H b=some (.own a)→H' b=some (.own a))(ht:∀b xs,H b=some (.tup xs)→H' b=some (.tup xs)):bx P w H' h' a o:=by
 induction o with
 |lst xs=>obtain⟨z,its,n,r,e⟩:=x;exact⟨z,its,n,r,k _ _ (.inl rfl) e⟩
 |tup xs=>obtain⟨z,its,r,ob,e,c⟩:=x;exact⟨z,its,r,ob,k _ _ (.inl rfl) e,c⟩
 |dK kvs=>obtain⟨z,y,vs,r,ob,es,ep,e,c⟩:=x;exact⟨z,y,vs,r,ob,es,ep,k _ _ (.inl rfl) e,c⟩
 |dT kvs=>
  obtain⟨z,y,xs,r,ob,es,ep,e,c⟩:=x
  exact⟨z,y,xs,Paired.mapP r fun p q z=>⟨z.1,ht _ _ z.2.1,z.2.2⟩,ob,es,ep,k _ _ (.inl rfl) e,c⟩
 |set S n=>obtain⟨ob,es,ep,t,e,c⟩:=x;exact⟨ob,es,ep,t,k _ _ (.inl rfl) e,c⟩
 |ins C dx fs=>
  obtain⟨d,z,ne,e,mA,⟨od,es,ep,e2,c⟩,r⟩:=x
  exact⟨ho _ d,z,ne,k _ _ (.inl rfl) e,mA,⟨od,es,ep,k _ _ (.inr d) e2,c⟩,r⟩
 |own y=>obtain⟨ob,e⟩:=x;exact⟨ob,k _ _ (.inl rfl) e⟩
 |xd fs=>obtain⟨mA,⟨od,es,ep,e,c⟩,r⟩:=x;exact⟨mA,⟨od,es,ep,k _ _ (.inl rfl) e,c⟩,r⟩
 |rng lo hi=>obtain⟨t,u,v,e⟩:=x;exact⟨t,u,v,k _ _ (.inl rfl) e⟩
 |frz ob u ih=>obtain⟨e,q⟩:=x;exact⟨k _ _ (.inl rfl) e,ih q⟩
 |tbl ps=>
  have e:h.get? a=some {cls:= .none,data:= .fields ps}:=x
  show h'.get? a=some {cls:= .none,data:= .fields ps}
  exact k a _ (.inl rfl) e
 |met f y=>
  have e:h.get? a=some (PySem.W.methodObj (.ref f) (.ref y)):=x
  show h'.get? a=some (PySem.W.methodObj (.ref f) (.ref y))
  exact k a _ (.inl rfl) e
 |ext φ=>obtain⟨p,⟨o,e⟩,st⟩:=x;exact⟨st _ _ p fun o q=>k _ _ (.inl rfl) q,⟨o,k _ _ (.inl rfl) e⟩,st⟩
theorem ge.lt(x:ge P w H h)(e:H a=some o):a<h.objs.size:=(x a o e).lt
theorem ge.fresh(x:ge P w H h)(e:h.objs.size≤a):H a=none:=by
 cases q:H a with
 |none=>rfl
 |some u=>exact absurd (am (x.lt q) e) (bg _)
theorem ge.kept(x:ge P w H h)(k:∀b u,h.get? b=some u→h'.get? b=some u):ge P w H h':=fun a o e=>
 (x a o e).stay (fun b u _ q=>k b u q) (fun _ q=>q) fun _ _ q=>q
theorem ge.laid(x:ge P w H h)(k:∀b u,h.get? b=some u→h'.get? b=some u)(hp:h.objs.size≤a)(new:bx P w (bm H a o) h' a o):ge P w (bm H a o) h':=fun b u e=>by
 have hn:=x.fresh hp
 by_cases hb:b=a
 ·subst hb;rw[bd] at e;cases e;exact new
 ·rw[az hb] at e
  exact(x b u e).stay (fun c v _ q=>k c v q) (fun c q=>by rw[az (aw q hn)];exact q) fun c xs q=>by rw[az (aw q hn)];exact q
end
noncomputable def Rd(H:Hp)(a:Addr)(u:HO):Prop:=H a=some u∨∃o,H a=some (.frz o u)
theorem Rd.ok{H:Hp}{u:HO}(r:Rd H a u)(x:ge P w H h):bx P w H h a u:=by
 rcases r with r|⟨o,r⟩
 ·exact x a u r
 ·obtain⟨_,q⟩:=x a _ r
  exact q
noncomputable def Bh:Option HO→Prop
 |some (.lst _)=>True
 |some (.dK _)=>True
 |some (.dT _)=>True
 |some (.set _ _)=>True
 |some (.ins _ _ _)=>True
 |some (.ext _)=>True
 |_=>False
section
variable{P:Program}{w:World}{H:Hp}{h h':Heap}{x e:Addr}{o':HO}
theorem ge.write(ok:ge P w H h)(mu:Bh (H x))(he:e=x∨H e=some (.own x))(k:∀b u,b≠e→h.get? b=some u→h'.get? b=some u)(heo:∃u,h'.get? e=some u)
  (new:bx P w (bm H x o') h' x o'):ge P w (bm H x o') h':=fun b u q=>by
 have nown:∀c y,H c=some (.own y)→c≠x:=fun c y r z=>by subst z;rw[r] at mu;exact mu
 have ntup:∀c xs,H c=some (.tup xs)→c≠x:=fun c xs r z=>by subst z;rw[r] at mu;exact mu
 by_cases hb:b=x
 ·subst hb;rw[bd] at q;cases q;exact new
 ·rw[az hb] at q
  by_cases hbe:b=e
  ·have q':H b=some (.own x):=by
    rcases he with z|z
    ·exact absurd (hbe.trans z) hb
    ·rw[hbe];exact z
   rw[q] at q';cases q'
   obtain⟨v,hv⟩:=heo
   exact⟨v,by rw[hbe];exact hv⟩
  ·refine(ok b u q).stay (fun c v hc r=>k c v ?_ r) (fun c r=>by rw[az (nown c b r)];exact r) fun c xs r=>by rw[az (ntup c xs r)];exact r
   rcases hc with rfl|hc
   ·exact hbe
   ·rintro rfl
    rcases he with z|z
    ·exact nown c b hc z
    ·rw[hc] at z;cases z;exact hb rfl
end
structure Un(fs ex:List Addr)(H H':Hp)(h h':Heap):Prop where
 keep:∀b o,h.get? b=some o→H b=none→b∉fs→b∉ex→h'.get? b=some o
 slot:∀b o,h.get? b=some o→H b=none→b∈fs→b∉ex→∃sl,h'.get? b=some {o with slots:=sl}
 free:∀b o,h.get? b=some o→H b=none→b∉ex→H' b=none
 there:∀b o,h.get? b=some o→b∉ex→∃o',h'.get? b=some o'
 tups:∀b xs,H b=some (.tup xs)→H' b=some (.tup xs)
 frzs:∀b o u,H b=some (.frz o u)→H' b=some (.frz o u)
 tbls:∀b ps,H b=some (.tbl ps)→∃more,H' b=some (.tbl (ps++more))
section
variable{fs ex:List Addr}{H H1:Hp}{h h1 h':Heap}{a x e:Addr}{o:HO}
theorem Un.any(u:Un fs ex H H1 h h1){ob:Obj}(q:h.get? b=some ob)(n:H b=none)(hx:b∉ex):∃sl,h1.get? b=some {ob with slots:=sl}:=by
 by_cases hb:b∈fs
 ·exact u.slot b ob q n hb hx
 ·exact⟨ob.slots,u.keep b ob q n hb hx⟩
theorem Un.kept(k:∀b u,h.get? b=some u→h'.get? b=some u):Un fs ex H H h h':=
 ⟨fun b ob q _ _ _=>k b ob q,fun b ob q _ _ _=>⟨ob.slots,k b ob q⟩,fun _ _ _ n _=>n,fun b ob q _=>⟨ob,k b ob q⟩,fun _ _ q=>q,fun _ _ _ q=>q,fun _ ps q=>⟨#[],by rw[q];simp⟩⟩
theorem Un.refl:Un fs ex H H h h:=Un.kept fun _ _ q=>q
theorem Un.laid(k:∀b u,h.get? b=some u→h'.get? b=some u)(hp:h.objs.size≤a)(hn:H a=none):Un fs ex H (bm H a o) h h' where
 keep:=fun b u q _ _ _=>k b u q
 slot:=fun b u q _ _ _=>⟨u.slots,k b u q⟩
 free:=fun b u q n _=>by rw[az (ak (am (ai q) hp))];exact n
 there:=fun b u q _=>⟨u,k b u q⟩
 tups:=fun b xs q=>by rw[az (aw q hn)];exact q
 frzs:=fun b u xs q=>by rw[az (aw q hn)];exact q
 tbls:=fun b ps q=>⟨#[],by rw[az (aw q hn),q];simp⟩
theorem Un.write(mu:Bh (H x))(he:e=x∨H e=some (.own x))(k:∀b u,b≠e→h.get? b=some u→h'.get? b=some u)(heo:∃u,h'.get? e=some u):Un fs ex H (bm H x o) h h':=by
 have hx:∀b,H b=none→b≠x:=fun b n z=>by subst z;rw[n] at mu;exact mu
 have hb:∀b,H b=none→b≠e:=fun b n z=>by
  subst z
  rcases he with r|r
  ·exact hx b n r
  ·rw[n] at r;cases r
 have hm:∀b u,H b=some u→¬Bh (some u)→b≠x:=fun b u q nm z=>by subst z;rw[q] at mu;exact nm mu
 refine⟨fun b u q n _ _=>k b u (hb b n) q,fun b u q n _ _=>⟨u.slots,k b u (hb b n) q⟩,fun b u q n _=>by rw[az (hx b n)];exact n,fun b u q _=>?_,
  fun b xs q=>by rw[az (hm b _ q fun z=>z)];exact q,fun b u xs q=>by rw[az (hm b _ q fun z=>z)];exact q,fun b ps q=>⟨#[],by rw[az (hm b _ q fun z=>z),q];simp⟩⟩
 by_cases hbe:b=e
 ·subst hbe;exact heo
 ·exact⟨u,k b u hbe q⟩
end
noncomputable def Bm(h:Heap)(H:Hp):List Addr:=(List.range h.objs.size).filter fun a=>(H a).isSome
noncomputable def lM(h:Heap)(H:Hp):Heap:=PySem.W.hideAll h (Bm h H)
theorem qN(h:Heap)(H:Hp):(lM h H).objs.size=h.objs.size:=PySem.W.hideAll_size _ _
theorem tQ{H:Hp}(e:h.get? b=some o)(n:H b=none):(lM h H).get? b=some o:=
 PySem.W.hideAll_get _ e fun hm=>by
  have q:(H b).isSome=true:=(List.mem_filter.mp hm).2
  rw[n] at q;simp at q
theorem wb{H:Hp}(e:(lM h H).get? b=some o):h.get? b=some o∧H b=none:=by
 have e':h.get? b=some o:=PySem.W.of_hideAll (Bm h H) e
 refine⟨e',?_⟩
 cases q:H b with
 |none=>rfl
 |some x=>
  have hm:b∈Bm h H:=List.mem_filter.mpr ⟨List.mem_range.mpr (ai e'),by simp[q]⟩
  have z:(lM h H).get? b=none:=PySem.W.hideAll_none (Bm h H) hm
  rw[z] at e;cases e
noncomputable def wM(g h:Heap)(L:Addr):List (Addr×Obj):=(List.range h.objs.size).filterMap fun a=>if a=L∨(g.get? a).isSome=true then none else(h.get? a).map fun o=>(a,o)
noncomputable def rest(g h:Heap)(L d:Addr):List (Addr×Obj):=(wM g h L).filter fun p=>decide (p.1≠d)
structure Mod(K:ao)(mg:Str→Option Value)(base:Heap):Prop where
 kin:K.In base
 glob:base.Ns mainGlobals mg
 blt:∃mb,base.Ns builtinsNs mb∧∀x:Str,x≠ "__name__" →mb x=bootBuiltins x
 nolimit:base.NoLimit
structure Cx where
 prog:Program
 w:World
 K:ao
 mg:Str→Option Value
 base:Heap
 A:Around
 N:List Str
 s₀:Shared
 H₀:Hp
 env:Env
 outer:List Env
 stack:List Env
 ex:List Addr
 fn:Str→Bool
 calm:Bool
 pn:List (Addr×Obj)
 xe:Value→Shared→Prop
noncomputable def eX(l:List Env):List Addr:=l.filterMap (·.frame)
noncomputable abbrev Cx.fs(X:Cx):List Addr:=eX X.outer
noncomputable def Bp(sc:Scope)(x:Str):Prop:=sc.names.lookup x=some .local∨sc.names.lookup x=some .cell∨sc.names.lookup x=some .free
noncomputable def Loc(sc:Scope)(x:Str):Prop:=sc.names.lookup x=some .local∨sc.names.lookup x=some .cell
noncomputable def Look(env:Env)(h:Heap)(m:Str→Option Value)(x:Str)(u:Value):Prop:=
 (env.kindOf x=some .local∧m x=some u)∨((env.kindOf x=some .cell∨env.kindOf x=some .free)∧∃c,env.cells.lookup x=some c∧h.IsCell c (some u))
structure Cx.Ok(X:Cx):Prop where
 mod:Mod X.K X.mg X.base
 kind:X.env.scope.kind=.function
 glob:X.env.globals=mainGlobals
 blt:X.env.builtins=builtinsNs
 above:X.s₀.heap.objs.size≤X.env.locals
 inj:∀x y c,X.env.cells.lookup x=some c→X.env.cells.lookup y=some c→x=y
 has:∀x,(X.env.kindOf x=some .cell∨X.env.kindOf x=some .free)→∃c,X.env.cells.lookup x=some c
 cab:∀x c,X.fn x=true→X.env.cells.lookup x=some c→X.s₀.heap.objs.size≤c
 hd:X.calm=true→X.A.handled=none
 frames:X.A.frames=some X.stack
 stk:X.stack=X.outer∨(X.stack=X.env::X.outer∧X.env.frame=some X.env.locals)
 exf:∀b∈X.ex,b≠X.env.locals∧∀x c,X.env.cells.lookup x=some c→c≠b
 bs:∀b o,X.base.get? b=some o→X.s₀.heap.get? b=some o∧X.H₀ b=none
 bsz:X.base.objs.size≤X.s₀.heap.objs.size
 noex:∀b o,X.base.get? b=some o→b∉X.ex
 exfs:∀b∈X.ex,b∉X.fs
 funs:X.s₀.heap.FunFrames X.base X.outer
 frf:∀b∈X.fs,X.H₀ b=none
structure Inv(X:Cx)(pins:List (Addr×Obj))(σ:List (Option V))(H:Hp)(s:Shared):Prop where
 ok:X.Ok
 os:s.os=X.s₀.os
 bare:AllBare s.gens
 base:Un X.fs X.ex X.H₀ H X.s₀.heap s.heap
 loc:∃m,s.heap.Ns X.env.locals m∧∀(i:Nat)(x:Str)(v:V),X.N[i]? =some x→σ[i]? =some (some v)→Bp X.env.scope x→∃u,RelV v u∧Look X.env s.heap m x u
 cell:∀x c,X.env.cells.lookup x=some c→∃v,s.heap.IsCell c v
 free:H X.env.locals=none
 freeC:∀x c,X.env.cells.lookup x=some c→H c=none
 pin:∀p∈X.pn++pins,s.heap.get? p.1=some p.2∧H p.1=none∧p.1≠X.env.locals∧p.1∉X.fs∧∀v,p.2.data≠ .cell v
 hok:ge X.prog X.w H s.heap
 len:σ.length=X.N.length
section
variable{X:Cx}{pins:List (Addr×Obj)}{σ:List (Option V)}{H H':Hp}{s:Shared}{h':Heap}
theorem Cx.Ok.nofr(ok:X.Ok)(e:X.base.get? b=some o):b∉X.fs:=fun hb=>by
 have:=(ok.funs.mem hb).1
 rw[e] at this;cases this
theorem Inv.bs(I:Inv X pins σ H s):∀b o,X.base.get? b=some o→s.heap.get? b=some o∧H b=none:=fun b o e=>
 ⟨I.base.keep b o (I.ok.bs b o e).1 (I.ok.bs b o e).2 (I.ok.nofr e) (I.ok.noex b o e),I.base.free b o (I.ok.bs b o e).1 (I.ok.bs b o e).2 (I.ok.noex b o e)⟩
theorem Inv.bk(I:Inv X pins σ H s):∀b o,X.base.get? b=some o→s.heap.get? b=some o:=fun b o e=>(I.bs b o e).1
theorem Inv.mod(I:Inv X pins σ H s):Mod X.K X.mg X.base:=I.ok.mod
theorem Inv.kIn(I:Inv X pins σ H s):X.K.In s.heap:=I.ok.mod.kin.keeps I.bk
theorem Inv.lt(I:Inv X pins σ H s):X.env.locals<s.heap.objs.size:=let⟨_,hn,_⟩:=I.loc;hn.lt
theorem Inv.sz(I:Inv X pins σ H s):X.s₀.heap.objs.size≤s.heap.objs.size:=aP I.ok.above (Nat.le_of_lt I.lt)
theorem Inv.nofs(I:Inv X pins σ H s)(h:s.heap.objs.size≤a):a∉X.fs:=fun hb=>by
 obtain⟨_,o,ho,_⟩:=I.ok.funs.mem hb
 exact absurd (am (ai ho) (aP I.sz h)) (bg _)
theorem Inv.cne(I:Inv X pins σ H s):∀x c,X.env.cells.lookup x=some c→c≠X.env.locals:=fun x c e z=>by
 obtain⟨v,o,ho,hd⟩:=I.cell x c e
 obtain⟨m,⟨o',es,ep,ho',hd',_⟩,_⟩:=I.loc
 rw[z,ho'] at ho;cases ho;rw[hd'] at hd;cases hd
theorem Inv.funs(I:Inv X pins σ H s):s.heap.FunFrames X.base X.outer:=by
 have all:∀(l:List Env),(∀b∈eX l,b∈X.fs)→X.s₀.heap.FunFrames X.base l→s.heap.FunFrames X.base l:=by
  intro l
  induction l with
  |nil=>intro _ _;trivial
  |cons env r ih=>
   intro hs hl
   obtain⟨hk,⟨L,o,hf,hn,ho,hd⟩,hr⟩:=hl
   have hL:L∈X.fs:=hs L (by unfold eX;rw[List.filterMap_cons,hf];exact List.mem_cons_self)
   obtain⟨sl,e⟩:=I.base.slot L o ho (I.ok.frf L hL) hL fun z=>I.ok.exfs L z hL
   exact⟨hk,⟨L,_,hf,hn,e,hd⟩,ih (fun b hb=>hs b (by unfold eX;rw[List.filterMap_cons,hf];exact List.mem_cons_of_mem _ hb)) hr⟩
 exact all X.outer (fun _ hb=>hb) I.ok.funs
theorem Inv.stack(I:Inv X pins σ H s):s.heap.FunFrames X.base X.stack:=by
 rcases I.ok.stk with e|⟨e,hf⟩
 ·rw[e];exact I.funs
 ·rw[e]
  obtain⟨m,hn,_⟩:=I.loc
  refine .cons (by rw[I.ok.kind];decide) hf hn ?_ I.funs
  exact Heap.get?_none_of_le (aP I.ok.bsz I.ok.above)
theorem Inv.stkSub(I:Inv X pins σ H s):∀b∈eX X.stack,b∈X.env.locals::X.fs:=fun b hb=>by
 rcases I.ok.stk with e|⟨e,hf⟩
 ·rw[e] at hb;exact List.mem_cons_of_mem _ hb
 ·rw[e] at hb
  unfold eX at hb
  rw[List.filterMap_cons,hf] at hb
  exact hb
theorem Inv.stkFree(I:Inv X pins σ H s):∀b∈eX X.stack,H b=none:=fun b hb=>by
 rcases List.mem_cons.mp (I.stkSub b hb) with e|hb
 ·rw[e];exact I.free
 ·obtain⟨_,o,ho,_⟩:=I.ok.funs.mem hb
  exact I.base.free b o ho (I.ok.frf b hb) fun z=>I.ok.exfs b z hb
theorem Inv.step{g':Array GenState}{d':Drawn}(I:Inv X pins σ H s)
  (hch:∀b∈ch,(b∈X.ex∨X.s₀.heap.objs.size≤b)∧b≠X.env.locals∧(∀x c,X.env.cells.lookup x=some c→c≠b)∧∀p∈X.pn++pins,p.1≠b)
  (keep:∀b o,b≠X.env.locals→b∉X.fs→b∉ch→s.heap.get? b=some o→H b=none→h'.get? b=some o)
  (slot:∀b o,b≠X.env.locals→b∈X.fs→b∉ch→s.heap.get? b=some o→H b=none→∃sl,h'.get? b=some {o with slots:=sl})(free:∀b o,b∉ch→s.heap.get? b=some o→H b=none→H' b=none)
  (there:∀b o,b∉ch→s.heap.get? b=some o→∃o',h'.get? b=some o')
  (tups:∀b xs,H b=some (.tup xs)→H' b=some (.tup xs))(frzs:∀b o u,H b=some (.frz o u)→H' b=some (.frz o u))(tbls:∀b ps,H b=some (.tbl ps)→∃more,H' b=some (.tbl (ps++more)))
  (ns:∀m,s.heap.Ns X.env.locals m→h'.Ns X.env.locals m)(hok:ge X.prog X.w H' h')(hg:AllBare g'):
  Inv X pins σ H' {s with heap:=h',gens:=g',drawn:=d',toks:=t'}:=by
 have neL:∀b o,X.s₀.heap.get? b=some o→b≠X.env.locals:=fun b o e=>ak (am (ai e) I.ok.above)
 have neC:∀b o,X.s₀.heap.get? b=some o→b∉X.ex→b∉ch:=fun b o e hx hb=>by
  rcases(hch b hb).1 with z|z
  ·exact hx z
  ·exact absurd (am (ai e) z) (bg _)
 have cellK:∀x c,X.env.cells.lookup x=some c→∀v,s.heap.IsCell c v→h'.IsCell c v:=fun x c e v hp=>by
  obtain⟨o,ho,hd⟩:=hp
  have nch:c∉ch:=fun z=>(hch c z).2.2.1 x c e rfl
  by_cases hc:c∈X.fs
  ·obtain⟨sl,q⟩:=slot c o (I.cne x c e) hc nch ho (I.freeC x c e)
   exact⟨_,q,hd⟩
  ·exact⟨o,keep c o (I.cne x c e) hc nch ho (I.freeC x c e),hd⟩
 refine⟨I.ok,I.os,hg,⟨fun b o e n hb hx=>?_,fun b o e n hb hx=>?_,fun b o e n hx=>?_,fun b o e hx=>?_,fun b xs e=>tups b xs (I.base.tups b xs e),fun b o xs e=>frzs b o xs (I.base.frzs b o xs e),fun b ps e=>?_⟩,?_,fun x c e=>?_,?_,fun x c e=>?_,fun p hp=>?_,hok,I.len⟩
 ·exact keep b o (neL b o e) hb (neC b o e hx) (I.base.keep b o e n hb hx) (I.base.free b o e n hx)
 ·obtain⟨sl,e1⟩:=I.base.slot b o e n hb hx
  obtain⟨sl',e2⟩:=slot b _ (neL b o e) hb (neC b o e hx) e1 (I.base.free b o e n hx)
  exact⟨sl',e2⟩
 ·obtain⟨o',e1⟩:=I.base.there b o e hx
  exact free b o' (neC b o e hx) e1 (I.base.free b o e n hx)
 ·obtain⟨o',e1⟩:=I.base.there b o e hx
  exact there b o' (neC b o e hx) e1
 ·obtain⟨m1,e1⟩:=I.base.tbls b ps e
  obtain⟨m2,e2⟩:=tbls b _ e1
  exact⟨m1++m2,by rw[e2,Array.append_assoc]⟩
 ·obtain⟨m,hn,hl⟩:=I.loc
  refine⟨m,ns m hn,fun i x v e1 e2 e3=>?_⟩
  obtain⟨u,r,l⟩:=hl i x v e1 e2 e3
  refine⟨u,r,?_⟩
  rcases l with l|⟨k,c,e,z⟩
  ·exact .inl l
  ·exact .inr ⟨k,c,e,cellK x c e _ z⟩
 ·obtain⟨v,z⟩:=I.cell x c e
  exact⟨v,cellK x c e v z⟩
 ·obtain⟨m,⟨o,_,_,ho,_⟩,_⟩:=I.loc
  exact free _ o (fun z=>(hch _ z).2.1 rfl) ho I.free
 ·obtain⟨v,o,ho,hd⟩:=I.cell x c e
  exact free c o (fun z=>(hch c z).2.2.1 x c e rfl) ho (I.freeC x c e)
 ·obtain⟨e,n,ne,nf,d⟩:=I.pin p hp
  have nch:p.1∉ch:=fun z=>(hch p.1 z).2.2.2 p hp rfl
  exact⟨keep p.1 p.2 ne nf nch e n,free p.1 p.2 nch e n,ne,nf,d⟩
theorem Inv.un(I:Inv X pins σ H s)(u:Un X.fs [] H H' s.heap h')(hok:ge X.prog X.w H' h'):Inv X pins σ H' {s with heap:=h',toks:=t'}:=by
 obtain⟨m,⟨o,es,ep,ho,r⟩,_⟩:=id I.loc
 obtain⟨sl,hL⟩:=u.any ho I.free (by simp)
 exact I.step (g':=s.gens) (d':=s.drawn) (ch:=[]) (fun _ z=>nomatch z) (fun b o _ hb _ e n=>u.keep b o e n hb (by simp)) (fun b o _ hb _ e n=>u.slot b o e n hb (by simp)) (fun b o _ e n=>u.free b o e n (by simp)) (fun b o _ e=>u.there b o e (by simp)) u.tups u.frzs u.tbls (fun m' hm=>by
  obtain⟨o',es',ep',ho',r'⟩:=hm
  rw[ho] at ho';cases ho'
  exact⟨_,es',ep',hL,r'⟩) hok I.bare
theorem Inv.call{g':Array GenState}{d':Drawn}(I:Inv X pins σ H s)(u:Un (eX X.stack) ch H H' s.heap h')(hok:ge X.prog X.w H' h')(hg:AllBare g')
  (hch:∀b∈ch,(b∈X.ex∨X.s₀.heap.objs.size≤b)∧b≠X.env.locals∧(∀x c,X.env.cells.lookup x=some c→c≠b)∧∀p∈X.pn++pins,p.1≠b):
  Inv X pins σ H' {s with heap:=h',gens:=g',drawn:=d',toks:=t'}:=by
 obtain⟨m,⟨o,es,ep,ho,r⟩,_⟩:=id I.loc
 obtain⟨sl,hL⟩:=u.any ho I.free fun z=>(hch _ z).2.1 rfl
 exact I.step (ch:=ch) hch (fun b o hL hb hc e n=>u.keep b o e n (fun z=>(List.mem_cons.mp (I.stkSub b z)).elim hL hb) hc) (fun b o _ _ hc e n=>u.any e n hc) (fun b o hc e n=>u.free b o e n hc) (fun b o hc e=>u.there b o e hc) u.tups u.frzs u.tbls (fun m' hm=>by
  obtain⟨o',es',ep',ho',r'⟩:=hm
  rw[ho] at ho';cases ho'
  exact⟨_,es',ep',hL,r'⟩) hok hg
theorem Inv.turned(I:Inv X pins σ H s)(k:∀b o,b≠it→s.heap.get? b=some o→h'.get? b=some o)(hn:H it=none)(hL:it≠X.env.locals)
  (h1:it∈X.ex∨X.s₀.heap.objs.size≤it)(h2:∀x c,X.env.cells.lookup x=some c→c≠it)(h3:∀p∈X.pn++pins,p.1≠it):Inv X pins σ H {s with heap:=h',toks:=t'}:=by
 have nit:∀b u,H b=some u→b≠it:=fun b u e z=>by rw[z,hn] at e;cases e
 refine I.step (g':=s.gens) (d':=s.drawn) (ch:=[it]) (fun b hb=>?_) (fun b o _ _ hc e _=>k b o (fun z=>hc (by simp[z])) e) (fun b o _ _ hc e _=>⟨o.slots,k b o (fun z=>hc (by simp[z])) e⟩) (fun _ _ _ _ n=>n)
  (fun b o hc e=>⟨o,k b o (fun z=>hc (by simp[z])) e⟩) (fun _ _ e=>e) (fun _ _ _ e=>e) (fun b ps e=>⟨#[],by rw[e];simp⟩) (fun m hm=>?_) (fun b u e=>?_) I.bare
 ·have e:b=it:=by simpa using hb
  subst e
  exact⟨h1,hL,h2,h3⟩
 ·obtain⟨o,es,ep,ho,r⟩:=hm
  exact⟨o,es,ep,k _ o (Ne.symm hL) ho,r⟩
 ·refine(I.hok b u e).stay (fun c v hc q=>k c v ?_ q) (fun _ q=>q) fun _ _ q=>q
  rcases hc with z|z
  ·rw[z];exact nit b u e
  ·exact nit c _ z
theorem Inv.tok(I:Inv X pins σ H s)(t:Nat):Inv X pins σ H {s with toks:=t}:=I.un (h':=s.heap) (t':=t) Un.refl I.hok
theorem Inv.kept(I:Inv X pins σ H s)(k:∀b u,s.heap.get? b=some u→h'.get? b=some u):Inv X pins σ H {s with heap:=h',toks:=t'}:=I.un (Un.kept k) (I.hok.kept k)
theorem Inv.laid{o:HO}(I:Inv X pins σ H s)(k:∀b u,s.heap.get? b=some u→h'.get? b=some u)(hp:s.heap.objs.size≤a)(new:bx X.prog X.w (bm H a o) h' a o):
  Inv X pins σ (bm H a o) {s with heap:=h',toks:=t'}:=I.un (Un.laid k hp (I.hok.fresh hp)) (I.hok.laid k hp new)
theorem Inv.write{x e:Addr}{o:HO}(I:Inv X pins σ H s)(mu:Bh (H x))(he:e=x∨H e=some (.own x))(k:∀b u,b≠e→s.heap.get? b=some u→h'.get? b=some u)(heo:∃u,h'.get? e=some u)
  (new:bx X.prog X.w (bm H x o) h' x o):Inv X pins σ (bm H x o) {s with heap:=h',toks:=t'}:=I.un (Un.write mu he k heo) (I.hok.write mu he k heo new)
theorem Inv.pins_of{pins':List (Addr×Obj)}(I:Inv X pins σ H s)(h:∀p∈pins',s.heap.get? p.1=some p.2∧H p.1=none∧p.1≠X.env.locals∧p.1∉X.fs∧∀v,p.2.data≠ .cell v):Inv X pins' σ H s:=
 ⟨I.ok,I.os,I.bare,I.base,I.loc,I.cell,I.free,I.freeC,fun p hp=>(List.mem_append.mp hp).elim (fun z=>I.pin p (List.mem_append_left _ z)) (h p),I.hok,I.len⟩
theorem jz{N:List Str}(hN:N.Nodup)(a:N[i]? =some x)(b:N[j]? =some x):i=j:=by
 obtain⟨h1,e1⟩:=aA a
 obtain⟨h2,e2⟩:=aA b
 exact(List.getElem_inj hN).mp (e1.trans e2.symm)
theorem iq{M:Model}{v:V}{Q:Unit→Shared→Prop}(I:Inv X pins σ H s)(hN:X.N.Nodup)(hi:X.N[i]? =some x)(hx:Loc X.env.scope x)(r:RelV v u)
  (h:∀s',Inv X pins (σ.set i (some v)) H s'→(∃a,Heap.SameBut a s.heap s'.heap∧(a=X.env.locals∨X.env.cells.lookup x=some a))→Q () s')(hf:X.fn x=true∨X.env.scope.names.lookup x=some .local:=by first|exact .inl rfl|exact .inr rfl|assumption):wpAny M A (storeName X.env x u) Q E s:=by
 obtain⟨m,hn,hl⟩:=id I.loc
 have hcls:(X.env.scope.kind== .class||(X.env.scope.kind== .module&&X.env.locals !=X.env.globals))=false:=by rw[I.ok.kind];rfl
 have hiσ:i<σ.length:=by rw[I.len];exact(aA hi).1
 have cne:=I.cne
 have tracked:∀{a:Addr}{h':Heap},(∃o,s.heap.get? a=some o∧H a=none)→Heap.SameBut a s.heap h'→ge X.prog X.w H h':=fun{a h'} ha hs b ob e=>by
  obtain⟨_,_,hfree⟩:=ha
  refine(I.hok b ob e).stay (fun c w' hc q=>(hs.2 c ?_).trans q) (fun _ q=>q) fun _ _ q=>q
  rintro rfl
  rcases hc with rfl|hc
  ·rw[hfree] at e;cases e
  ·rw[hfree] at hc;cases hc
 rcases hx with hk|hk
 ·refine wpAny_storeName_local hk hn (fun h' hn' hs=>?_) hcls
  obtain⟨oL,_,_,hoL,_⟩:=id hn
  refine h _ ⟨I.ok,I.os,I.bare,⟨fun b o e n hb hx=>?_,fun b o e n hb hx=>?_,I.base.free,fun b o e hx=>?_,I.base.tups,I.base.frzs,I.base.tbls⟩,⟨_,hn',fun j y v' e1 e2 e3=>?_⟩,fun y c e=>?_,I.free,I.freeC,fun p hp=>?_,tracked ⟨oL,hoL,I.free⟩ hs,by simpa using I.len⟩ ⟨_,hs,.inl rfl⟩
  ·exact(hs.2 b (ak (am (ai e) I.ok.above))).trans (I.base.keep b o e n hb hx)
  ·obtain⟨sl,e1⟩:=I.base.slot b o e n hb hx
   exact⟨sl,(hs.2 b (ak (am (ai e) I.ok.above))).trans e1⟩
  ·obtain⟨o',e1⟩:=I.base.there b o e hx
   exact⟨o',(hs.2 b (ak (am (ai e) I.ok.above))).trans e1⟩
  ·by_cases hj:j=i
   ·subst hj
    rw[hi] at e1;cases e1
    rw[aV hiσ] at e2
    cases e2
    exact⟨u,r,.inl ⟨hk,by simp⟩⟩
   ·rw[ah (Ne.symm hj)] at e2
    obtain⟨u',r',q⟩:=hl j y v' e1 e2 e3
    refine⟨u',r',?_⟩
    rcases q with⟨k,e⟩|⟨k,c,e,z⟩
    ·refine .inl ⟨k,?_⟩
     have:y≠x:=fun e=>hj (jz hN e1 (e▸hi))
     simp[this,e]
    ·exact .inr ⟨k,c,e,z.sameBut hs (cne y c e)⟩
  ·obtain⟨w',z⟩:=I.cell y c e
   exact⟨w',z.sameBut hs (cne y c e)⟩
  ·obtain⟨e,n,ne,nf,d⟩:=I.pin p hp
   exact⟨(hs.2 p.1 ne).trans e,n,ne,nf,d⟩
 ·have hfn:X.fn x=true:=by
   rcases hf with z|z
   ·exact z
   ·rw[z] at hk;cases hk
  obtain⟨c,hc⟩:=I.ok.has x (.inl hk)
  obtain⟨w',z⟩:=I.cell x c hc
  refine wpAny_storeName_cell I.ok.kind hk hc z (fun h' hc' hs=>?_)
  obtain⟨oc,hoc,hocd⟩:=id z
  refine h {s with heap:=h'} ⟨I.ok,I.os,I.bare,⟨fun b o e n hb hx=>?_,fun b o e n hb hx=>?_,I.base.free,fun b o e hx=>?_,I.base.tups,I.base.frzs,I.base.tbls⟩,⟨m,hn.sameBut hs (Ne.symm (cne x c hc)),fun j y v' e1 e2 e3=>?_⟩,fun y c' e=>?_,I.free,I.freeC,fun p hp=>?_,tracked ⟨oc,hoc,I.freeC x c hc⟩ hs,by simpa using I.len⟩ ⟨c,hs,.inr hc⟩
  ·exact(hs.2 b (ak (am (ai e) (I.ok.cab x c hfn hc)))).trans (I.base.keep b o e n hb hx)
  ·obtain⟨sl,e1⟩:=I.base.slot b o e n hb hx
   exact⟨sl,(hs.2 b (ak (am (ai e) (I.ok.cab x c hfn hc)))).trans e1⟩
  ·obtain⟨o',e1⟩:=I.base.there b o e hx
   exact⟨o',(hs.2 b (ak (am (ai e) (I.ok.cab x c hfn hc)))).trans e1⟩
  ·by_cases hj:j=i
   ·subst hj
    rw[hi] at e1;cases e1
    rw[aV hiσ] at e2
    cases e2
    exact⟨u,r,.inr ⟨.inl hk,c,hc,hc'⟩⟩
   ·rw[ah (Ne.symm hj)] at e2
    obtain⟨u',r',q⟩:=hl j y v' e1 e2 e3
    refine⟨u',r',?_⟩
    rcases q with q|⟨k,c',e,z'⟩
    ·exact .inl q
    ·refine .inr ⟨k,c',e,z'.sameBut hs ?_⟩
     rintro rfl
     exact hj (jz hN e1 (I.ok.inj _ _ _ e hc▸hi))
  ·by_cases hcc:c'=c
   ·subst hcc;exact⟨_,hc'⟩
   ·obtain⟨w2,z2⟩:=I.cell y c' e
    exact⟨w2,z2.sameBut hs hcc⟩
  ·obtain⟨e,n,ne,nf,d⟩:=I.pin p hp
   refine⟨(hs.2 p.1 ?_).trans e,n,ne,nf,d⟩
   intro q
   rw[q,hoc] at e
   have q':oc=p.2:=aj e
   exact d w' (by rw[←q'];exact hocd)
theorem gT{M:Model}{v:V}{Q:Unit→Shared→Prop}(I:Inv X pins σ H s)(hN:X.N.Nodup)(hi:X.N[i]? =some x)(hx:Loc X.env.scope x)(r:RelV v u)
  (h:∀s',Inv X pins (σ.set i (some v)) H s'→Q () s')(hf:X.fn x=true∨X.env.scope.names.lookup x=some .local:=by first|exact .inl rfl|exact .inr rfl|assumption):wpAny M A (storeName X.env x u) Q E s:=
 iq I hN hi hx r (fun s' I' _=>h s' I') hf
theorem Inv.call'{s':Shared}(I:Inv X pins σ H s)(ho:s'.os=s.os)(u:Un (eX X.stack) ch H H' s.heap s'.heap)(hok:ge X.prog X.w H' s'.heap)(hg:AllBare s'.gens)
  (hch:∀b∈ch,(b∈X.ex∨X.s₀.heap.objs.size≤b)∧b≠X.env.locals∧(∀x c,X.env.cells.lookup x=some c→c≠b)∧∀p∈X.pn++pins,p.1≠b):Inv X pins σ H' s':=by
 obtain⟨h',g',d',t',o'⟩:=s'
 have e:o'=s.os:=ho
 subst e
 exact I.call (g':=g') (t':=t') (d':=d') u hok hg hch
end
noncomputable abbrev XK:=Value→Option Addr→Hp→Prop
noncomputable abbrev St:=List (Option V)
noncomputable abbrev VK:=V→Hp→Prop
noncomputable abbrev TE:=St→Hp→VK→Prop
noncomputable abbrev TT:=St→Hp→(Bool→Hp→Prop)→Prop
noncomputable abbrev TA:=St→Hp→(List V→Hp→Prop)→Prop
structure Ends where
 nx:St→Hp→Prop
 rt:VK
 bk:St→Hp→Prop:=fun _ _=>False
 ct:St→Hp→Prop:=fun _ _=>False
noncomputable abbrev TS:=Ends→St→Hp→Prop
noncomputable def EP(X:Cx)(pins:List (Addr×Obj))(σ:St)(Q:VK)(u:Value)(s':Shared):Prop:=∃v H',Inv X pins σ H' s'∧RelV v u∧Q v H'
noncomputable def TP(X:Cx)(pins:List (Addr×Obj))(σ:St)(Q:Bool→Hp→Prop)(b:Bool)(s':Shared):Prop:=∃H',Inv X pins σ H' s'∧Q b H'
noncomputable def AP(X:Cx)(pins:List (Addr×Obj))(σ:St)(Q:List V→Hp→Prop)(us:List Value)(s':Shared):Prop:=∃vs H',Inv X pins σ H' s'∧bj vs us∧Q vs H'
noncomputable def SP(X:Cx)(pins:List (Addr×Obj))(D:Ends)(f:Flow)(s':Shared):Prop:=
 match f with
 | .next=>∃σ' H',Inv X pins σ' H' s'∧D.nx σ' H'
 | .brk=>∃σ' H',Inv X pins σ' H' s'∧D.bk σ' H'
 | .cont=>∃σ' H',Inv X pins σ' H' s'∧D.ct σ' H'
 | .ret u=>∃v σ' H',Inv X pins σ' H' s'∧RelV v u∧D.rt v H'
noncomputable def PE(X:Cx)(e:Expr)(t:TE):Prop:=
 ∀(pins:List (Addr×Obj))(s:Shared)(σ:St)(H:Hp)(Q:VK),Inv X pins σ H s→t σ H Q→wpAny (model X.prog X.w) X.A (eval e X.env) (EP X pins σ Q) X.xe s
noncomputable def PT(X:Cx)(e:Expr)(t:TT):Prop:=
 ∀(pins:List (Addr×Obj))(s:Shared)(σ:St)(H:Hp)(Q:Bool→Hp→Prop),Inv X pins σ H s→t σ H Q→wpAny (model X.prog X.w) X.A (isTrue e X.env (eval e X.env)) (TP X pins σ Q) X.xe s
noncomputable def PW(X:Cx)(e:Expr)(t:TT):Prop:=
 ∀(whole:Sem Value)(pins:List (Addr×Obj))(s:Shared)(σ:St)(H:Hp)(Q:Bool→Hp→Prop),Inv X pins σ H s→t σ H Q→wpAny (model X.prog X.w) X.A (isTrue e X.env whole) (TP X pins σ Q) X.xe s
theorem PW.pt{X:Cx}{t:TT}(h:PW X e t):PT X e t:=h _
noncomputable def PA(X:Cx)(es:List Expr)(t:TA):Prop:=
 ∀(pos:Pos)(pins:List (Addr×Obj))(s:Shared)(σ:St)(H:Hp)(Q:List V→Hp→Prop),Inv X pins σ H s→t σ H Q→wpAny (model X.prog X.w) X.A (spliced (backTo pos (starEach es X.env))) (AP X pins σ Q) X.xe s
noncomputable def PS(X:Cx)(st:Stmt)(t:TS):Prop:=
 ∀(pins:List (Addr×Obj))(s:Shared)(σ:St)(H:Hp)(D:Ends),Inv X pins σ H s→t D σ H→wpAny (model X.prog X.w) X.A (exec st X.env) (SP X pins D) X.xe s
noncomputable def PSs(X:Cx)(st:List Stmt)(t:TS):Prop:=
 ∀(pins:List (Addr×Obj))(s:Shared)(σ:St)(H:Hp)(D:Ends),Inv X pins σ H s→t D σ H→wpAny (model X.prog X.w) X.A (execs st X.env) (SP X pins D) X.xe s
theorem bC{α:Type}{t:Sem α}{Q Q':α→Shared→Prop}{M:Model}(h:wpAny M A t Q E s)(hQ:∀a s,Q a s→Q' a s):wpAny M A t Q' E s:=aJ h hQ fun _ _ x=>x
section
variable{X:Cx}
noncomputable def Bz(i:Nat):TE:=fun σ H Q=>∃v,σ[i]? =some (some v)∧Q v H
noncomputable def tC(v:V):TE:=fun _ H Q=>Q v H
theorem yg(hN:X.N[i]? =some x)(hv:Bp X.env.scope x)(hd:(x==("__debug__":Str))=false:=by decide)(hcd:(x==("__classdict__":Str))=false:=by decide):PE X (.Name x pos) (Bz i):=by
 intro pins s σ H Q I h
 obtain⟨v,e,h⟩:=h
 obtain⟨m,hn,hl⟩:=I.loc
 obtain⟨u,r,l⟩:=hl i x v hN e hv
 have fin:EP X pins σ Q u s:=⟨v,H,I,r,h⟩
 rcases l with⟨hk,hm⟩|⟨hk,c,hc,hcell⟩
 ·exact wpAny_Name (wpAny_loadName_local I.ok.kind hk hn hm fin) hd
 ·rcases hk with hk|hk
  ·exact wpAny_Name (wpAny_loadName_cell I.ok.kind hk hc hcell fin) hd
  ·exact wpAny_Name (wpAny_loadName_free I.ok.kind hk hc hcell fin hcd) hd
theorem ym{i j pos}:PE X (.Constant (.int i) j pos) (tC (.int i)):=fun _ _ _ H _ I h=>wpAny_Constant_int ⟨.int i,H,I.tok _,⟨_,rfl⟩,h⟩
theorem AD{b j pos}:PE X (.Constant (.bool b) j pos) (tC (.bl b)):=fun _ _ _ H _ I h=>Constant_bool ⟨.bl b,H,I,rfl,h⟩
theorem yk{j pos}:PE X (.Constant .none j pos) (tC .non):=fun _ _ _ H _ I h=>Constant_none ⟨.non,H,I,rfl,h⟩
theorem sQ{x j pos}:PE X (.Constant (.str x) j pos) (tC (.str x)):=fun _ _ _ H _ I h=>Calls.Constant_str ⟨.str x,H,I.tok _,⟨_,rfl⟩,h⟩
noncomputable def Gl(X:Cx)(x:Str):Prop:=X.env.kindOf x=some .globalImplicit
theorem dG{σ:St}{H:Hp}(I:Inv X pins σ H s)(hg:Gl X x)(hm:X.mg x=some u)(h:Q u s)
  (hd:(x==("__debug__":Str))=false:=by decide):wpAny (model X.prog X.w) X.A (eval (.Name x pos) X.env) Q E s:=
 Calls.Name_function_global I.ok.kind hg (Calls.loadGlobal_global (by rw[I.ok.glob];exact I.mod.glob.keeps I.bk) hm h) hd
theorem eK{σ:St}{H:Hp}(I:Inv X pins σ H s)(hg:Gl X x)(hm:X.mg x=none)(hv:bootBuiltins x=some u)(h:Q u s)
  (hn:x≠ "__name__":=by decide) (hd:(x==("__debug__":Str))=false:=by decide):wpAny (model X.prog X.w) X.A (eval (.Name x pos) X.env) Q E s:=by
 obtain⟨mb,h1,h2⟩:=I.mod.blt
 exact Calls.Name_function_global I.ok.kind hg (Calls.loadGlobal_builtin (by rw[I.ok.glob];exact I.mod.glob.keeps I.bk) hm (by rw[I.ok.blt];exact h1.keeps I.bk) ((h2 x hn).trans hv) h) hd
theorem lB{v:V}(hg:Gl X x)(hm:X.mg x=some u)(r:RelV v u)(hd:(x==("__debug__":Str))=false:=by decide):PE X (.Name x pos) (tC v):=
 fun _ _ _ H _ I h=>dG I hg hm ⟨v,H,I,r,h⟩ hd
theorem pK{v:V}(hg:Gl X x)(hm:X.mg x=none)(hv:bootBuiltins x=some u)(r:RelV v u)(hn:x≠ "__name__":=by decide)(hd:(x==("__debug__":Str))=false:=by decide):PE X (.Name x pos) (tC v):=
 fun _ _ _ H _ I h=>eK I hg hm hv ⟨v,H,I,r,h⟩ hn hd
variable{a b:Expr}{ta tb:TE}{pos:Pos}
noncomputable def tB(t:TE):TT:=fun σ H Q=>t σ H fun x H1=>∃c,x=.bl c∧Q c H1
theorem x8{t:TE}(h:PE X e t)(he:∀whole,isTrue e X.env whole=(do let v ←whole;standAt e.pos;holding [v] (truthy v)):=by intro _;rfl):PT X e (tB t):=by
 intro pins s σ H Q I hw
 refine isTrue_plain (bC (h pins s σ H _ I hw) fun v s1 ⟨x,H1,I1,r1,q1⟩=>?_) (he _)
 obtain⟨d,rfl,q⟩:=q1
 cases r1
 exact wpAny_truthy_bool ⟨H1,I1,q⟩
variable{tA tB':TT}{rest:List Expr}
noncomputable def BM(t u:TT):TT:=fun σ H Q=>t σ H fun c H1=>if c=true then u σ H1 Q else Q false H1
noncomputable def CK(t u:TT):TT:=fun σ H Q=>t σ H fun c H1=>if c=true then Q true H1 else u σ H1 Q
noncomputable def BE(t:TT):TT:=fun σ H Q=>t σ H fun c H1=>Q (!c) H1
theorem vQ(ha:PT X a tA):PW X (.BoolOp .And [a] pos) tA:=by
 intro wh pins s σ H Q I h
 refine isTrue_and (bC (ha pins s σ H Q I h) fun c s1 e=>?_)
 cases c with
 |true=>exact isTrue_and_nil e
 |false=>exact e
theorem x5(ha:PT X a tA):PW X (.BoolOp .Or [a] pos) tA:=by
 intro wh pins s σ H Q I h
 refine isTrue_or (bC (ha pins s σ H Q I h) fun c s1 e=>?_)
 cases c with
 |false=>exact isTrue_or_nil e
 |true=>exact e
theorem x6(ha:PT X a tA)(hb:PW X (.BoolOp .And (b::rest) pos) tB'):PW X (.BoolOp .And (a::b::rest) pos) (BM tA tB'):=by
 intro wh pins s σ H Q I h
 refine isTrue_and (bC (ha pins s σ H _ I h) fun c s1 ⟨H1,I1,q1⟩=>?_)
 cases c with
 |true=>exact hb wh pins s1 σ H1 Q I1 q1
 |false=>exact⟨H1,I1,q1⟩
theorem Av(ha:PT X a tA)(hb:PW X (.BoolOp .Or (b::rest) pos) tB'):PW X (.BoolOp .Or (a::b::rest) pos) (CK tA tB'):=by
 intro wh pins s σ H Q I h
 refine isTrue_or (bC (ha pins s σ H _ I h) fun c s1 ⟨H1,I1,q1⟩=>?_)
 cases c with
 |true=>exact⟨H1,I1,q1⟩
 |false=>exact hb wh pins s1 σ H1 Q I1 q1
theorem x9(ha:PT X a tA):PT X (.UnaryOp .Not a pos) (BE tA):=by
 intro pins s σ H Q I h
 exact isTrue_not (ha pins s σ H (fun c H1=>Q (!c) H1) I h)
noncomputable def Aa(ta tb:TE):TE:=fun σ H Q=>ta σ H fun x H1=>∃c,x=.bl c∧if c=true then tb σ H1 Q else Q (.bl false) H1
noncomputable def BD(ta tb:TE):TE:=fun σ H Q=>ta σ H fun x H1=>∃c,x=.bl c∧if c=true then Q (.bl true) H1 else tb σ H1 Q
noncomputable def zV(ta:TE):TE:=fun σ H Q=>ta σ H fun x H1=>∃c,x=.bl c∧Q (.bl (!c)) H1
theorem yi{op}{t:TE}(h:PE X a t):PE X (.BoolOp op [a] pos) t:=fun pins s σ H Q I hw=>BoolOp_one (h pins s σ H Q I hw)
theorem yp(ha:PE X a ta)(hb:PE X (.BoolOp .And (b::rest) pos) tb):PE X (.BoolOp .And (a::b::rest) pos) (Aa ta tb):=by
 intro pins s σ H Q I h
 refine BoolOp_and (bC (ha pins s σ H _ I h) fun v s1 hp=>?_)
 obtain⟨x,H1,I1,r1,q1⟩:=hp
 obtain⟨c,rfl,q1⟩:=q1
 cases r1
 refine wpAny_truthy_bool ?_
 cases c with
 |true=>exact hb pins s1 σ H1 Q I1 q1
 |false=>exact⟨.bl false,H1,I1,rfl,q1⟩
theorem Az(ha:PE X a ta)(hb:PE X (.BoolOp .Or (b::rest) pos) tb):PE X (.BoolOp .Or (a::b::rest) pos) (BD ta tb):=by
 intro pins s σ H Q I h
 refine BoolOp_or (bC (ha pins s σ H _ I h) fun v s1 hp=>?_)
 obtain⟨x,H1,I1,r1,q1⟩:=hp
 obtain⟨c,rfl,q1⟩:=q1
 cases r1
 refine wpAny_truthy_bool ?_
 cases c with
 |false=>exact hb pins s1 σ H1 Q I1 q1
 |true=>exact⟨.bl true,H1,I1,rfl,q1⟩
theorem yj(ha:PE X a ta):PE X (.UnaryOp .Not a pos) (zV ta):=by
 intro pins s σ H Q I h
 refine UnaryOp_ (bC (ha pins s σ H _ I h) fun v s1 hp=>?_)
 obtain⟨x,H1,I1,r1,q1⟩:=hp
 obtain⟨c,rfl,q1⟩:=q1
 cases r1
 exact not_of (wpAny_truthy_bool ⟨.bl (!c),H1,I1,rfl,q1⟩)
noncomputable def CL(t:TT)(ta tb:TE):TE:=fun σ H Q=>t σ H fun c H1=>if c=true then ta σ H1 Q else tb σ H1 Q
theorem sT(hc:PT X c tA)(ha:PE X a ta)(hb:PE X b tb):PE X (.IfExp c a b pos) (CL tA ta tb):=by
 intro pins s σ H Q I h
 refine wpAny_IfExp (bC (hc pins s σ H _ I h) fun d s1 ⟨H1,I1,q1⟩=>?_)
 cases d with
 |true=>exact ha pins s1 σ H1 Q I1 q1
 |false=>exact hb pins s1 σ H1 Q I1 q1
end
noncomputable def dz(K:ao)(H:Hp)(a:Addr)(xs:List V):Prop:=
 Rd H a (.lst xs)∨
  ∃(o:Obj)(its:Array Value)(n:Nat),K.lookup a=some o∧o.cls=.type "list" ∧o.dict=none∧o.data=.seq its n∧its.size≤sizeLine∧bj xs its.toList
noncomputable def fP(K:ao)(H:Hp)(a:Addr)(xs:List V):Prop:=
 Rd H a (.tup xs)∨
  ∃(o:Obj)(its:Array Value)(n:Nat),K.lookup a=some o∧o.cls=.type "tuple" ∧o.data=.seq its n∧its.size≤sizeLine∧bj xs its.toList
noncomputable def Ch:Value→Option V
 | .none=>some .non
 | .bool b=>some (.bl b)
 | .int i _=>some (.int i)
 | .str x _=>some (.str x)
 | .bytes b _=>some (.byt b)
 | .float b _=>some (.flt b)
 | .ref a=>some (.ref a)
 | .type n=>some (.ty n)
 |_=>none
theorem RelV.abs{x:V}(r:RelV x u):Ch u=some x:=by
 cases x with
 |non=>cases r;rfl
 |bl _=>cases r;rfl
 |int _=>obtain⟨t,rfl⟩:=r;rfl
 |str _=>obtain⟨t,rfl⟩:=r;rfl
 |byt _=>obtain⟨t,rfl⟩:=r;rfl
 |flt _=>obtain⟨t,rfl⟩:=r;rfl
 |ref _=>cases r;rfl
 |ty _=>cases r;rfl
theorem RelV.inj{x y:V}(r:RelV x u)(q:RelV y u):x=y:=aj (r.abs.symm.trans q.abs)
theorem bj.inj:∀{xs ys:List V}{us:List Value},bj xs us→bj ys us→xs=ys
 |_,_,_,.nil,.nil=>rfl
 |_,_,_,.cons r t,.cons r' t'=>by rw[r.inj r',bj.inj t t']
section
variable{X:Cx}{pins:List (Addr×Obj)}{σ:St}{H:Hp}{s:Shared}{a:Addr}{xs ys:List V}
theorem dz.of{K:ao}(h:H a=some (.lst xs)):dz K H a xs:= .inl (.inl h)
theorem fP.of{K:ao}(h:H a=some (.tup xs)):fP K H a xs:= .inl (.inl h)
theorem Inv.list(I:Inv X pins σ H s)(h:dz X.K H a xs):∃its:List Value,bj xs its∧PlainL s.heap a its.toArray∧xs.length≤sizeLine:=by
 rcases h with h|⟨o,its,n,hk,hc,hd,hs,hz,r⟩
 ·obtain⟨z,its,n,r,e⟩:=h.ok I.hok
  exact⟨its,r,⟨_,n,e,rfl,rfl,rfl⟩,z⟩
 ·refine⟨its.toList,r,⟨o,n,I.kIn a o hk,hc,hd,by simpa using hs⟩,?_⟩
  have e:=r.length
  simp only[Array.length_toList] at e
  omega
theorem Inv.tuple(I:Inv X pins σ H s)(h:fP X.K H a xs):∃its:List Value,bj xs its∧IsTup s.heap a its.toArray∧xs.length≤sizeLine:=by
 rcases h with h|⟨o,its,n,hk,hc,hs,hz,r⟩
 ·obtain⟨z,its,r,p⟩:=h.ok I.hok
  exact⟨its,r,p,z⟩
 ·refine⟨its.toList,r,⟨o,I.kIn a o hk,hc,n,by simpa using hs⟩,?_⟩
  have e:=r.length
  simp only[Array.length_toList] at e
  omega
theorem Inv.list_inj(I:Inv X pins σ H s)(h:dz X.K H a xs)(h':dz X.K H a ys):xs=ys:=by
 obtain⟨its,r,⟨o,n,e,_,_,d⟩,_⟩:=I.list h
 obtain⟨its',r',⟨o',n',e',_,_,d'⟩,_⟩:=I.list h'
 rw[e] at e';cases e'
 rw[d] at d'
 injection d' with d1 _
 have:its=its':=by simpa using congrArg Array.toList d1
 subst this
 exact r.inj r'
theorem Inv.tuple_inj(I:Inv X pins σ H s)(h:fP X.K H a xs)(h':fP X.K H a ys):xs=ys:=by
 obtain⟨its,r,⟨o,e,_,n,d⟩,_⟩:=I.tuple h
 obtain⟨its',r',⟨o',e',_,n',d'⟩,_⟩:=I.tuple h'
 rw[e] at e';cases e'
 rw[d] at d'
 injection d' with d1 _
 have:its=its':=by simpa using congrArg Array.toList d1
 subst this
 exact r.inj r'
end
section
end
section
variable{X:Cx}{st:Stmt}{rest:List Stmt}{t u:TS}{e:Expr}{te:TE}{pos:Pos}
noncomputable def wS:TS:=fun D σ H=>D.nx σ H
noncomputable def BB(t u:TS):TS:=fun D σ H=>t {D with nx:=u D} σ H
theorem vT:PSs X [] wS:=fun _ _ σ H _ I h=>wpAny_execs_nil ⟨σ,H,I,h⟩
theorem sI(h1:PS X st t)(h2:PSs X rest u):PSs X (st::rest) (BB t u):=by
 intro pins s σ H D I h
 refine wpAny_execs_cons (bC (h1 pins s σ H {D with nx:=u D} I h) fun f s1 q=>?_)
 cases f with
 |next=>
  obtain⟨σ',H',I',q⟩:=q
  exact h2 pins s1 σ' H' D I' q
 |ret v=>exact q
 |brk=>exact q
 |cont=>exact q
theorem vV:PS X (.Pass pos) wS:=fun _ _ σ H _ I h=>wpAny_Pass ⟨σ,H,I,h⟩
theorem Inv.quiet{σ:St}{H:Hp}(I:Inv X pins σ H s):interactive X.env=false:=by simp[interactive,I.ok.kind]
noncomputable def zZ(te:TE):TS:=fun D σ H=>te σ H fun _ H1=>D.nx σ H1
theorem lu(he:PE X e te)(hs:swapsWith e none pos.line X.env=pure false:=by rfl):PS X (.Expr e pos) (zZ te):=by
 intro pins s σ H D I h
 exact wpAny_Expr_any (bC (he pins s σ H _ I h) fun v s1 ⟨x,H1,I1,r1,q1⟩=>⟨σ,H1,I1,q1⟩) I.quiet hs
noncomputable def BC(te:TE):TS:=fun D σ H=>te σ H D.rt
theorem x_(he:PE X e te):PS X (.Return (some e) pos) (BC te):=by
 intro pins s σ H D I h
 exact wpAny_Return_some (bC (he pins s σ H _ I h) fun v s1 ⟨x,H1,I1,r1,q1⟩=>⟨x,σ,H1,I1,r1,q1⟩)
noncomputable def zT:TS:=fun D _ H=>D.rt .non H
theorem vU:PS X (.Return none pos) zT:=fun _ _ σ H _ I h=>wpAny_Return_none ⟨.non,σ,H,I,rfl,h⟩
noncomputable def BG(c:TT)(t u:TS):TS:=fun D σ H=>c σ H fun b H1=>if b=true then t D σ H1 else u D σ H1
theorem Aw{a b:List Stmt}{tc:TT}(hc:PT X c tc)(ha:PSs X a t)(hb:PSs X b u):PS X (.If c a b pos) (BG tc t u):=by
 intro pins s σ H D I h
 refine wpAny_If (bC (hc pins s σ H _ I h) fun d s1 ⟨H1,I1,q1⟩=>?_)
 cases d with
 |true=>exact ha pins s1 σ H1 D I1 q1
 |false=>exact hb pins s1 σ H1 D I1 q1
end
noncomputable abbrev TG:=V→St→Hp→(St→Hp→Prop)→Prop
noncomputable abbrev uM:=List V→St→Hp→(St→Hp→Prop)→Prop
noncomputable def PG(X:Cx)(target:Expr)(t:TG):Prop:=
 ∀(pins:List (Addr×Obj))(s:Shared)(σ:St)(H:Hp)(v:V)(u:Value)(Q:St→Hp→Prop),Inv X pins σ H s→RelV v u→t v σ H Q→
  wpAny (model X.prog X.w) X.A (assign target X.env u) (fun _ s'=>∃σ' H',Inv X pins σ' H' s'∧Q σ' H') X.xe s
noncomputable def zw(X:Cx)(ts:List Expr)(t:uM):Prop:=
 ∀(pins:List (Addr×Obj))(s:Shared)(σ:St)(H:Hp)(vs:List V) (us:List Value)(Q:St→Hp→Prop),Inv X pins σ H s→bj vs us→t vs σ H Q→
  wpAny (model X.prog X.w) X.A (assignInOrder ((assignEach ts X.env).map (·.2)) us) (fun _ s'=>∃σ' H',Inv X pins σ' H' s'∧Q σ' H') X.xe s
section
variable{X:Cx}{pos:Pos}
noncomputable def eW(i:Nat):TG:=fun v σ H Q=>Q (σ.set i (some v)) H
theorem jb(hN:X.N.Nodup)(hi:X.N[i]? =some x)(hx:Loc X.env.scope x)(hf:X.fn x=true∨X.env.scope.names.lookup x=some .local:=by first|exact .inl rfl|exact .inr rfl|assumption):PG X (.Name x pos) (eW i):=by
 intro pins s σ H v u Q I r h
 exact wpAny_assign_Name (gT I hN hi hx r (fun s' I'=>⟨_,H,I',h⟩) hf)
noncomputable def wr:uM:=fun vs σ H Q=>vs=[]∧Q σ H
noncomputable def ky(t:TG)(u:uM):uM:=fun vs σ H Q=>∃v r,vs=v::r∧t v σ H fun σ' H'=>u r σ' H' Q
theorem pI:zw X [] wr:=by
 intro pins s σ H vs us Q I r h
 obtain⟨e,h⟩:=h
 subst e
 cases r
 exact assignInOrder_nil ⟨σ,H,I,h⟩
theorem jy{es:List Expr}{t:TG}{u:uM}(h1:PG X e t)(h2:zw X es u)
  (hs:(assignEach (e::es) X.env).map (·.2)=assign e X.env::(assignEach es X.env).map (·.2):=by rfl):zw X (e::es) (ky t u):=by
 intro pins s σ H vs us Q I r h
 obtain⟨v,vr,e1,h⟩:=h
 subst e1
 cases r with
 |cons r rr=>
  rw[hs]
  refine assignInOrder_cons (bC (h1 pins s σ H _ _ _ I r h) fun _ s1 hp=>?_)
  obtain⟨σ1,H1,I1,q1⟩:=hp
  exact h2 pins s1 σ1 H1 _ _ Q I1 rr q1
noncomputable def yS(K:ao)(n:Nat)(t:uM):TG:=fun v σ H Q=>∃a xs,v=.ref a∧fP K H a xs∧xs.length=n∧t xs σ H Q
theorem yf{es:List Expr}{k:Nat}{t:uM}(hc:X.calm=true)(h:zw X es t)
  (hn:(assignEach es X.env).length=n:=by rfl)(hst:(assignEach es X.env).findIdx? (·.1)=none:=by rfl):PG X (.Tuple es k pos) (yS X.K n t):=by
 intro pins s σ H v u Q I r hw
 obtain⟨a,xs,e1,hq,hl,hw⟩:=hw
 subst e1
 cases r
 obtain⟨its,rv,ht,hz⟩:=I.tuple hq
 refine assign_Tuple_tuple (I.ok.hd hc) ht (by simp[hn,←hl,rv.length]) hst fun h' hx=>?_
 have I1:Inv X pins σ H {s with heap:=h'}:=I.kept (t':=s.toks) fun b o e=>hx b o (ak (ai e)) e
 exact h pins _ σ H xs _ Q I1 (by simpa using rv) hw
noncomputable def qr(te:TE)(g:TG):TS:=fun D σ H=>te σ H fun x H1=>g x σ H1 D.nx
theorem ls{te:TE}{pos':Pos}(hN:X.N.Nodup)(hi:X.N[i]? =some x)(hx:Loc X.env.scope x)(he:PE X e te)(hs:swapsWith e (some (.Name x pos')) pos.line X.env=pure false:=by rfl)(hf:X.fn x=true∨X.env.scope.names.lookup x=some .local:=by first|exact .inl rfl|exact .inr rfl|assumption):
  PS X (.Assign [.Name x pos'] e pos) (qr te (eW i)):=by
 intro pins s σ H D I h
 refine wpAny_Assign_Name (bC (he pins s σ H _ I h) fun v s1 ⟨y,H1,I1,r1,q1⟩=>?_) hs
 exact gT I1 hN hi hx r1 (fun s2 I2=>⟨_,H1,I2,q1⟩) hf
end
section
variable{X:Cx}{pos:Pos}
noncomputable def xr(c:TT)(tb:TS):TS:=fun D σ H=>∃W:Nat→St→Hp→Prop,(∃m,W m σ H)∧∀m σ H,W m σ H→
 c σ H fun b H1=>if b=true then ∃N:St→Hp→Prop,(∀σ' H',N σ' H'→∃m',m'<m∧W m' σ' H')∧tb {D with nx:=N,ct:=N,bk:=D.nx} σ H1 else D.nx σ H1
theorem sJ{body:List Stmt}{tc:TT}{tb:TS}(hp:PassesOwn (model X.prog X.w) X.A X.env X.xe)(hc:PT X c tc)(hb:PSs X body tb):PS X (.While c body [] pos) (xr tc tb):=by
 intro pins s σ H D I h
 obtain⟨W,⟨m0,w0⟩,turn⟩:=h
 refine wpAny_While (codeAny_whileLoop (fun n s'=>∃σ' H',Inv X pins σ' H' s'∧W n σ' H') ?_ m0 ⟨σ,H,I,w0⟩)
 rintro n s1 ⟨σ1,H1,I1,w1⟩
 refine wpAny_passesOwn hp (bC (hc pins s1 σ1 H1 _ I1 (turn n σ1 H1 w1)) fun b s2 ⟨H2,I2,q2⟩=>?_)
 cases b with
 |true=>
  obtain⟨N,hN,q2⟩:=q2
  rw[if_pos rfl]
  refine wpAny_passesOwn hp (bC (hb pins s2 σ1 H2 _ I2 q2) fun f s3 q3=>?_)
  cases f with
  |next=>
   obtain⟨σ3,H3,I3,n3⟩:=q3
   obtain⟨m',hm,w3⟩:=hN σ3 H3 n3
   exact⟨m',hm,σ3,H3,I3,w3⟩
  |cont=>
   obtain⟨σ3,H3,I3,n3⟩:=q3
   obtain⟨m',hm,w3⟩:=hN σ3 H3 n3
   exact⟨m',hm,σ3,H3,I3,w3⟩
  |brk=>exact q3
  |ret v=>exact q3
 |false=>
  rw[if_neg av]
  exact wpAny_execs_nil ⟨σ1,H2,I2,q2⟩
end
structure It where
 go:Nat→Hp→Prop
 yld:Nat→Hp→V→Hp→Prop
 stop:Nat→Hp→Prop
noncomputable def eQ(X:Cx)(pins:List (Addr×Obj))(H:Hp)(b:Addr):Prop:=
 H b=none∧b≠X.env.locals∧b∉X.fs∧(b∈X.ex∨X.s₀.heap.objs.size≤b)∧(∀x c,X.env.cells.lookup x=some c→c≠b)∧∀p∈X.pn++pins,p.1≠b
theorem Inv.fpOk{X:Cx}{σ:St}{H H':Hp}(I:Inv X pins σ H s)(hb:s.heap.objs.size≤b)(hn:H' b=none):eQ X pins H' b:=by
 refine⟨hn,aR (am I.lt hb),I.nofs hb,.inr (aP I.sz hb),fun x c e z=>?_,fun p hp z=>?_⟩
 ·obtain⟨v,q⟩:=I.cell x c e
  exact absurd (am q.lt (by rw[z];exact hb)) (bg _)
 ·exact absurd (am (ai (I.pin p hp).1) (by rw[z];exact hb)) (bg _)
structure Turn(P:Program)(w:World)(K:ao)(tg:Expr)(J:It)(fp:List Addr)(it:Addr)(tn:Nat→Heap→Prop):Prop where
 mem:it∈fp
 obj:∀i h,tn i h→∀b∈fp,∃o,h.get? b=some o∧∀v,o.data≠ .cell v
 keep:∀i h h',tn i h→(∀b∈fp,∀o,h.get? b=some o→h'.get? b=some o)→tn i h'
 item:∀(X:Cx),X.prog=P→X.w=w→X.K=K→X.calm=true→∀(i:Nat)(pins:List (Addr×Obj))(s:Shared)(σ:St)(H:Hp)(E:Value→Shared→Prop),Inv X pins σ H s→(∀b∈fp,eQ X pins H b)→tn i s.heap→J.go i H→
  wpAny (model P w) X.A (pyNext (.ref it)) (fun r s1=>∃u,r=some u∧
   wpAny (model P w) X.A (letOwnedTupleGo tg (.ref it) u) (fun _ s2=>∃x H',Inv X pins σ H' s2∧RelV x u∧J.yld i H x H'∧tn (i+1) s2.heap∧∀b∈fp,H' b=none) E s1) E s
 done:∀(X:Cx),X.prog=P→X.w=w→X.K=K→X.calm=true→∀(i:Nat)(pins:List (Addr×Obj))(s:Shared)(σ:St)(H:Hp)(E:Value→Shared→Prop),Inv X pins σ H s→(∀b∈fp,eQ X pins H b)→tn i s.heap→J.stop i H→
  wpAny (model P w) X.A (pyNext (.ref it)) (fun r s1=>r=none∧Inv X pins σ H s1) E s
 self:∀(A:Around)(i:Nat)(s:Shared)(Q:Value→Shared→Prop)(E:Value→Shared→Prop),tn i s.heap→Q (.ref it) s→wpAny (model P w) A (pyIter (.ref it)) Q E s
noncomputable abbrev TI:=St→Hp→(It→Hp→Prop)→Prop
noncomputable def CB(X:Cx)(pins:List (Addr×Obj))(σ:St)(tg:Expr)(R:It→Hp→Prop)(itv:Value)(s2:Shared):Prop:=
 ∃(it:Addr)(fp:List Addr)(tn:Nat→Heap→Prop)(J:It)(H':Hp),itv=.ref it∧Inv X pins σ H' s2∧Turn X.prog X.w X.K tg J fp it tn∧tn 0 s2.heap∧(∀b∈fp,eQ X pins H' b)∧R J H'
noncomputable def PI(X:Cx)(tg iter:Expr)(wi:TI):Prop:=
 ∀(pins:List (Addr×Obj))(s:Shared)(σ:St)(H:Hp)(R:It→Hp→Prop),Inv X pins σ H s→wi σ H R→
  wpAny (model X.prog X.w) X.A (eval iter X.env) (fun v s1=>wpAny (model X.prog X.w) X.A (pyIter v) (CB X pins σ tg R) X.xe s1) X.xe s
theorem tR{M:Model}{n:String}{vs:Array Value}{Q:Unit→Shared→Prop}(ho:s.heap.get? it=some o)(hc:o.cls=.type n)(hd:o.data=.fields vs)
  (hn:["enumerate","zip","dict_itemiterator","dict_reverseitemiterator","odict_iterator","itertools.zip_longest","itertools.pairwise"].contains n=false) (hQ:Q () s):wpAny M A (letOwnedTupleGo tg (.ref it) u) Q E s:=by
 unfold letOwnedTupleGo
 cases tg<;>first
  |exact ae hQ
  |(cases u<;>first
    |exact ae hQ
    |(refine aa (wpAny_load ho ?_)
      rw[hc,hd]
      show wpAny M A (if(["enumerate","zip","dict_itemiterator","dict_reverseitemiterator","odict_iterator","itertools.zip_longest","itertools.pairwise"].contains n&&vs[0]? ==some (rawInt _))=true then _ else _) Q E s
      rw[if_neg (by intro h;rw[hn,Bool.false_and] at h;cases h)]
      exact ae hQ))
noncomputable def Bu(K:ao)(a:Addr):It:=
 ⟨fun i H=>∃xs x,dz K H a xs∧xs[i]? =some x,fun i H x H'=>H'=H∧∀xs,dz K H a xs→xs[i]? =some x,fun i H=>∃xs,dz K H a xs∧xs.length≤i⟩
noncomputable def Co(K:ao)(a:Addr):It:=
 ⟨fun i H=>∃xs x,fP K H a xs∧xs[i]? =some x,fun i H x H'=>H'=H∧∀xs,fP K H a xs→xs[i]? =some x,fun i H=>∃xs,fP K H a xs∧xs.length≤i⟩
noncomputable def Bs(lo:Int)(n:Nat):It:=⟨fun i _=>i<n,fun i H x H'=>H'=H∧x=.int (lo+i),fun i _=>n≤i⟩
theorem qo{K:ao}(a it:Addr):Turn P w K tg (Bu K a) [it] it (fun i h=>h.IsListIter it a i) where
 mem:=by simp
 obj:=fun i h st b hb=>by
  have e:b=it:=by simpa using hb
  subst e
  obtain⟨o,e,c,d⟩:=st
  exact⟨o,e,fun v z=>by rw[d] at z;cases z⟩
 keep:=fun i h h' st k=>st.at fun o e=>k it (by simp) o e
 item:=by
  intro X hP hw hK hc i pins s σ H E I hf st hg
  subst hP hw hK
  obtain⟨xs,x,hq,hx⟩:=hg
  obtain⟨its,rv,p,hz⟩:=I.list hq
  obtain⟨u,hu,ru⟩:=rv.get hx
  obtain⟨f0,f1,f2,f3,f4,f5⟩:=hf it (by simp)
  refine wpAny_pyNext_list_item st p.isList (x:=u) (by simpa using hu) fun h' st' sb=>?_
  have I1:Inv X pins σ H {s with heap:=h'}:=I.turned (t':=s.toks) (fun b o hb e=>(sb.2 b hb).trans e) f0 f1 f3 f4 f5
  obtain⟨o,e,c,d⟩:=id st'
  exact⟨u,rfl,tR (s:={s with heap:=h'}) e c d (by decide) ⟨x,H,I1,ru,⟨rfl,fun ys hy=>by rw[I.list_inj hy hq];exact hx⟩,st',fun b hb=>(hf b hb).1⟩⟩
 done:=by
  intro X hP hw hK hc i pins s σ H E I hf st hg
  subst hP hw hK
  obtain⟨xs,hq,hx⟩:=hg
  obtain⟨its,rv,p,hz⟩:=I.list hq
  obtain⟨f0,f1,f2,f3,f4,f5⟩:=hf it (by simp)
  have hl:=rv.length
  exact wpAny_pyNext_list_end (I.ok.hd hc) st p.isList (by simp;omega) fun h' eb=>⟨rfl,I.turned (t':=s.toks) (fun b o hb e=>eb b o hb e) f0 f1 f3 f4 f5⟩
 self:=fun _ _ _ _ _ st h=>wpAny_pyIter_listiter st h
theorem nI{K:ao}(a it:Addr):Turn P w K tg (Co K a) [it] it (fun i h=>h.IsTupleIter it a i) where
 mem:=by simp
 obj:=fun i h st b hb=>by
  have e:b=it:=by simpa using hb
  subst e
  obtain⟨o,e,c,d⟩:=st
  exact⟨o,e,fun v z=>by rw[d] at z;cases z⟩
 keep:=fun i h h' st k=>st.at fun o e=>k it (by simp) o e
 item:=by
  intro X hP hw hK hc i pins s σ H E I hf st hg
  subst hP hw hK
  obtain⟨xs,x,hq,hx⟩:=hg
  obtain⟨its,rv,p,hz⟩:=I.tuple hq
  obtain⟨u,hu,ru⟩:=rv.get hx
  obtain⟨f0,f1,f2,f3,f4,f5⟩:=hf it (by simp)
  refine wpAny_pyNext_tuple_item st (show s.heap.IsTuple a its.toArray from p) (x:=u) (by simpa using hu) fun h' st' sb=>?_
  have I1:Inv X pins σ H {s with heap:=h'}:=I.turned (t':=s.toks) (fun b o hb e=>(sb.2 b hb).trans e) f0 f1 f3 f4 f5
  obtain⟨o,e,c,d⟩:=id st'
  exact⟨u,rfl,tR (s:={s with heap:=h'}) e c d (by decide) ⟨x,H,I1,ru,⟨rfl,fun ys hy=>by rw[I.tuple_inj hy hq];exact hx⟩,st',fun b hb=>(hf b hb).1⟩⟩
 done:=by
  intro X hP hw hK hc i pins s σ H E I hf st hg
  subst hP hw hK
  obtain⟨xs,hq,hx⟩:=hg
  obtain⟨its,rv,p,hz⟩:=I.tuple hq
  obtain⟨f0,f1,f2,f3,f4,f5⟩:=hf it (by simp)
  have hl:=rv.length
  exact wpAny_pyNext_tuple_end (I.ok.hd hc) st (show s.heap.IsTuple a its.toArray from p) (by simp;omega) fun h' eb=>⟨rfl,I.turned (t':=s.toks) (fun b o hb e=>eb b o hb e) f0 f1 f3 f4 f5⟩
 self:=fun _ _ _ _ _ st h=>wpAny_pyIter_tupleiter st h
theorem nJ{K:ao}(it:Addr)(lo:Int)(n:Nat):Turn P w K tg (Bs lo n) [it] it (fun i h=>IsRangeIter h it (lo+(i:Nat)*1) ((n:Int) - (i:Nat)) 1) where
 mem:=by simp
 obj:=fun i h st b hb=>by
  have e:b=it:=by simpa using hb
  subst e
  exact⟨_,st,fun v z=>by
   have z':Data.fields _=Data.cell v:=z
   cases z'⟩
 keep:=fun i h h' st k=>k it (by simp) _ st
 item:=by
  intro X hP hw hK hc i pins s σ H E I hf st hg
  subst hP hw hK
  obtain⟨f0,f1,f2,f3,f4,f5⟩:=hf it (by simp)
  have W:=Walks.range (prog:=X.prog) (w:=X.w) (I.ok.hd hc) it lo 1 n
  refine W.item i s _ _ hg st fun v h' tk hv st' kk=>?_
  obtain⟨t,rfl⟩:=hv
  have I1:Inv X pins σ H {s with heap:=h',toks:=tk}:=I.turned (fun b o hb e=>kk b o (by simpa using hb) e) f0 f1 f3 f4 f5
  refine⟨_,rfl,tR (s:={s with heap:=h',toks:=tk}) (n:= "range_iterator") st' rfl rfl (by decide) ⟨.int (lo+i),H,I1,⟨t,?_⟩,⟨rfl,rfl⟩,st',fun b hb=>(hf b hb).1⟩⟩
  rw[Int.mul_one]
 done:=by
  intro X hP hw hK hc i pins s σ H E I hf st hg
  subst hP hw hK
  obtain⟨f0,f1,f2,f3,f4,f5⟩:=hf it (by simp)
  exact wpAny_pyNext_range_end (I.ok.hd hc) st (by have:n≤i:=hg;omega) fun h' eb=>⟨rfl,I.turned (t':=s.toks) (fun b o hb e=>eb b o hb e) f0 f1 f3 f4 f5⟩
 self:=fun _ _ _ _ _ st h=>wpAny_pyIter_rangeiter st h
section
variable{X:Cx}{tg:Expr}
theorem sE{σ:St}{H:Hp}{R:It→Hp→Prop}{lo hi:Int}{t u v:Tok}{tk:Nat}(I:Inv X pins σ H s)(h1: -(2^62)≤lo)(h2:lo<2^62)(h3: -(2^62)≤hi)(h4:hi<2^62)
  (q:R (Bs lo (hi - lo).toNat) H):wpAny (model X.prog X.w) X.A (pyIter (.ref s.heap.objs.size)) (CB X pins σ tg R) E {s with heap:=s.heap.push {cls:= .type "range",data:= .fields #[.int lo t,.int hi u,.int 1 v]},toks:=tk}:=by
 refine wpAny_pyIter_range (IsRange.new ..) (small_one h1 h2 h3 h4) ?_
 have I1:Inv X pins σ H {s with heap:=s.heap.push {cls:= .type "range",data:= .fields #[.int lo t,.int hi u,.int 1 v]},toks:=tk}:=I.kept fun b o e=>ac _ e
 refine⟨(s.heap.push {cls:= .type "range",data:= .fields #[.int lo t,.int hi u,.int 1 v]}).objs.size,[(s.heap.push {cls:= .type "range",data:= .fields #[.int lo t,.int hi u,.int 1 v]}).objs.size],_,_,H,rfl,
  I1.kept (t':=tk) fun b o e=>ac _ e,nJ _ lo (hi - lo).toNat,?_,fun b hb=>?_,q⟩
 ·have e1:lo+((0:Nat):Int)*1=lo:=by simp
  have e2:(((hi - lo).toNat:Nat):Int) - ((0:Nat):Int)=Builtin.Range.rangeSize lo hi 1:=by rw[rangeSize_one];split<;>omega
  show IsRangeIter _ _ (lo+((0:Nat):Int)*1) ((((hi - lo).toNat:Nat):Int) - ((0:Nat):Int)) 1
  rw[e1,e2]
  exact aq _ rfl
 ·have e:b=(s.heap.push {cls:= .type "range",data:= .fields #[.int lo t,.int hi u,.int 1 v]}).objs.size:=by simpa using hb
  subst e
  exact I1.fpOk (af _) (I1.hok.fresh (af _))
noncomputable def w5(ta:TA):TI:=fun σ H R=>ta σ H fun vs H1=>∃j:Int,vs=[.int j]∧ -(2^62)≤j∧j<2^62∧R (Bs 0 j.toNat) H1
theorem qB{a:Expr}{ta:TA}{p:Pos}(hg:Gl X "range")(hm:X.mg "range"=none)(ha:PA X [a] ta)(hs:starEach [a] X.env=[(false,eval a X.env)]:=by rfl):PI X tg (.Call (.Name "range" p) [a] [] pos) (w5 ta):=by
 intro pins s σ H R I h
 refine Call_ (eK I hg hm boot_range (aW (bC (ha pos pins s σ H _ I h) fun us s1 ⟨vs,H1,I1,r1,q1⟩=>?_) hs rfl))
 obtain⟨j,e,q1,q2,q⟩:=q1
 subst e
 cases r1 with
 |cons r rr=>
  cases rr
  obtain⟨t,rfl⟩:=r
  exact call_range_1 (sE I1 (by omega) (by omega) q1 q2 (by simpa using q))
noncomputable def BH(wi:TI)(g:TG)(tb:TS):TS:=fun D σ H=>wi σ H fun J H1=>∃W:Nat→Nat→St→Hp→Prop,(∃m,W 0 m σ H1)∧∀i m σ H,W i m σ H→
 (J.stop i H∧D.nx σ H)∨(J.go i H∧∃N:St→Hp→Prop,(∀σ' H',N σ' H'→∃m',m'<m∧W (i+1) m' σ' H')∧∀x H',J.yld i H x H'→g x σ H' fun σ2 H2=>tb {D with nx:=N,ct:=N,bk:=D.nx} σ2 H2)
noncomputable def iz(fp:List Addr)(h:Heap):List (Addr×Obj):=fp.filterMap fun b=>(h.get? b).map fun o=>(b,o)
theorem c8(hb:b∈fp)(e:h.get? b=some o):(b,o)∈iz fp h:=List.mem_filterMap.mpr ⟨b,hb,by rw[e];rfl⟩
theorem qF{p:Addr×Obj}(hp:p∈iz fp h):p.1∈fp∧h.get? p.1=some p.2:=by
 obtain⟨b,hb,e⟩:=List.mem_filterMap.mp hp
 cases q:h.get? b with
 |none=>rw[q] at e;cases e
 |some o=>
  rw[q] at e
  have e':(b,o)=p:=aj e
  subst e'
  exact⟨hb,q⟩
theorem Inv.pinned{σ:St}{H:Hp}(I:Inv X pins σ H s)(hf:∀b∈fp,eQ X pins H b)(ho:∀b∈fp,∃o,s.heap.get? b=some o∧∀v,o.data≠ .cell v):Inv X (pins++iz fp s.heap) σ H s:=
 I.pins_of fun p hp=>(List.mem_append.mp hp).elim (fun z=>I.pin p (aL _ z)) fun z=>by
  obtain⟨hb,e⟩:=qF z
  obtain⟨f0,f1,f2,_⟩:=hf p.1 hb
  obtain⟨o,e',d⟩:=ho p.1 hb
  rw[e] at e';cases e'
  exact⟨e,f0,f1,f2,d⟩
theorem Inv.unpinned{pl:List (Addr×Obj)}{σ:St}{H:Hp}(I:Inv X (pins++pl) σ H s):Inv X pins σ H s:=I.pins_of fun p hp=>I.pin p (aL _ (List.mem_append_left _ hp))
theorem og{iter:Expr}{body:List Stmt}{wi:TI}{g:TG}{tb:TS}(hp:PassesOwn (model X.prog X.w) X.A X.env X.xe)(hc:X.calm=true)(hi:PI X tg iter wi)(hg:PG X tg g)(hb:PSs X body tb)
  (hs:∀x,foldedSetIterable iter X.env x=pure x:=by intro _;rfl):PS X (.For tg iter body [] pos) (BH wi g tb):=by
 intro pins s σ H D I h
 refine wpAny_For (bC (hi pins s σ H _ I h) fun v s1 h1=>bC h1 fun itv s2 h2=>?_) hs
 obtain⟨it,fp,tn,J,H2,e,I2,T,st2,f2,W,⟨m0,w0⟩,turn⟩:=h2
 subst e
 have stat:∀{H':Hp},(∀b∈fp,H' b=none)→∀b∈fp,eQ X pins H' b:=fun hn b hb=>⟨hn b hb,(f2 b hb).2⟩
 refine codeAny_forLoop_any (fun n s'=>∃i σ' H',Inv X pins σ' H' s'∧tn i s'.heap∧(∀b∈fp,H' b=none)∧W i n σ' H') ?_ m0 ⟨0,σ,H2,I2,st2,fun b hb=>(f2 b hb).1,w0⟩
 rintro n s3 ⟨i,σ3,H3,I3,st3,fr3,w3⟩
 rcases turn i n σ3 H3 w3 with⟨stop,qn⟩|⟨go,N,hN,step⟩
 ·refine wpAny_passesOwn hp (bC (T.done X rfl rfl rfl hc i pins s3 σ3 H3 X.xe I3 (stat fr3) st3 stop) fun r s4 ⟨hr,I4⟩=>?_)
  subst hr
  exact wpAny_execs_nil ⟨σ3,H3,I4,qn⟩
 ·refine wpAny_passesOwn hp (bC (T.item X rfl rfl rfl hc i pins s3 σ3 H3 X.xe I3 (stat fr3) st3 go) fun r s4 hp=>?_)
  obtain⟨u,hr,h4⟩:=hp
  subst hr
  refine wpAny_passesOwn hp (bC h4 fun _ s5 hp=>?_)
  obtain⟨x,H5,I5,r5,y5,st5,fr5⟩:=hp
  have I5':=I5.pinned (stat fr5) (T.obj _ _ st5)
  refine wpAny_passesOwn hp (bC (hg _ s5 σ3 H5 x u _ I5' r5 (step x H5 y5)) fun _ s6 hp=>?_)
  obtain⟨σ6,H6,I6,q6⟩:=hp
  refine wpAny_passesOwn hp (bC (hb _ s6 σ6 H6 _ I6 q6) fun f s7 q7=>?_)
  have again:∀{σ7:St}{H7:Hp},Inv X (pins++iz fp s5.heap) σ7 H7 s7→N σ7 H7→∃m,m<n∧∃i σ' H',Inv X pins σ' H' s7∧tn i s7.heap∧(∀b∈fp,H' b=none)∧W i m σ' H':=fun{σ7 H7} I7 n7=>by
   obtain⟨m',hm,w7⟩:=hN σ7 H7 n7
   refine⟨m',hm,i+1,σ7,H7,I7.unpinned,T.keep _ _ _ st5 fun b hb o e=>(I7.pin (b,o) (aL _ (aL _ (c8 hb e)))).1,fun b hb=>?_,w7⟩
   obtain⟨o,e,d⟩:=T.obj _ _ st5 b hb
   exact(I7.pin (b,o) (aL _ (aL _ (c8 hb e)))).2.1
  cases f with
  |next=>obtain⟨σ7,H7,I7,n7⟩:=q7;exact again I7 n7
  |cont=>obtain⟨σ7,H7,I7,n7⟩:=q7;exact again I7 n7
  |brk=>obtain⟨σ7,H7,I7,q7⟩:=q7;exact⟨σ7,H7,I7.unpinned,q7⟩
  |ret v=>obtain⟨x7,σ7,H7,I7,r7,q7⟩:=q7;exact⟨x7,σ7,H7,I7.unpinned,r7,q7⟩
end
noncomputable abbrev R2:=V→V→Hp→VK→Prop
noncomputable def jh(X:Cx)(f:Value→Value→Sem Value)(r:R2):Prop:=
 ∀(pins:List (Addr×Obj))(s:Shared)(σ:St)(H:Hp)(x y:V)(v u:Value)(Q:VK),Inv X pins σ H s→RelV x v→RelV y u→r x y H Q→
  wpAny (model X.prog X.w) X.A (f v u) (EP X pins σ Q) X.xe s
noncomputable def Ci(X:Cx)(f:Value→Sem Value)(r:V→Hp→VK→Prop):Prop:=
 ∀(pins:List (Addr×Obj))(s:Shared)(σ:St)(H:Hp)(x:V)(v:Value)(Q:VK),Inv X pins σ H s→RelV x v→r x H Q→
  wpAny (model X.prog X.w) X.A (f v) (EP X pins σ Q) X.xe s
noncomputable def fG(X:Cx)(f:Value)(r:List V→Hp→VK→Prop):Prop:=
 ∀(pins:List (Addr×Obj))(s:Shared)(σ:St)(H:Hp)(xs:List V) (us:List Value)(Q:VK),Inv X pins σ H s→bj xs us→r xs H Q→
  wpAny (model X.prog X.w) X.A (call f us) (EP X pins σ Q) X.xe s
noncomputable def zU(r:R2)(ta tb:TE):TE:=fun σ H Q=>ta σ H fun x H1=>tb σ H1 fun y H2=>r x y H2 Q
noncomputable def CI(r:V→Hp→VK→Prop)(ta:TE):TE:=fun σ H Q=>ta σ H fun x H1=>r x H1 Q
noncomputable def rI(C:Int→Int→Prop)(g:Int→Int→V):R2:=fun x y H Q=>∃i j,x=.int i∧y=.int j∧C i j∧Q (g i j) H
noncomputable def x4(g:Int→Int→V):R2:=fun x y H Q=>∃i j,x=.int i∧y=.int j∧Q (g i j) H
noncomputable def rU(g:Int→V):V→Hp→VK→Prop:=fun x H Q=>∃i,x=.int i∧Q (g i) H
section
variable{X:Cx}{a b:Expr}{ta tb:TE}{pos:Pos}
theorem zh(ha:PE X a ta)(hb:PE X b tb){σ:St}{H:Hp}{R:V→V→Hp→Prop}(I:Inv X pins σ H s)
  (h:ta σ H fun x H1=>tb σ H1 fun y H2=>R x y H2)
  (hf:∀v u s2 x y H2,Inv X pins σ H2 s2→RelV x v→RelV y u→R x y H2→wpAny (model X.prog X.w) X.A (f v u) Q X.xe s2):
  wpAny (model X.prog X.w) X.A (eval a X.env) (fun v s₁=>wpAny (model X.prog X.w) X.A (eval b X.env) (fun u s₂=>wpAny (model X.prog X.w) X.A (f v u) Q X.xe s₂) X.xe s₁) X.xe s:=by
 refine bC (ha pins s σ H _ I h) fun v s1 hp=>?_
 obtain⟨x,H1,I1,r1,q1⟩:=hp
 refine bC (hb pins s1 σ H1 _ I1 q1) fun u s2 hp=>?_
 obtain⟨y,H2,I2,r2,q2⟩:=hp
 exact hf v u s2 x y H2 I2 r1 r2 q2
theorem AA{op:Operator}{r:R2}(ho:jh X (binaryOp op) r)(ha:PE X a ta)(hb:PE X b tb):PE X (.BinOp a op b pos) (zU r ta tb):=by
 intro pins s σ H Q I h
 exact wpAny_BinOp (zh ha hb I h fun v u s2 x y H2 I2 rx ry q=>ho pins s2 σ H2 x y v u Q I2 rx ry q)
theorem Ax{op:UnaryOp}{r:V→Hp→VK→Prop}(ho:Ci X (unaryOp op) r)(ha:PE X a ta):PE X (.UnaryOp op a pos) (CI r ta):=by
 intro pins s σ H Q I h
 exact UnaryOp_ (bC (ha pins s σ H _ I h) fun v s1 ⟨x,H1,I1,r1,q1⟩=>ho pins s1 σ H1 x v Q I1 r1 q1)
theorem Bn{C:Int→Int→Prop}{g:Int→Int→Int}
  (rule:∀(i j:Int)(t u:Tok)(s:Shared)(Q:Value→Shared→Prop)(E:Value→Shared→Prop),C i j→Q (.int (g i j) s.toks) {s with toks:=s.toks+1}→wpAny (model X.prog X.w) X.A (f (.int i t) (.int j u)) Q E s):
  jh X f (rI C fun i j=>.int (g i j)):=by
 intro pins s σ H x y v u Q I rx ry h
 obtain⟨i,j,rfl,rfl,hc,q⟩:=h
 obtain⟨t,rfl⟩:=rx
 obtain⟨t',rfl⟩:=ry
 exact rule i j t t' s _ _ hc ⟨.int (g i j),H,I.tok _,⟨_,rfl⟩,q⟩
theorem AH{g:Int→Int→Int}
  (rule:∀(i j:Int)(t u:Tok)(s:Shared)(Q:Value→Shared→Prop)(E:Value→Shared→Prop),Q (.int (g i j) s.toks) {s with toks:=s.toks+1}→wpAny (model X.prog X.w) X.A (f (.int i t) (.int j u)) Q E s):
  jh X f (x4 fun i j=>.int (g i j)):=by
 intro pins s σ H x y v u Q I rx ry h
 obtain⟨i,j,rfl,rfl,q⟩:=h
 obtain⟨t,rfl⟩:=rx
 obtain⟨t',rfl⟩:=ry
 exact rule i j t t' s _ _ ⟨.int (g i j),H,I.tok _,⟨_,rfl⟩,q⟩
theorem yz{g:Int→Int→Bool}
  (rule:∀(i j:Int)(t u:Tok)(s:Shared)(Q:Value→Shared→Prop)(E:Value→Shared→Prop),Q (.bool (g i j)) s→wpAny (model X.prog X.w) X.A (f (.int i t) (.int j u)) Q E s):
  jh X f (x4 fun i j=>.bl (g i j)):=by
 intro pins s σ H x y v u Q I rx ry h
 obtain⟨i,j,rfl,rfl,q⟩:=h
 obtain⟨t,rfl⟩:=rx
 obtain⟨t',rfl⟩:=ry
 exact rule i j t t' s _ _ ⟨.bl (g i j),H,I,rfl,q⟩
noncomputable def Cr(i j:Int):Prop:=0≤j∧j≤1000000∧i.natAbs<2^64
noncomputable def zn(i j:Int):Prop:=(-(2^64)<i∧i<2^64)∨(-(2^64)<j∧j<2^64)
theorem zn.ok{i j:Int}(h:zn i j):IntMulOk i j:=by
 rcases h with⟨h1,h2⟩|⟨h1,h2⟩
 ·exact .of_left (intBits_le_64 h1 h2)
 ·exact .of_right (intBits_le_64 h1 h2)
theorem yx:jh X (binaryOp .Add) (x4 fun i j=>.int (i+j)):=AH fun _ _ _ _ _ _ _ q=>add_int q
theorem yq:jh X (binaryOp .Sub) (x4 fun i j=>.int (i - j)):=AH fun _ _ _ _ _ _ _ q=>sub_int q
theorem v_:jh X (binaryOp .Mod) (rI (fun _ j=>j≠0) fun i j=>.int (i.fmod j)):=Bn fun _ _ _ _ _ _ _ hc q=>mod_int' hc q
theorem yt:jh X (binaryOp .Pow) (rI Cr fun i j=>.int (i^j.toNat)):=Bn fun _ _ _ _ _ _ _ hc q=>pow_int_small hc.1 hc.2.1 hc.2.2 q
theorem CH{f:Value→Sem Value}{g:Int→Int}
  (rule:∀(i:Int)(t:Tok)(s:Shared)(Q:Value→Shared→Prop)(E:Value→Shared→Prop),Q (.int (g i) s.toks) {s with toks:=s.toks+1}→wpAny (model X.prog X.w) X.A (f (.int i t)) Q E s):
  Ci X f (rU fun i=>.int (g i)):=by
 intro pins s σ H x v Q I rx h
 obtain⟨i,rfl,q⟩:=h
 obtain⟨t,rfl⟩:=rx
 exact rule i t s _ _ ⟨.int (g i),H,I.tok _,⟨_,rfl⟩,q⟩
theorem xo:Ci X (unaryOp .USub) (rU fun i=>.int (-i)):=CH fun _ _ _ _ _ q=>neg_int q
end
section
variable{X:Cx}{a b c:Expr}{ta tb tc:TE}{pos:Pos}
theorem AE:jh X (compareOp .Lt) (x4 fun i j=>.bl (decide (i<j))):=yz fun _ _ _ _ _ _ _ q=>lt_int q
theorem AF:jh X (compareOp .LtE) (x4 fun i j=>.bl (decide (i≤j))):=yz fun _ _ _ _ _ _ _ q=>le_int q
theorem AG:jh X (compareOp .Gt) (x4 fun i j=>.bl (decide (j<i))):=yz fun _ _ _ _ _ _ _ q=>gt_int q
theorem v6{op:CmpOp}{r:R2}(ho:jh X (compareOp op) r)(ha:PE X a ta)(hb:PE X b tb)(hm:behindInMarks op b=false):PE X (.Compare a [op] [b] pos) (zU r ta tb):=by
 intro pins s σ H Q I h
 exact wpAny_Compare1 (zh ha hb I h fun v u s2 x y H2 I2 rx ry q=>ho pins s2 σ H2 x y v u Q I2 rx ry q) hm
noncomputable def rR(t:TE):TT:=fun σ H Q=>t σ H fun x H'=>∃k,x=.bl k∧Q k H'
theorem vS{op:CmpOp}{r:R2}(ho:jh X (compareOp op) r)(ha:PE X a ta)(hb:PE X b tb)(hm:behindInMarks op b=false):PT X (.Compare a [op] [b] pos) (rR (zU r ta tb)):=by
 intro pins s σ H Q I h
 refine wpAny_isTrue_Compare1 (bC (ha pins s σ H _ I h) fun v s1 ⟨x,H1,I1,r1,q1⟩=>bC (hb pins s1 σ H1 _ I1 q1) fun u s2 ⟨y,H2,I2,r2,q2⟩=>
  bC (ho pins s2 σ H2 x y v u _ I2 r1 r2 q2) fun c s3 ⟨z,H3,I3,r3,k,e,q3⟩=>?_) hm
 subst e
 cases r3
 exact wpAny_truthy_bool ⟨H3,I3,q3⟩
noncomputable def nN(r r':R2)(ta tb tc:TE):TE:=fun σ H Q=>ta σ H fun x H1=>tb σ H1 fun y H2=>r x y H2 fun z H3=>∃k,z=.bl k∧
 (if k=true then tc σ H3 fun w' H4=>r' y w' H4 Q else Q (.bl false) H3)
theorem sV{op op':CmpOp}{r r':R2}(ho:jh X (compareOp op) r)(ho':jh X (compareOp op') r')(ha:PE X a ta)(hb:PE X b tb)(hc:PE X c tc)
  (hm:lastMarks [op,op'] [b,c]=false:=by with_unfolding_all rfl):PE X (.Compare a [op,op'] [b,c] pos) (nN r r' ta tb tc):=by
 intro pins s σ H Q I h
 refine Compare_chain (bC (ha pins s σ H _ I h) fun v s1 ⟨x,H1,I1,r1,q1⟩=>chain_link (bC (hb pins s1 σ H1 _ I1 q1) fun u s2 ⟨y,H2,I2,r2,q2⟩=>
  bC (ho pins s2 σ H2 x y v u _ I2 r1 r2 q2) fun d s3 ⟨z,H3,I3,r3,k,e,q3⟩=>?_)) hm
 subst e
 cases r3
 refine wpAny_truthy_bool ?_
 cases k with
 |false=>exact ite_ff ⟨.bl false,H3,I3,rfl,q3⟩
 |true=>exact ite_tt (chain_last (bC (hc pins s3 σ H3 _ I3 q3) fun w' s4 ⟨z',H4,I4,r4,q4⟩=>ho' pins s4 σ H4 y z' u w' Q I4 r2 r4 q4))
theorem sH{op op':CmpOp}{r r':R2}(ho:jh X (compareOp op) r)(ho':jh X (compareOp op') r')(ha:PE X a ta)(hb:PE X b tb)(hc:PE X c tc)
  (hm:lastMarks [op,op'] [b,c]=false:=by with_unfolding_all rfl):PT X (.Compare a [op,op'] [b,c] pos) (rR (nN r r' ta tb tc)):=by
 intro pins s σ H Q I h
 refine isTrue_chain (bC (ha pins s σ H _ I h) fun v s1 ⟨x,H1,I1,r1,q1⟩=>test_link (bC (hb pins s1 σ H1 _ I1 q1) fun u s2 ⟨y,H2,I2,r2,q2⟩=>
  bC (ho pins s2 σ H2 x y v u _ I2 r1 r2 q2) fun d s3 ⟨z,H3,I3,r3,k,e,q3⟩=>?_)) hm
 subst e
 cases r3
 refine wpAny_truthy_bool ?_
 cases k with
 |false=>
  obtain⟨k',e',q'⟩:=q3
  cases e'
  exact ite_ff ⟨H3,I3,q'⟩
 |true=>
  refine ite_tt (test_last (bC (hc pins s3 σ H3 _ I3 q3) fun w' s4 ⟨z',H4,I4,r4,q4⟩=>bC (ho' pins s4 σ H4 y z' u w' _ I4 r2 r4 q4) fun d' s5 hp=>?_))
  obtain⟨z2,H5,I5,r5,k2,e2,q5⟩:=hp
  subst e2
  cases r5
  exact wpAny_truthy_bool ⟨H5,I5,q5⟩
theorem oy:(sizeLine:Nat)<2^63:=by rw[sizeLine_eq];decide
theorem vals1{x:V}(r:bj [x] us):∃u,us=[u]∧RelV x u:=by
 cases r with
 |cons r1 r2=>cases r2;exact⟨_,rfl,r1⟩
theorem kJ:fG X (.type "int") (fun xs H Q=>(∃i,xs=[.int i]∧Q (.int i) H)∨∃k,xs=[.bl k]∧Q (.int (if k then 1 else 0)) H):=by
 intro pins s σ H xs us Q I r h
 rcases h with⟨i,rfl,q⟩|⟨k,rfl,q⟩
 ·obtain⟨u,rfl,t,rfl⟩:=vals1 r
  exact call_int_int ⟨.int i,H,I,⟨_,rfl⟩,q⟩
 ·obtain⟨u,rfl,r1⟩:=vals1 r
  cases r1
  exact call_int_bool ⟨.int (if k then 1 else 0),H,I.tok _,⟨_,rfl⟩,q⟩
end
structure ObjM(h:Heap)(x dx C:Addr)(mA:Str→Option Value):Prop where
 obj:h.get? x=some (PySem.W.instObj C dx)
 ns:h.Ns1 dx mA
 ne:dx≠x
theorem iC(n:h.Ns1 dx mA):∃od,h.get? dx=some od∧∀name,PySem.W.lookIn name od=some (mA name):=by
 obtain⟨o,es,ep,ho,hd,hk,_,hm⟩:=n
 refine⟨o,ho,fun name=>?_⟩
 have e:=hm name
 unfold nsFind findBy at e
 rw[←Array.find?_toList] at e
 unfold PySem.W.lookIn
 rw[hd]
 dsimp only
 split
 ·rename_i y q
  rw[q] at e
  exact congrArg some e
 ·rename_i q
  rw[q] at e
  have a:es.toList.any (·.refKey)=false:=by
   rw[List.any_eq_false]
   intro y hy
   obtain⟨z,t,hkey⟩:=hk y (Array.mem_toList_iff.mp hy)
   simp[DictEntry.refKey,hkey]
  have a':¬es.toList.any (·.refKey)=true:=by rw[a];exact av
  rw[if_neg a']
  exact congrArg some e
theorem ObjM.look{x:Addr}(I:ObjM h x dx C mA):∃od,PySem.W.InstAt h x (PySem.W.instObj C dx) C (some od)∧∀name,PySem.W.lookIn name od=some (mA name):=
 let⟨od,ho,hl⟩:=iC I.ns
 ⟨od,⟨I.obj,rfl,rfl,ho⟩,hl⟩
section
variable{prog:Program}{w:World}{A:Around}{E:Value→Shared→Prop}{s:Shared}{K:ao}{x dx C f:Addr}{mA:Str→Option Value}{name:Str}{v:Value}
theorem wq{expr:Bool}(X:K.In s.heap)(I:ObjM s.heap x dx C mA)(hg:PySem.W.plainGet K C name=true)(hh:PySem.W.hasDictIn K C=true)
  (ha:PySem.W.findIn K (.ref C) name=some none)(hv:mA name=some v)(hv':PySem.W.handedIn v=true)(h:Q v {s with toks:=s.toks+1}):
  wpAny (model prog w) A (getAttr (.ref x) name expr) Q E s:=by
 obtain⟨od,J,hl⟩:=I.look
 exact PySem.W.get_value X J (PySem.W.plainGet_of hg).1 (PySem.W.findObj_own hh ha rfl (by rw[hl,hv])) hv' h
theorem tU{pl:Sem Bool}{Q:Value×List Value→Shared→Prop}(X:K.In s.heap)(I:ObjM s.heap x dx C mA)(hg:PySem.W.plainGet K C name=true)
  (hf:PySem.W.findIn K (.ref C) name=some (some (.ref f)))(ht:PySem.W.isFn K (.ref f)=true)(hv:mA name=none)(h:Q (.ref f,[.ref x]) s):
  wpAny (model prog w) A (getMethod (.ref x) name pl) Q E s:=by
 obtain⟨od,J,hl⟩:=I.look
 exact PySem.W.method_fn X J (PySem.W.plainGet_of hg).1 (PySem.W.plainGet_of hg).2 hf (beq_iff_eq.mp ht) (by show(PySem.W.lookIn name od).map (·.isSome)=some false;rw[hl,hv];rfl) h
theorem vg{ns:List Str}{Q:Unit→Shared→Prop}(X:K.In s.heap)(I:ObjM s.heap x dx C mA)
  (hs:PySem.W.findIn K (.ref C) "__setattr__"=some (some (.builtin "object.__setattr__"))) (hp:PySem.W.plainOver K C=true)(ht:PySem.W.takerIn K C name=some none)(hh:PySem.W.hasDictIn K C=true)
  (hw:PySem.Within mA ns)(hsz:ns.length≤sizeLine)
  (h:∀h',ObjM h' x dx C (fun y=>if y=name then some v else mA y)→Heap.SameBut dx s.heap h'→Q () {s with heap:=h',toks:=s.toks+2}):
  wpAny (model prog w) A (setAttr (.ref x) name v) Q E s:=by
 obtain⟨od,J,hl⟩:=I.look
 refine PySem.W.set_plain X J hs (PySem.W.osa_open (s:={s with toks:=s.toks+1}) (r:=none) X J hp ht fun b=>?_)
 obtain⟨cd,hc,hd'⟩:=PySem.W.any_some hh
 have hx:s.heap.get? x=some ⟨.ref C,some dx,.plain,#[]⟩:=I.obj
 refine aa (ae (aa (aa (wpAny_loadPart hx (aa (PySem.W.Looks.here (s:={s with toks:=s.toks+1}) (PySem.W.looks_clsIn X hc) ?_))))))
 rw[hd']
 refine ae (a:=some dx) (aa (ae (aa ?_)))
 refine wpAny_nsSet1 (s:={s with toks:=s.toks+1}) I.ns fun h' hn2 hs2=>?_
 obtain⟨oD,esD,epD,hoD,hdD,hcD⟩:=hn2.count (PySem.Within.cons name v hw)
 refine aa (wpAny_lookBehind hoD (by rw[hdD];exact pastItsLine_dict (aP hcD (by rw[List.length_cons];omega))) ?_)
 exact ae (h _ ⟨(hs2.2 _ (Ne.symm I.ne)).trans I.obj,hn2,I.ne⟩ hs2)
theorem tD{R:Result→Shared→Prop}{vs:List Value}(X:K.In s.heap)(hm:PySem.W.makesIn K C=true)
  (hi:PySem.W.findIn K (.ref C) "__init__"=some (some (.ref f))) (hf:PySem.W.typeIn K (.ref f)=some (.type "function"))
  (h:codeAny (model prog w) (A.under (.builtin "type.__call__" ⟨.ref C::vs,kw⟩)) (.call (.ref f) ⟨.ref (s.heap.objs.size+1)::vs,kw⟩) (PySem.W.InitBack (s.heap.objs.size+1) R)
   {s with heap:=(s.heap.push PySem.W.emptyDict).push (PySem.W.instObj C s.heap.objs.size)}):
  codeAny (model prog w) A (.call (.ref C) ⟨vs,kw⟩) R s:=by
 obtain⟨hh,g,d,t,os⟩:=s
 exact PySem.W.make_core (PySem.W.makes_of X hm) (PySem.W.looks_findIn X hi) (fun self=>PySem.W.bind_fn X self hf) (.inl rfl) h
end
noncomputable def cJ(f:Str)(v:V):List (Str×V)→List (Str×V)
 |[]=>[(f,v)]
 |(g,x)::r=>if g=f then(g,v)::r else(g,x)::cJ f v r
theorem fW(f g:Str)(v:V):∀fs:List (Str×V),(cJ f v fs).lookup g=if g=f then some v else fs.lookup g
 |[]=>by
  show List.lookup g [(f,v)]=_
  by_cases h:g=f
  ·have hb:(g==f)=true:=beq_iff_eq.mpr h
   simp only[List.lookup,hb,if_pos h]
  ·have hb:(g==f)=false:=beq_eq_false_iff_ne.mpr h
   simp only[List.lookup,hb,if_neg h]
 |(k,x)::r=>by
  have ih:=fW f g v r
  rw[show cJ f v ((k,x)::r)=(if k=f then(k,v)::r else(k,x)::cJ f v r) from rfl]
  by_cases hk:k=f
  ·rw[if_pos hk]
   by_cases h:g=k
   ·have hb:(g==k)=true:=beq_iff_eq.mpr h
    simp only[List.lookup,hb,if_pos (h.trans hk)]
   ·have hb:(g==k)=false:=beq_eq_false_iff_ne.mpr h
    simp only[List.lookup,hb,if_neg (fun e:g=f=>h (e.trans hk.symm))]
  ·rw[if_neg hk]
   by_cases h:g=k
   ·have hb:(g==k)=true:=beq_iff_eq.mpr h
    simp only[List.lookup,hb,if_neg (fun e:g=f=>hk (h.symm.trans e))]
   ·have hb:(g==k)=false:=beq_eq_false_iff_ne.mpr h
    simp only[List.lookup,hb]
    exact ih
theorem eU(f:Str)(v:V):∀fs:List (Str×V),f∈(cJ f v fs).map (·.1)∧∀g,g∈fs.map (·.1)→g∈(cJ f v fs).map (·.1)
 |[]=>⟨by simp[cJ],fun g h=>by simp at h⟩
 |(k,x)::r=>by
  obtain⟨i1,i2⟩:=eU f v r
  rw[show cJ f v ((k,x)::r)=(if k=f then(k,v)::r else(k,x)::cJ f v r) from rfl]
  by_cases hk:k=f
  ·rw[if_pos hk]
   subst hk
   exact⟨by simp,fun g h=>by simpa using h⟩
  ·rw[if_neg hk]
   refine⟨?_,fun g h=>?_⟩
   ·rw[List.map_cons]
    exact List.mem_cons_of_mem _ i1
   ·rw[List.map_cons] at h ⊢
    rcases List.mem_cons.mp h with e|e
    ·exact List.mem_cons.mpr (.inl e)
    ·exact List.mem_cons_of_mem _ (i2 g e)
theorem d9(f:Str)(v:V):∀fs:List (Str×V),(cJ f v fs).length≤fs.length+1
 |[]=>by simp[cJ]
 |(k,x)::r=>by
  have ih:=d9 f v r
  rw[show cJ f v ((k,x)::r)=(if k=f then(k,v)::r else(k,x)::cJ f v r) from rfl]
  by_cases hk:k=f
  ·rw[if_pos hk,List.length_cons,List.length_cons];omega
  ·rw[if_neg hk,List.length_cons,List.length_cons];omega
theorem eO.some_of{v:V}{o:Option Value}(r:eO (some v) o):∃u,o=some u∧RelV v u:=by
 cases o with
 |none=>exact(show False from r).elim
 |some u=>exact⟨u,rfl,r⟩
theorem eO.none_of{o:Option Value}(r:eO none o):o=none:=by
 cases o with
 |none=>rfl
 |some u=>exact(show False from r).elim
theorem kx{v:V}(r:RelV v u):PySem.W.handedIn u=true:=by
 cases v with
 |non=>cases(show u=Value.none from r);rfl
 |bl b=>cases(show u=Value.bool b from r);rfl
 |int i=>obtain⟨t,e⟩:=(show ∃t,u=Value.int i t from r);cases e;rfl
 |str x=>obtain⟨t,e⟩:=(show ∃t,u=Value.str x t from r);cases e;rfl
 |byt b=>obtain⟨t,e⟩:=(show ∃t,u=Value.bytes b t from r);cases e;rfl
 |flt b=>obtain⟨t,e⟩:=(show ∃t,u=Value.float b t from r);cases e;rfl
 |ref a=>cases(show u=Value.ref a from r);rfl
 |ty n=>cases(show u=Value.type n from r);rfl
section
variable{P:Program}{w:World}{H:Hp}{h:Heap}{a C dx:Addr}{fs:List (Str×V)}
theorem jd(hok:ge P w H h)(e:H a=some (.ins C dx fs)):∃mA,ObjM h a dx C mA∧(∀f,eO (fs.lookup f) (mA f))∧PySem.Within mA (fs.map (·.1))∧fs.length≤1000∧H dx=some (.own a):=by
 obtain⟨d,z,ne,ob,mA,n,r,q⟩:=(show bx P w H h a (.ins C dx fs) from hok a _ e)
 exact⟨mA,⟨ob,n,ne⟩,r,q,z,d⟩
end
structure Cls(K:ao)(C:Addr):Prop where
 pg:PySem.W.plainGet K C Str.empty=true
 hd:PySem.W.hasDictIn K C=true
 po:PySem.W.plainOver K C=true
 sa:PySem.W.findIn K (.ref C) "__setattr__"=some (some (.builtin "object.__setattr__"))
theorem Cls.get{K:ao}(c:Cls K C)(f:Str):PySem.W.plainGet K C f=true:=c.pg
noncomputable def eP(K:ao)(C:Addr)(f:Str):Prop:=PySem.W.findIn K (.ref C) f=some none
theorem eP.taker{K:ao}{f:Str}(n:eP K C f):PySem.W.takerIn K C f=some none:=by
 unfold PySem.W.takerIn
 rw[show PySem.W.findIn K (.ref C) f=some none from n]
 rfl
structure Meth(K:ao)(C:Addr)(m:Str)(f:Addr):Prop where
 at_:PySem.W.findIn K (.ref C) m=some (some (.ref f))
 fn:PySem.W.isFn K (.ref f)=true
 kp:PySem.W.keepIn K (.ref f)=true
section
variable{X:Cx}{pins:List (Addr×Obj)}{σ:St}{H:Hp}{s:Shared}{a C dx:Addr}{fs:List (Str×V)}{f:Str}{v:V}{A:Around}{E:Value→Shared→Prop}
theorem jL{b:Bool}(I:Inv X pins σ H s)(e:H a=some (.ins C dx fs))(c:Cls X.K C)(n:eP X.K C f)(l:fs.lookup f=some v)
  (h:∀u s',Inv X pins σ H s'→RelV v u→Q u s'):wpAny (model X.prog X.w) A (getAttr (.ref a) f b) Q E s:=by
 obtain⟨mA,O,r,_,_,_⟩:=jd I.hok e
 obtain⟨u,hu,ru⟩:=eO.some_of (v:=v) (o:=mA f) (by rw[←l];exact r f)
 exact wq I.kIn O (c.get f) c.hd n hu (kx ru) (h u _ (I.tok _) ru)
theorem jK{m:Str}{g:Addr}{pl:Sem Bool}{Q:Value×List Value→Shared→Prop}(I:Inv X pins σ H s)(e:H a=some (.ins C dx fs))(c:Cls X.K C)(k:Meth X.K C m g)(l:fs.lookup m=none)
  (h:Q (.ref g,[.ref a]) s):wpAny (model X.prog X.w) A (getMethod (.ref a) m pl) Q E s:=by
 obtain⟨mA,O,r,_,_,_⟩:=jd I.hok e
 have hn:mA m=none:=eO.none_of (by rw[←l];exact r m)
 exact tU I.kIn O (c.get m) k.at_ k.fn hn h
theorem ju{y:V}{Q:Unit→Shared→Prop}(I:Inv X pins σ H s)(e:H a=some (.ins C dx fs))(c:Cls X.K C)(n:eP X.K C f)(hl:fs.length<1000)(ry:RelV y u)
  (h:∀s',Inv X pins σ (bm H a (.ins C dx (cJ f y fs))) s'→Q () s'):wpAny (model X.prog X.w) A (setAttr (.ref a) f u) Q E s:=by
 obtain⟨mA,O,r,wi,_,ho⟩:=jd I.hok e
 have hz:(fs.map (·.1)).length≤sizeLine:=by rw[List.length_map,sizeLine_eq];omega
 refine vg I.kIn O c.sa c.po n.taker c.hd wi hz fun h' O' sb=>h _ ?_
 have hd:∃o,h'.get? dx=some o:=let⟨o,_,_,e',_⟩:=O'.ns;⟨o,e'⟩
 refine I.write (x:=a) (e:=dx) (by rw[e];exact True.intro) (.inr ho) (fun b q hb z=>(sb.2 b hb).trans z) hd ?_
 refine⟨by rw[az O.ne];exact ho,?_,O.ne,O'.obj,_,O'.ns,fun g=>?_,fun g hg=>?_⟩
 ·have:=d9 f y fs;omega
 ·show eO ((cJ f y fs).lookup g) (if g=f then some u else mA g)
  rw[fW]
  by_cases q:g=f
  ·rw[if_pos q,if_pos q];exact ry
  ·rw[if_neg q,if_neg q];exact r g
 ·by_cases q:g=f
  ·rw[q];exact(eU f y fs).1
  ·refine(eU f y fs).2 g (wi g fun z=>hg ?_)
   show(if g=f then some u else mA g)=none
   rw[if_neg q];exact z
theorem Inv.made(I:Inv X pins σ H s):Inv X pins σ (bm (bm H s.heap.objs.size (.own (s.heap.objs.size+1))) (s.heap.objs.size+1) (.ins C s.heap.objs.size []))
  {s with heap:=(s.heap.push PySem.W.emptyDict).push (PySem.W.instObj C s.heap.objs.size)}:=by
 have e1:(s.heap.push PySem.W.emptyDict).get? s.heap.objs.size=some PySem.W.emptyDict:=aq s.heap rfl
 have e2:((s.heap.push PySem.W.emptyDict).push (PySem.W.instObj C s.heap.objs.size)).get? (s.heap.objs.size+1)=some (PySem.W.instObj C s.heap.objs.size):=by
  have:=aq (s.heap.push PySem.W.emptyDict) (o:=PySem.W.instObj C s.heap.objs.size) rfl
  rwa [Heap.size_push] at this
 have e3:(s.heap.push PySem.W.emptyDict).Ns s.heap.objs.size (fun _=>none):=⟨PySem.W.emptyDict,#[],_,e1,rfl,(fun e he=>absurd he (by simp)),fun _=>rfl⟩
 have I1:=I.laid (a:=s.heap.objs.size) (o:= .own (s.heap.objs.size+1)) (h':=s.heap.push PySem.W.emptyDict) (t':=s.toks) (fun b u q=>ac _ q) (af _) ⟨_,e1⟩
 refine I1.laid (a:=s.heap.objs.size+1) (o:= .ins C s.heap.objs.size []) (t':=s.toks) (fun b u q=>ac _ q) (Nat.le_of_eq (Heap.size_push _ _)) ?_
 have ne:s.heap.objs.size≠s.heap.objs.size+1:=ak (aG _)
 refine⟨by rw[az ne,bd],Nat.zero_le _,ne,e2,fun _=>none,(Heap.Ns1.of_empty e3).at fun o q=>ac _ q,fun _=>True.intro,fun y hy=>absurd rfl hy⟩
theorem qg{prog:Program}{env:Env}{f:Str}{s:Shared}(hb:attributeBase e f env (eval e env)=eval e env)
  (h:wpAny (model prog w) A (eval e env) (fun o s₁=>wpAny (model prog w) A (getAttr o f true) Q E s₁) E s):wpAny (model prog w) A (eval (.Attribute e f pos) env) Q E s:=
 Attribute_any_ h (by rw[arm_eval_Attribute,hb])
end
noncomputable def BI(K:ao)(ta:TE)(f:Str):TE:=fun σ H Q=>ta σ H fun x H1=>∃a C dx fs v,x=.ref a∧H1 a=some (.ins C dx fs)∧Cls K C∧eP K C f∧fs.lookup f=some v∧Q v H1
noncomputable def BQ(K:ao)(ta tv:TE)(f:Str):TS:=fun D σ H=>tv σ H fun y H1=>ta σ H1 fun x H2=>∃a C dx fs,x=.ref a∧H2 a=some (.ins C dx fs)∧Cls K C∧eP K C f∧fs.length<1000∧
 D.nx σ (bm H2 a (.ins C dx (cJ f y fs)))
noncomputable def Bj(X:Cx)(op:Operator)(rd:V→V→Hp→VK→Prop):Prop:=
 ∀(pins:List (Addr×Obj))(s:Shared)(σ:St)(H:Hp)(x y:V)(u v:Value)(Q:VK),Inv X pins σ H s→RelV x u→RelV y v→rd x y H Q→wpAny (model X.prog X.w) X.A (inplaceOp op u v) (EP X pins σ Q) X.xe s
noncomputable def vN(K:ao)(ta tv:TE)(rd:V→V→Hp→VK→Prop)(f:Str):TS:=fun D σ H=>ta σ H fun x H1=>∃a C dx fs v,x=.ref a∧H1 a=some (.ins C dx fs)∧Cls K C∧eP K C f∧fs.lookup f=some v∧
 tv σ H1 fun y H2=>rd v y H2 fun z H3=>∃dx' fs',H3 a=some (.ins C dx' fs')∧fs'.length<1000∧D.nx σ (bm H3 a (.ins C dx' (cJ f z fs')))
section
variable{X:Cx}{o e value:Expr}{f:Str}{pos pos' tpos:Pos}{ta tv:TE}
theorem yn(he:PE X e ta)(hb:attributeBase e f X.env (eval e X.env)=eval e X.env):PE X (.Attribute e f pos) (BI X.K ta f):=by
 intro pins s σ H Q I h
 refine qg hb (bC (he pins s σ H _ I h) fun u s1 hp=>?_)
 obtain⟨x,H1,I1,rx,a,C,dx,fs,v,ex,ea,c,n,l,q⟩:=hp
 subst ex
 obtain rfl:u=Value.ref a:=rx
 exact jL I1 ea c n l fun u' s2 I2 ru=>⟨v,H1,I2,ru,q⟩
theorem ya(ha:PE X o ta)(hv:PE X value tv)(hs:swapsWith value (some (.Attribute o f pos')) pos.line X.env=pure false):PS X (.Assign [.Attribute o f pos'] value pos) (BQ X.K ta tv f):=by
 intro pins s σ H D I h
 refine plainObj_wpAny_Assign_Attribute (bC (hv pins s σ H _ I h) fun u s1 ⟨y,H1,I1,ry,q⟩=>bC (ha pins s1 σ H1 _ I1 q) fun ov s2 ⟨x,H2,I2,rx,a,C,dx,fs,ex,ea,c,n,l,q2⟩=>?_) hs
 subst ex
 obtain rfl:ov=Value.ref a:=rx
 exact ju I2 ea c n l ry fun s3 I3=>⟨σ,_,I3,q2⟩
theorem qz{op:Operator}{rd:V→V→Hp→VK→Prop}(ha:PE X o ta)(hv:PE X value tv)(hop:Bj X op rd):PS X (.AugAssign (.Attribute o f tpos) op value pos) (vN X.K ta tv rd f):=by
 intro pins s σ H D I h
 refine wpAny_AugAssign_AttributeAny (bC (ha pins s σ H _ I h) fun ov s1 hp=>?_)
 obtain⟨x,H1,I1,rx,a,C,dx,fs,v,ex,ea,c,n,l,q⟩:=hp
 subst ex
 obtain rfl:ov=Value.ref a:=rx
 refine jL I1 ea c n l fun u s2 I2 ru=>bC (hv pins s2 σ H1 _ I2 q) fun w3 s3 ⟨y,H2,I3,ry,q3⟩=>bC (hop pins s3 σ H2 v y u w3 _ I3 ru ry q3) fun w4 s4 hp=>?_
 obtain⟨z,H3,I4,rz,dx',fs',ea',l',q4⟩:=hp
 exact ju I4 ea' c n l' rz fun s5 I5=>⟨σ,_,I5,q4⟩
noncomputable def B0:V→V→Hp→VK→Prop:=fun x y H Q=>∃i j,x=.int i∧y=.int j∧Q (.int (i+j)) H
theorem yR:Bj X .Add B0:=by
 rintro pins s σ H x y u v Q I rx ry ⟨i,j,rfl,rfl,q⟩
 obtain⟨t,rfl⟩:=(show ∃t,u=Value.int i t from rx)
 obtain⟨t',rfl⟩:=(show ∃t',v=Value.int j t' from ry)
 exact PyProof.Rows.iadd_int ⟨.int (i+j),H,I.tok _,⟨_,rfl⟩,q⟩
end
section
variable{X:Cx}{pins:List (Addr×Obj)}{σ:St}{H:Hp}{s:Shared}{A:Around}{E:Value→Shared→Prop}{Q:Value→Shared→Prop}{c:Value}{b:Bool}
inductive TyOf(K:ao)(H:Hp):V→Value→Prop where
 |non:TyOf K H .non (.type "NoneType")
 |bl (x:Bool):TyOf K H (.bl x) (.type "bool")
 |int (i:Int):TyOf K H (.int i) (.type "int")
 |str (x:Str):TyOf K H (.str x) (.type "str")
 |flt (x:UInt64):TyOf K H (.flt x) (.type "float")
 |lst {a:Addr}{xs:List V}(e:H a=some (.lst xs)):TyOf K H (.ref a) (.type "list")
 |frz {a:Addr}{o:Obj}{xs:List V}(e:H a=some (.frz o (.lst xs))):TyOf K H (.ref a) (.type "list")
 |tup {a:Addr}{xs:List V}(e:H a=some (.tup xs)):TyOf K H (.ref a) (.type "tuple")
 |dK {a:Addr}{kvs:List (Key×V)}(e:H a=some (.dK kvs)):TyOf K H (.ref a) (.type "dict")
 |dT {a:Addr}{kvs:List (List Key×V)}(e:H a=some (.dT kvs)):TyOf K H (.ref a) (.type "dict")
 |ins {a C dx:Addr}{fs:List (Str×V)}(e:H a=some (.ins C dx fs))(cl:Cls K C)(ha:PySem.W.findIn K (.ref C) "__class__"=some (some (.builtin "object.__class__")))
   (hn:PySem.W.specialIn K (.builtin "object.__class__") "__get__"=some (some (.builtin "getset_descriptor.__get__"))) (htk:PySem.W.takesIn K (.builtin "object.__class__")=some true)
   (hm:PySem.W.mroIn K C (.type "object")=some true):TyOf K H (.ref a) (.ref C)
theorem qJ{x:V}{t:Value}(I:Inv X pins σ H s)(rx:RelV x u)(ty:TyOf X.K H x t)(e:PySem.W.kitOne X.K t c=some b)(h:∀tk,Q (.bool b) {s with toks:=tk}):
  wpAny (model X.prog X.w) A (call (.builtin "isinstance") [u,c]) Q E s:=by
 cases ty with
 |non=>cases(show u=Value.none from rx);exact PySem.W.kia_one PySem.W.kitx_none I.kIn True.intro e (fun z=>nomatch z) h
 |bl y=>cases(show u=Value.bool y from rx);exact PySem.W.kia_one PySem.W.kitx_bool I.kIn True.intro e (fun z=>nomatch z) h
 |int i=>obtain⟨t,q⟩:=(show ∃t,u=Value.int i t from rx);cases q;exact PySem.W.kia_one PySem.W.kitx_int I.kIn True.intro e (fun z=>nomatch z) h
 |str y=>obtain⟨t,q⟩:=(show ∃t,u=Value.str y t from rx);cases q;exact PySem.W.kia_one PySem.W.kitx_str I.kIn True.intro e (fun z=>nomatch z) h
 |flt y=>obtain⟨t,q⟩:=(show ∃t,u=Value.float y t from rx);cases q;exact PySem.W.kia_one PySem.W.kitx_float I.kIn True.intro e (fun z=>nomatch z) h
 | @lst a xs ea=>
  cases(show u=Value.ref a from rx)
  obtain⟨_,_,n,_,h1⟩:=(show bx X.prog X.w H s.heap a (.lst xs) from I.hok a _ ea)
  exact PySem.W.kia_one PySem.W.kitx_list I.kIn ⟨_,h1,rfl⟩ e (fun z=>nomatch z) h
 | @frz a ob xs ea=>
  cases(show u=Value.ref a from rx)
  obtain⟨_,_,_,n,_,h1⟩:=(show bx X.prog X.w H s.heap a (.frz ob (.lst xs)) from I.hok a _ ea)
  exact PySem.W.kia_one PySem.W.kitx_list I.kIn ⟨_,h1,rfl⟩ e (fun z=>nomatch z) h
 | @tup a xs ea=>
  cases(show u=Value.ref a from rx)
  obtain⟨_,_,_,p⟩:=(show bx X.prog X.w H s.heap a (.tup xs) from I.hok a _ ea)
  obtain⟨o,h1,h2,_⟩:=p
  exact PySem.W.kia_one PySem.W.kitx_tuple I.kIn ⟨o,h1,h2⟩ e (fun z=>nomatch z) h
 | @dK a kvs ea=>
  cases(show u=Value.ref a from rx)
  obtain⟨_,_,vs,_,p⟩:=(show bx X.prog X.w H s.heap a (.dK kvs) from I.hok a _ ea)
  obtain⟨o,es,ep,h1,h2,_⟩:=p
  exact PySem.W.kia_one PySem.W.kitx_dict I.kIn ⟨o,h1,h2.1⟩ e (fun z=>nomatch z) h
 | @dT a kvs ea=>
  cases(show u=Value.ref a from rx)
  obtain⟨_,_,xs,_,o,es,ep,h1,h2,_⟩:=(show bx X.prog X.w H s.heap a (.dT kvs) from I.hok a _ ea)
  exact PySem.W.kia_one PySem.W.kitx_dict I.kIn ⟨o,h1,h2.1⟩ e (fun z=>nomatch z) h
 | @ins a C dx fs ea cl ha hn htk hm=>
  cases(show u=Value.ref a from rx)
  obtain⟨mA,O,_⟩:=jd I.hok ea
  obtain⟨od,J,_⟩:=O.look
  exact PySem.W.kia_one (PySem.W.kitx_own (cl.get _) cl.hd ha hn htk hm) I.kIn J e (fun z=>nomatch z) h
end
structure Room(k:Nat)(A:Around):Prop where
 hd:A.handled=none
 dp:A.depth+3*k+5<recursionLimit
 un:A.units+16*k+200<cLine
theorem Room.mono{k:Nat}(r:Room k A)(h:j≤k):Room j A:=⟨r.hd,by have:=r.dp;omega,by have:=r.un;omega⟩
theorem Room.deeper{k:Nat}(r:Room (k+1) A)(env:Env):Room k (A.deeper env):=
 ⟨r.hd,by have:=r.dp;show A.depth+1+3*k+5<_;omega,by have:=r.un;show A.units+3+16*k+200<_;omega⟩
theorem ou:(A.under (.builtin "type.__call__" ⟨.ref C::us,kw⟩)).depth=A.depth+1:=by
 first|rfl|simp[Around.under,Code.weight,Code.isCreation,Code.isGuard,Code.isCaller,Code.frames,Code.isFrame,guardIds]
theorem ot:(A.under (.builtin "type.__call__" ⟨.ref C::us,kw⟩)).units=A.units+1:=by
 first|rfl|simp[Around.under,Code.cUnits,Code.frames,Code.isFrame]
theorem Room.make{k:Nat}(r:Room (k+1) A)(C:Addr)(us:List Value)(kw:List (Str×Value)):Room k (A.under (.builtin "type.__call__" ⟨.ref C::us,kw⟩)):=
 ⟨r.hd,by have:=r.dp;rw[ou];omega,by have:=r.un;rw[ot];omega⟩
theorem Room.depth{k:Nat}(r:Room k A):A.depth<recursionLimit:=by have:=r.dp;omega
noncomputable def nM:TA:=fun _ H Q=>Q [] H
noncomputable def mj(ta:TE)(tr:TA):TA:=fun σ H Q=>ta σ H fun x H1=>tr σ H1 fun xs H2=>Q (x::xs) H2
section
variable{X:Cx}{e:Expr}{es:List Expr}{te:TE}{t:TA}{pos:Pos}
theorem dA:PA X [] nM:=fun _ _ _ _ H Q I h=>Calls.spliced_nil ⟨[],H,I,.nil,h⟩
theorem bG(ha:PE X e te)(hr:PA X es t)(hs:starEach (e::es) X.env=(false,eval e X.env)::starEach es X.env:=by rfl):PA X (e::es) (mj te t):=by
 intro pos pins s σ H Q I h
 rw[hs]
 show wpAny _ _ (spliced ((false,eval e X.env)::backTo pos (starEach es X.env))) _ _ s
 refine Calls.spliced_cons (bC (ha pins s σ H _ I h) fun u s1 hp=>?_)
 obtain⟨x,H1,I1,r1,q1⟩:=hp
 exact bC (hr pos pins s1 σ H1 _ I1 q1) fun us s2 ⟨xs,H2,I2,r2,q2⟩=>⟨x::xs,H2,I2,.cons r1 r2,q2⟩
noncomputable def BA(t:TA):TE:=fun σ H Q=>t σ H fun xs H1=>xs.length≤sizeLine∧∀p,H1 p=none→Q (.ref p) (bm H1 p (.tup xs))
noncomputable def BF(t:TA):TE:=fun σ H Q=>t σ H fun xs H1=>xs.length≤sizeLine∧∀p,H1 p=none→Q (.ref p) (bm H1 p (.lst xs))
theorem yh{x1}(h:PA X es t):PE X (.Tuple es x1 pos) (BA t):=by
 intro pins s σ H Q I hq
 refine wpAny_Tuple_spliced (bC (h pos pins s σ H _ I hq) fun us s1 ⟨xs,H1,I1,r,z,q⟩=>⟨by rw[←r.length];exact z,?_⟩)
 have hf:H1 s1.heap.objs.size=none:=I1.hok.fresh (af _)
 refine⟨.ref s1.heap.objs.size,bm H1 s1.heap.objs.size (.tup xs),I1.laid (t':=s1.toks) (fun b u e=>ac _ e) (af _) ?_,rfl,q _ hf⟩
 exact⟨z,us,r,⟨_,aq _ rfl,rfl,_,rfl⟩⟩
theorem yl(h:PA X es t):PE X (.List es pos) (BF t):=by
 intro pins s σ H Q I hq
 refine wpAny_List_spliced (bC (h pos pins s σ H _ I hq) fun us s1 ⟨xs,H1,I1,r,z,q⟩=>⟨by rw[←r.length];exact z,?_⟩)
 have hf:H1 s1.heap.objs.size=none:=I1.hok.fresh (af _)
 refine⟨.ref s1.heap.objs.size,bm H1 s1.heap.objs.size (.lst xs),I1.laid (t':=s1.toks) (fun b u e=>ac _ e) (af _) ?_,rfl,q _ hf⟩
 exact⟨z,us,0,r,aq _ rfl⟩
end
noncomputable abbrev Sp:=List V→Hp→VK→XK→Prop
noncomputable abbrev uK:=List Env→Hp→Shared→XK→Value→Shared→Prop
structure Env0(P:Program)(w:World)(K:ao)(mg:Str→Option Value)(base:Heap)(A:Around)(outer:List Env)(s:Shared)(H:Hp):Prop where
 frames:A.frames=some outer
 mod:Mod K mg base
 bs:∀b o,base.get? b=some o→s.heap.get? b=some o∧H b=none
 bsz:base.objs.size≤s.heap.objs.size
 funs:s.heap.FunFrames base outer
 frf:∀b∈eX outer,H b=none
 hok:ge P w H s.heap
 bare:AllBare s.gens
noncomputable def CE(outer:List Env)(P:Program)(w:World)(H:Hp)(s:Shared)(Q:VK)(u:Value)(s':Shared):Prop:=
 ∃v H',s'.os=s.os∧AllBare s'.gens∧Un (eX outer) [] H H' s.heap s'.heap∧ge P w H' s'.heap∧RelV v u∧Q v H'
noncomputable def CR(CX:uK)(outer:List Env)(P:Program)(w:World)(H:Hp)(s:Shared)(Q:VK)(E:XK)(r:Result)(s':Shared):Prop:=
 match r with
 | .ok (.ret u)=>CE outer P w H s Q u s'
 | .ok _=>False
 | .error e=>CX outer H s E e s'
structure FnOk(P:Program)(w:World)(K:ao)(mg:Str→Option Value)(base:Heap)(CX:uK)(k:Nat)(f:Addr)(fd:FuncData)(ps:List Str)(sp:Sp):Prop where
 len:∀vs H Q E,sp vs H Q E→vs.length=ps.length
 run:∀(A:Around)(outer:List Env)(s:Shared)(H:Hp)(args:Args)(us:List Value) (vs:List V)(Q:VK)(E:XK),Room k A→Env0 P w K mg base A outer s H→BindsTo s fd args (ps.zip us)→bj vs us→sp vs H Q E→
  codeAny (model P w) A (.call (.ref f) args) (CR CX outer P w H s Q E) s
theorem FnOk.imp{K:ao}{CX:uK}{k:Nat}{f:Addr}{fd:FuncData}{ps:List Str}{sp sp':Sp}(F:FnOk P w K mg base CX k f fd ps sp)
  (h:∀vs H Q E,sp' vs H Q E→sp vs H Q E):FnOk P w K mg base CX k f fd ps sp':=
 ⟨fun vs H Q E q=>F.len vs H Q E (h _ _ _ _ q),fun A outer s H args us vs Q E hr he hb hv hs=>F.run A outer s H args us vs Q E hr he hb hv (h _ _ _ _ hs)⟩
theorem Env0.make{K:ao}{outer:List Env}{H:Hp}(e:Env0 P w K mg base A outer s H)(C:Addr)(us:List Value)(kw:List (Str×Value)):
  Env0 P w K mg base (A.under (.builtin "type.__call__" ⟨.ref C::us,kw⟩)) outer s H:=⟨by first|exact e.frames|(simpa[Around.under,Code.envs,Code.isFrame,pushEnvs] using e.frames),e.mod,e.bs,e.bsz,e.funs,e.frf,e.hok,e.bare⟩
section
variable{X:Cx}{pins:List (Addr×Obj)}{σ:St}{H:Hp}{s s':Shared}
theorem Inv.env0(I:Inv X pins σ H s):Env0 X.prog X.w X.K X.mg X.base X.A X.stack s H:=
 ⟨I.ok.frames,I.ok.mod,I.bs,aP I.ok.bsz I.sz,I.stack,I.stkFree,I.hok,I.bare⟩
theorem Inv.after{Q:VK}(I:Inv X pins σ H s)(h:CE X.stack X.prog X.w H s Q u s'):EP X pins σ Q u s':=by
 obtain⟨v,H',os,bare,un,hok,r,q⟩:=h
 obtain⟨hh,g,d,t,os'⟩:=s'
 obtain rfl:os'=s.os:=os
 exact⟨v,H',I.call (h':=hh) (g':=g) (d':=d) (t':=t) (ch:=[]) un hok bare (fun b z=>absurd z (by simp)),r,q⟩
end
noncomputable def z_(sp:Sp)(dvs:List V)(E:XK)(t:TA):TE:=fun σ H Q=>t σ H fun vs H1=>sp (vs++dvs) H1 Q E
noncomputable def zW(C:Addr)(sp:Sp)(dvs:List V)(E:XK)(t:TA):TE:=fun σ H Q=>t σ H fun vs H1=>∀x dx,H1 x=none→H1 dx=none→dx≠x→
 sp (.ref x::(vs++dvs)) (bm (bm H1 dx (.own x)) x (.ins C dx [])) (fun v H2=>v=.non∧Q (.ref x) H2) E
noncomputable def Binds(K:ao)(fd:FuncData)(ps:List Str)(ds:List Value):Prop:=
 ∀(s:Shared)(us:List Value),K.In s.heap→(us++ds).length=ps.length→BindsTo s fd ⟨us,[]⟩ (ps.zip (us++ds))
theorem Binds.all{K:ao}{fd:FuncData}{ps:List Str}(h:∀us:List Value,us.length=ps.length→bindArgs fd ⟨us,[]⟩=pure (ps.zip us)):Binds K fd ps []:=fun s us _ hl=>by
 rw[List.append_nil] at hl ⊢
 exact .of_eq (h us hl)
noncomputable def jZ(CX:uK)(X:Cx)(E:XK):Prop:=∀(pins:List (Addr×Obj))(σ:St)(H:Hp)(s:Shared)(e:Value)(s':Shared),Inv X pins σ H s→CX X.stack H s E e s'→X.xe e s'
section
variable{X:Cx}{CX:uK}{k:Nat}{f C:Addr}{fd:FuncData}{ps:List Str}{sp:Sp}{dvs:List V}{ds:List Value}{E:XK}{x:Str}{p pos:Pos}{e:Expr}{es:List Expr}{t:TA}
theorem x0{σ:St}{H:Hp}{Q:VK}{vs:List V}(F:FnOk X.prog X.w X.K X.mg X.base CX k f fd ps sp)(hr:Room k X.A)(hb:Binds X.K fd ps ds)(hd:bj dvs ds)(hx:jZ CX X E)
  (I:Inv X pins σ H s)(r:bj vs us)(h:sp (vs++dvs) H Q E):wpAny (model X.prog X.w) X.A (call (.ref f) us) (EP X pins σ Q) X.xe s:=by
 have r2:bj (vs++dvs) (us++ds):=r.append hd
 have hl:(us++ds).length=ps.length:=by rw[←r2.length];exact F.len _ _ _ _ h
 refine wpAny_call (codeAny_mono (F.run X.A X.stack s H ⟨us,[]⟩ (us++ds) (vs++dvs) Q E hr I.env0 (hb s us I.kIn hl) r2 h) fun r s' hq=>?_)
 cases r with
 |error e=>exact hx pins σ H s e s' I hq
 |ok fl=>
  cases fl with
  |ret u=>exact I.after hq
  |next=>exact False.elim hq
  |brk=>exact False.elim hq
  |cont=>exact False.elim hq
theorem v7(F:FnOk X.prog X.w X.K X.mg X.base CX k f fd ps sp)(hr:Room k X.A)(hg:Gl X x)(hm:X.mg x=some (.ref f))(hk:PySem.W.keepIn X.K (.ref f)=true)(hb:Binds X.K fd ps ds)(hd:bj dvs ds)(hx:jZ CX X E)
  (ha:PA X (e::es) t)(hdb:(x==("__debug__":Str))=false:=by decide) (he:starEach (e::es) X.env=(false,eval e X.env)::starEach es X.env:=by rfl)(hpl:(backTo pos (starEach es X.env)).any (·.1)=false:=by rfl):
  PE X (.Call (.Name x p) (e::es) [] pos) (z_ sp dvs E t):=by
 intro pins s σ H Q I h
 refine wpAny_Call_Name_kw (dG I hg hm ?_ hdb)
 refine PySem.W.callWith_K (h₀:=X.base) I.ok.mod.kin hk (bC (ha pos pins s σ H _ I h) fun us s1 ⟨vs,H1,I1,r,q⟩=>⟨I1.kIn,?_⟩) he hpl
 exact x0 F hr hb hd hx I1 r q
structure Mk(K:ao)(C f:Addr):Prop where
 makes:PySem.W.makesIn K C=true
 init:PySem.W.findIn K (.ref C) "__init__"=some (some (.ref f))
 fn:PySem.W.isFn K (.ref f)=true
 kp:PySem.W.keepIn K (.ref C)=true
theorem sD{σ:St}{H:Hp}{Q:VK}{vs:List V}(M:Mk X.K C f)(F:FnOk X.prog X.w X.K X.mg X.base CX k f fd ps sp)(hr:Room (k+1) X.A)(hb:Binds X.K fd ps ds)(hd:bj dvs ds)
  (hx:jZ CX X E)(I:Inv X pins σ H s)(r:bj vs us)
  (h:∀x dx,H x=none→H dx=none→dx≠x→sp (.ref x::(vs++dvs)) (bm (bm H dx (.own x)) x (.ins C dx [])) (fun v H2=>v=.non∧Q (.ref x) H2) E):
  wpAny (model X.prog X.w) X.A (call (.ref C) us) (EP X pins σ Q) X.xe s:=by
 have hq:=h (s.heap.objs.size+1) s.heap.objs.size (I.hok.fresh (Nat.le_succ _)) (I.hok.fresh (af _)) (ak (aG _))
 have I2:=Inv.made (C:=C) I
 have r2:bj (V.ref (s.heap.objs.size+1)::(vs++dvs)) (Value.ref (s.heap.objs.size+1)::(us++ds)):= .cons rfl (r.append hd)
 have hl:(Value.ref (s.heap.objs.size+1)::us++ds).length=ps.length:=by
  have e:=r2.length
  rw[F.len _ _ _ _ hq] at e
  exact e.symm
 refine wpAny_call (tD (f:=f) I.kIn M.makes M.init (beq_iff_eq.mp M.fn) (codeAny_mono (F.run _ X.stack _ _ ⟨Value.ref (s.heap.objs.size+1)::us,[]⟩ (Value.ref (s.heap.objs.size+1)::(us++ds)) _ _ E (hr.make C us [])
  (I2.env0.make C us []) (hb _ (Value.ref (s.heap.objs.size+1)::us) I2.kIn hl) r2 hq) fun r s' hq'=>?_))
 cases r with
 |error e=>exact hx pins σ _ _ e s' I2 hq'
 |ok fl=>
  cases fl with
  |ret u=>
   obtain⟨v,H',I3,rv,ev,q3⟩:=I2.after hq'
   subst ev
   exact⟨rv,⟨V.ref (s.heap.objs.size+1),H',I3,rfl,q3⟩⟩
  |next=>exact False.elim hq'
  |brk=>exact False.elim hq'
  |cont=>exact False.elim hq'
theorem vZ(M:Mk X.K C f)(F:FnOk X.prog X.w X.K X.mg X.base CX k f fd ps sp)(hr:Room (k+1) X.A)(hg:Gl X x)(hm:X.mg x=some (.ref C))(hb:Binds X.K fd ps ds)(hd:bj dvs ds)(hx:jZ CX X E)
  (ha:PA X (e::es) t)(hdb:(x==("__debug__":Str))=false:=by decide) (he:starEach (e::es) X.env=(false,eval e X.env)::starEach es X.env:=by rfl)(hpl:(backTo pos (starEach es X.env)).any (·.1)=false:=by rfl):
  PE X (.Call (.Name x p) (e::es) [] pos) (zW C sp dvs E t):=by
 intro pins s σ H Q I h
 refine wpAny_Call_Name_kw (dG I hg hm ?_ hdb)
 refine PySem.W.callWith_K (h₀:=X.base) I.ok.mod.kin M.kp (bC (ha pos pins s σ H _ I h) fun us s1 ⟨vs,H1,I1,r,q⟩=>⟨I1.kIn,?_⟩) he hpl
 exact sD M F hr hb hd hx I1 r q
end
section
end
structure FnScope(N P:List Str)(sc:Scope):Prop where
 kind:sc.kind=.function
 co:sc.isCoroutine=false
 gen:sc.isGenerator=false
 nd:N.Nodup
 pre:N.take P.length=P
 par:∀x∈P,sc.names.lookup x=some .local∨sc.names.lookup x=some .cell
 nofree:∀y∈sc.names,y.2≠ .free
theorem kL{kindOf:Str→Option NameKind}{x:Str}:∀{binds:List (Str×Value)}{m:Str→Option Value},(∀v,(x,v)∉binds)→bindL kindOf binds m x=m x
 |[],_,_=>rfl
 |(n,v)::r,m,h=>by
  unfold bindL
  rw[kL fun w hw=>h w (List.mem_cons_of_mem _ hw)]
  split
  ·have:x≠n:=by rintro rfl;exact h v List.mem_cons_self
   simp[this]
  ·rfl
theorem kN{kindOf:Str→Option NameKind}{x:Str}:∀{binds:List (Str×Value)}{m:Str→Option Value},(∀v,(x,v)∉binds)→bindC kindOf binds m x=m x
 |[],_,_=>rfl
 |(n,v)::r,m,h=>by
  unfold bindC
  rw[kN fun w hw=>h w (List.mem_cons_of_mem _ hw)]
  split
  ·rfl
  ·have:x≠n:=by rintro rfl;exact h v List.mem_cons_self
   simp[this]
theorem kM{kindOf:Str→Option NameKind}{x:Str}{v:Value}:∀{P:List Str}{vs:List Value}{i:Nat}{m:Str→Option Value},P.Nodup→P[i]? =some x→vs[i]? =some v→kindOf x=some .local→
  bindL kindOf (P.zip vs) m x=some v
 |[],_,_,_,_,h,_,_=>by simp at h
 |_::_,[],_,_,_,_,h,_=>by simp at h
 |p::P,w::vs,0,m,nd,h1,h2,hk=>by
  simp at h1 h2;subst h1;subst h2
  show bindL kindOf ((p,w)::P.zip vs) m p=_
  unfold bindL
  rw[kL fun v hv=>(List.nodup_cons.mp nd).1 (List.of_mem_zip hv).1,if_pos hk]
  simp
 |p::P,w::vs,i+1,m,nd,h1,h2,hk=>by
  show bindL kindOf ((p,w)::P.zip vs) m x=_
  unfold bindL
  exact kM (i:=i) (List.nodup_cons.mp nd).2 (by simpa using h1) (by simpa using h2) hk
theorem kO{kindOf:Str→Option NameKind}{x:Str}{v:Value}:∀{P:List Str}{vs:List Value}{i:Nat}{m:Str→Option Value},P.Nodup→P[i]? =some x→vs[i]? =some v→kindOf x≠some .local→
  bindC kindOf (P.zip vs) m x=some v
 |[],_,_,_,_,h,_,_=>by simp at h
 |_::_,[],_,_,_,_,h,_=>by simp at h
 |p::P,w::vs,0,m,nd,h1,h2,hk=>by
  simp at h1 h2;subst h1;subst h2
  show bindC kindOf ((p,w)::P.zip vs) m p=_
  unfold bindC
  rw[kN fun v hv=>(List.nodup_cons.mp nd).1 (List.of_mem_zip hv).1,if_neg hk]
  simp
 |p::P,w::vs,i+1,m,nd,h1,h2,hk=>by
  show bindC kindOf ((p,w)::P.zip vs) m x=_
  unfold bindC
  exact kO (i:=i) (List.nodup_cons.mp nd).2 (by simpa using h1) (by simpa using h2) hk
noncomputable def start(N:List Str)(vs:List V):St:=vs.map some++List.replicate (N.length - vs.length) none
noncomputable def m9(CX:uK)(P:Program)(w:World)(K:ao)(mg:Str→Option Value)(base:Heap)(N:List Str)(qual:Str)(scope:Scope)(f:Addr)(cd:Value)(A:Around)(outer:List Env)(s:Shared)(H:Hp)(E:XK):Cx where
 prog:=P
 w:=w
 K:=K
 mg:=mg
 base:=base
 A:=A.deeper (envOfC qual scope s.heap.objs.size f cd)
 N:=N
 s₀:=s
 H₀:=H
 env:=envOfC qual scope s.heap.objs.size f cd
 outer:=outer
 stack:=envOfC qual scope s.heap.objs.size f cd::outer
 ex:=[]
 calm:=true
 fn:=fun _=>true
 pn:=[]
 xe:=fun e s'=>wpAny (model P w) (A.deeper (envOfC qual scope s.heap.objs.size f cd)) (leaving (envOfC qual scope s.heap.objs.size f cd) e) (fun _ s''=>CX outer H s E e s'') (fun e' s''=>CX outer H s E e' s'') s'
theorem nj{sc:Scope}(h:sc.names.lookup x=some .cell):∃c,(cellsFrom n sc.names []).lookup x=some c:=by
 have q:=PySem.W.cellsFrom_some sc.names n [] (.inl h)
 exact Option.isSome_iff_exists.mp q
theorem qM{CX:uK}{K:ao}{N ps:List Str}{scope:Scope}{f:Addr}{cd:Value}{outer:List Env}{s1:Shared}{H:Hp}{E:XK}{vs:List V}
  (S:FnScope N ps scope)(hd:A.handled=none)(e0:Env0 P w K mg base A outer s H)(hl:vs.length=ps.length)(r:bj vs us)
  (x:InCallC s s.heap.objs.size (bindL (envOfC qual scope s.heap.objs.size f cd).kindOf (ps.zip us) fun _=>none) (cellsFrom (s.heap.objs.size+1) scope.names []) (bindC (envOfC qual scope s.heap.objs.size f cd).kindOf (ps.zip us) fun _=>none) s1):
  Inv (m9 CX P w K mg base N qual scope f cd A outer s H E) [] (start N vs) H s1:=by
 have hpl:ps.length≤N.length:=by have:=congrArg List.length S.pre;rw[List.length_take] at this;omega
 obtain⟨h1,tk,rfl,hk⟩:=x.done
 have noA:∀b:Addr,b∉(m9 CX P w K mg base N qual scope f cd A outer s H E).ex:=fun b z=>absurd (show b∈([]:List Addr) from z) (by simp)
 refine⟨⟨e0.mod,S.kind,rfl,rfl,af _,fun y z c h1 h2=>?_,fun y hy=>?_,fun y c _ h=>?_,fun _=>hd,Around.frames_deeper e0.frames,.inr ⟨rfl,rfl⟩,fun b z=>absurd z (noA b),e0.bs,e0.bsz,fun b _ _=>noA b,fun b z=>absurd z (noA b),e0.funs,e0.frf⟩,
  rfl,e0.bare,Un.kept hk,⟨_,x.toInCall.ns,fun i y v h1 h2 h3=>?_⟩,fun y c h=>⟨_,x.cell y c h⟩,e0.hok.fresh (af _),fun y c h=>?_,fun p hp=>absurd (show p∈([]:List (Addr×Obj)) from hp) (by simp),e0.hok.kept hk,?_⟩
 ·exact name_of_addr x.apart (aD h1) (aD h2)
 ·have hy:scope.names.lookup y=some .cell∨scope.names.lookup y=some .free:=hy
  rcases hy with hy|hy
  ·exact nj hy
  ·exact absurd rfl (S.nofree _ (aD hy))
 ·exact Nat.le_of_lt (x.above y c (aD h))
 ·have hi:i<vs.length:=by
   unfold start at h2
   by_cases hi:i<vs.length
   ·exact hi
   ·rw[aQ (by simpa using hi)] at h2
    rw[List.getElem?_replicate] at h2
    split at h2<;>cases h2
  have ha:vs[i]? =some v:=by
   unfold start at h2
   rw[aN (by simpa using hi),aM] at h2
   cases e:vs[i]? with
   |none=>rw[e] at h2;cases h2
   |some a=>rw[e] at h2;cases h2;rfl
  obtain⟨u,hu,rv⟩:=r.get ha
  have hp:ps[i]? =some y:=by
   rw[←S.pre,List.getElem?_take_of_lt (by omega)];exact h1
  have ndP:ps.Nodup:=by rw[←S.pre];exact S.nd.sublist (List.take_sublist _ _)
  refine⟨u,rv,?_⟩
  rcases S.par y (al hp) with k|k
  ·exact .inl ⟨k,kM ndP hp hu k⟩
  ·obtain⟨c,e⟩:=nj (n:=s.heap.objs.size+1) k
   refine .inr ⟨.inl k,c,e,?_⟩
   have q:=x.cell y c e
   rw[kO ndP hp hu (by show scope.names.lookup y≠_;rw[k];decide)] at q
   exact q
 ·exact e0.hok.fresh (Nat.le_of_lt (x.above y c (aD h)))
 ·unfold start
  show _=N.length
  rw[aO,List.length_map,List.length_replicate]
  omega
theorem AS{CX:uK}{K:ao}{k:Nat}{f:Addr}{name:Str}{params:Arguments}{body:List Stmt}{scope:Scope}{dV kV doc pm cdv ct oc:Value}{an od:Option Addr}
  {osl:Array (Option Value)}{N ps:List Str}{sp:Sp}(lk:K.lookup f=some ⟨oc,od,.func (PySem.W.fnOf name qual params body scope dV kV doc pm an cdv ct),osl⟩)(hcd:PySem.W.codeIn K cdv qual=true)(S:FnScope N ps scope)
  (len:∀vs H Q E,sp vs H Q E→vs.length=ps.length)
  (hbody:∀(A:Around)(outer:List Env)(s:Shared)(H:Hp)(vs:List V)(Q:VK)(E:XK),Room k (A.deeper (envOfC qual scope s.heap.objs.size f cdv))→sp vs H Q E→
   ∃t,PSs (m9 CX P w K mg base N qual scope f cdv A outer s H E) body t∧t {nx:=fun _ H'=>Q .non H',rt:=Q} (start N vs) H):
  FnOk P w K mg base CX (k+1) f (PySem.W.fnOf name qual params body scope dV kV doc pm an cdv ct) ps sp:=by
 refine⟨len,fun A outer s H args us vs Q E hr e0 hb r hsp=>?_⟩
 have hl:=len _ _ _ _ hsp
 have KX:K.In s.heap:=e0.mod.kin.keeps fun b o e=>(e0.bs b o e).1
 have lim:s.heap.NoLimit:=e0.mod.nolimit.keeps fun b o e=>(e0.bs b o e).1
 have hkind:∀y∈ps.zip us,scope.names.lookup y.1=some .local∨(scope.names.lookup y.1=some .cell∧((cellsFrom (s.heap.objs.size+1) scope.names []).lookup y.1).isSome=true):=fun⟨n,v⟩ hy=>by
  rcases S.par n (List.of_mem_zip hy).1 with q|q
  ·exact .inl q
  ·exact .inr ⟨q,PySem.W.cellsFrom_some _ _ _ (.inl q)⟩
 refine codeAny_call_function hr.depth (KX _ _ lk) rfl S.co S.gen rfl (PySem.W.codeRec_of KX hcd) (hb _ _ _ _ ?_)
 refine wpAny_newFunctionEnv_cells S.kind hkind fun env he s1 x=>?_
 subst he
 refine⟨lim.keeps x.toInCall.keep,codeAny_func ?_⟩
 obtain⟨t,ht,hq⟩:=hbody A outer s H vs Q E (hr.deeper _) hsp
 have I:Inv (m9 CX P w K mg base N qual scope f cdv A outer s H E) [] (start N vs) H s1:=qM S hr.hd e0 hl r x
 refine aJ (ht [] s1 (start N vs) H _ I hq) (fun fl s' hs=>?_) fun e s' hs=>hs
 have fin:∀{σ':St}{H':Hp}{v:V}{u:Value},Inv (m9 CX P w K mg base N qual scope f cdv A outer s H E) [] σ' H' s'→RelV v u→Q v H'→CE outer P w H s Q u s':=
  fun{σ' H' v u} J rv q=>⟨v,H',J.os,J.bare,J.base,J.hok,rv,q⟩
 cases fl with
 |ret u=>
  obtain⟨v,σ',H',J,rv,q⟩:=hs
  exact fin J rv q
 |next=>
  obtain⟨σ',H',J,q⟩:=hs
  exact fin (v:=V.non) (u:=Value.none) J rfl q
 |brk=>
  obtain⟨_,_,_,q⟩:=hs
  exact False.elim q
 |cont=>
  obtain⟨_,_,_,q⟩:=hs
  exact False.elim q
section
variable{X:Cx}{x:Str}{p pos:Pos}{e:Expr}{es:List Expr}{t:TA}{id T:String}{r:List V→Hp→VK→Prop}
noncomputable def BK(r:List V→Hp→VK→Prop)(t:TA):TE:=fun σ H Q=>t σ H fun vs H1=>r vs H1 Q
theorem eT(hc:fG X (.builtin id) r)(hg:Gl X x)(hm:X.mg x=none)(hv:bootBuiltins x=some (.builtin id))(ha:PA X (e::es) t)(hn:x≠ "__name__":=by decide)(hdb:(x==("__debug__":Str))=false:=by decide)
  (he:starEach (e::es) X.env=(false,eval e X.env)::starEach es X.env:=by rfl)(hpl:(backTo pos (starEach es X.env)).any (·.1)=false:=by rfl):PE X (.Call (.Name x p) (e::es) [] pos) (BK r t):=by
 intro pins s σ H Q I h
 refine wpAny_Call_Name_kw (eK I hg hm hv ?_ hn hdb)
 exact PyProof.Rows.callWith_builtin1 (bC (ha pos pins s σ H _ I h) fun us s1 ⟨vs,H1,I1,r1,q1⟩=>hc pins s1 σ H1 vs us Q I1 r1 q1) he hpl
theorem qD(hc:fG X (.type T) r)(hg:Gl X x)(hm:X.mg x=none)(hv:bootBuiltins x=some (.type T))(ha:PA X (e::es) t)(hn:x≠ "__name__":=by decide)(hdb:(x==("__debug__":Str))=false:=by decide)
  (he:starEach (e::es) X.env=(false,eval e X.env)::starEach es X.env:=by rfl)(hpl:(backTo pos (starEach es X.env)).any (·.1)=false:=by rfl):PE X (.Call (.Name x p) (e::es) [] pos) (BK r t):=by
 intro pins s σ H Q I h
 refine wpAny_Call_Name_kw (eK I hg hm hv ?_ hn hdb)
 exact aW (bC (ha pos pins s σ H _ I h) fun us s1 ⟨vs,H1,I1,r1,q1⟩=>hc pins s1 σ H1 vs us Q I1 r1 q1) he hpl
end
end L2
namespace HT
open PySem PyProof.Rows
variable{sl t:Addr}{hi lo:Option Int}{vl vu:Value}
section
open PySem.SeqAt
open PySem.AutoSeq1 (wpAny_loadPart')
open PySem.MeetsSeq PySem.MeetsSeq2 PySem.MeetsSeq3
end
section
variable{prog:Program}{w:World}{A:Around}{E:Value→Shared→Prop}{s:Shared}
theorem wJ{b:Addr}{vs ws:List Value}{Q:Value→Shared→Prop}(ht:IsTup s.heap t vs.toArray)(hb:IsTup s.heap b ws.toArray)(hv:vs≠[])
  (h1:ws=[]→Q (.ref t) s)(h2:ws≠[]→Q (.ref s.heap.objs.size) {s with heap:=s.heap.push {cls:= .type "tuple",data:= .seq (vs++ws).toArray}})
  (hsz:vs.length+ws.length≤sizeLine):wpAny (model prog w) A (binaryOp .Add (.ref t) (.ref b)) Q E s:=by
 obtain⟨⟨cls,dd,data,sl⟩,ho,hc,n,hd⟩:=id ht
 obtain⟨⟨cls2,dd2,data2,sl2⟩,ho2,hc2,n2,hd2⟩:=id hb
 simp only at hc hd hc2 hd2
 subst hc hd hc2 hd2
 have e:vs.toArray++ws.toArray=(vs++ws).toArray:=by simp
 by_cases hw:ws=[]
 ·exact concat_meets ⟨_,ho,rfl⟩ ⟨_,ho2,rfl⟩ noFill_tuple_add seq_tuple_add PySem.F.slot_tuple_add PySem.F.entry_tuple_add (PySem.F.args_tuple_add_2 _ _)
   (tuple_addW1 t b vs.toArray ws.toArray n n2 dd dd2 sl sl2 (by simpa using hv) (by simp[hw])) ⟨ho,ho2,h1 hw⟩
 ·refine concat_meets ⟨_,ho,rfl⟩ ⟨_,ho2,rfl⟩ noFill_tuple_add seq_tuple_add PySem.F.slot_tuple_add PySem.F.entry_tuple_add (PySem.F.args_tuple_add_2 _ _)
   (tuple_addW2 t b vs.toArray ws.toArray n n2 dd dd2 sl sl2 (by simpa using hv) (by simpa using hw) (by rw[List.size_toArray,List.size_toArray];exact hsz)) ⟨ho,ho2,?_⟩
  rw[e]
  exact h2 hw
noncomputable def cF(n d:Nat):Option Int→Nat
 |none=>d
 |some v=>if v<0 then(v+(n:Int)).toNat else min v.toNat n
theorem gV(n d:Nat):cF n d none=d:=rfl
theorem i9(n d k:Nat):cF n d (some (k:Int))=min k n:=by
 show(if(k:Int)<0 then((k:Int)+(n:Int)).toNat else min (k:Int).toNat n)=min k n
 rw[if_neg (by omega),Int.toNat_natCast]
theorem xZ(n d:Nat)(hd:d≤n)(o:Option Int):cF n d o≤n:=by
 cases o with
 |none=>exact hd
 |some v=>
  show(if v<0 then(v+(n:Int)).toNat else min v.toNat n)≤n
  by_cases hv:v<0
  ·rw[if_pos hv];omega
  ·rw[if_neg hv];exact Nat.min_le_right _ _
theorem qd(v:Int)(n d:Nat):(if v<0 then max (v+(n:Int)) 0 else min v (n:Int))=((cF n d (some v):Nat):Int):=by
 show(if v<0 then max (v+(n:Int)) 0 else min v (n:Int))=(((if v<0 then(v+(n:Int)).toNat else min v.toNat n):Nat):Int)
 by_cases hv:v<0
 ·simp only[if_pos hv];omega
 ·simp only[if_neg hv];omega
theorem oV(lo hi:Option Int)(n:Nat):Builtin.Slice.sliceAdjust lo hi 1 (n:Int)=(((cF n 0 lo:Nat):Int),((cF n n hi:Nat):Int)):=by
 have h1:¬((1:Int)<0):=by omega
 unfold Builtin.Slice.sliceAdjust
 simp only[h1,if_false]
 refine Prod.ext ?_ ?_
 ·cases lo with
  |none=>rfl
  |some v=>exact qd v n 0
 ·cases hi with
  |none=>rfl
  |some v=>exact qd v n n
theorem oj(i j:Nat):Builtin.Slice.slicePlaces (i:Int) (j:Int) 1=j - i:=by
 unfold Builtin.Slice.slicePlaces
 have h1:(1:Int)>0:=by omega
 simp only[h1,if_true,Int.ediv_one]
 split<;>omega
theorem jt{v:Value}{o:Option Int}{Q:Option Int→Shared→Prop}(p:IsPart v o)(h:Q o s):wpAny (model prog w) A (Builtin.Slice.slicePartIndex v) Q E s:=by
 cases p with
 |none=>exact slicePart_none h
 |int i t=>exact slicePart_int h
theorem iu{n:Nat}{Q:Int×Int×Nat→Shared→Prop}(hs:s.heap.IsSliceOf sl vl vu .none)(pl:IsPart vl lo)(pu:IsPart vu hi)
  (h:Q (((cF n 0 lo:Nat):Int),1,cF n n hi - cF n 0 lo) s):wpAny (model prog w) A (Builtin.Slice.sliceApplied (.ref sl) (pure (n:Int))) Q E s:=by
 obtain⟨os,hos,hcs,hds⟩:=id hs
 unfold Builtin.Slice.sliceApplied Builtin.Slice.sliceFields
 refine aa (aa (aH hos hds (x:=vl) rfl (aa (aH hos hds (x:=vu) rfl (aa (aH hos hds (x:= .none) rfl (ae ?_)))))))
 refine aa (slicePart_none ?_)
 show wpAny _ _ (if((1:Int)==0)=true then _ else _) _ _ s
 rw[if_neg (by decide)]
 refine aa (jt pl (aa (jt pu (aa (ae ?_)))))
 show wpAny _ _ (match Builtin.Slice.sliceAdjust lo hi 1 (n:Int) with|(lo,hi)=>pure (lo,(1:Int),Builtin.Slice.slicePlaces lo hi 1)) _ _ s
 rw[oV lo hi n]
 show wpAny _ _ (pure (((cF n 0 lo:Nat):Int),(1:Int),Builtin.Slice.slicePlaces ((cF n 0 lo:Nat):Int) ((cF n n hi:Nat):Int) 1)) _ _ s
 rw[oj]
 exact ae h
theorem sN(xs:Array Value)(i k:Nat):((List.range k).filterMap fun(m:Nat)=>xs[((i:Int)+(m:Int)*1).toNat]?).toArray=((xs.toList.drop i).take k).toArray:=by
 have e:(fun(m:Nat)=>xs[((i:Int)+(m:Int)*1).toNat]?)=fun m=>xs[i+m]?:=by
  funext m
  have:((i:Int)+(m:Int)*1).toNat=i+m:=by omega
  rw[this]
 rw[e]
 have:=pick_run xs i k
 rw[List.filterMap_map] at this
 have e2:((fun x=>xs[x]?) ∘ fun x=>i+x)=fun m=>xs[i+m]?:=rfl
 rw[e2] at this
 rw[this]
theorem hU{items:Array Value}{Q:Value→Shared→Prop}(ht:IsTup s.heap t items)(hs:s.heap.IsSliceOf sl vl vu .none)(pl:IsPart vl lo)(pu:IsPart vu hi)
  (hw:¬(cF items.size 0 lo=0∧cF items.size items.size hi=items.size))
  (h:Q (.ref s.heap.objs.size) {s with heap:=s.heap.push {cls:= .type "tuple",data:= .seq ((items.toList.drop (cF items.size 0 lo)).take (cF items.size items.size hi - cF items.size 0 lo)).toArray}})
  (hsz:items.size≤sizeLine):wpAny (model prog w) A (getItem (.ref t) (.ref sl)) Q E s:=by
 have htake:sizeOk (.seq ((items.toList.drop (cF items.size 0 lo)).take (cF items.size items.size hi - cF items.size 0 lo)).toArray):=by
  show((items.toList.drop (cF items.size 0 lo)).take (cF items.size items.size hi - cF items.size 0 lo)).toArray.size≤sizeLine
  rw[List.size_toArray,List.length_take,List.length_drop,Array.length_toList]
  omega
 have hj:cF items.size items.size hi≤items.size:=xZ _ _ (af _) hi
 obtain⟨os,hos,hcs,hds⟩:=id hs
 have hTs:s.TypeIs (.ref sl) "slice":=⟨os,hos,hcs⟩
 unfold getItem
 try with_reducible refine wpAny_holding ?_
 first|refine aa (ae ?_)|skip
 refine aa (wpAny_sequenceKey ht.typeIs (by decide) ?_)
 refine aa (wpAny_callSpecial?_slot (name:=Str.ofString "__getitem__") ht.typeIs PyProof.Rows.slot_tuple_getitem
  (wpAny_call_entry PyProof.Rows.slot_tuple_getitem ht.typeIs entry_tuple_getitem ?_ (args_tuple_getitem _ _)))
 show wpAny _ _ (Builtin.Tuple.tupleItemsOf (.ref t)>>=_) _ _ s
 refine aa (tupleItemsOf_ ht ?_)
 refine aa (wpAny_typeOf hTs ?_)
 rw[if_pos (by decide)]
 refine aa (iu hs pl pu ?_)
 have hno:¬((((cF items.size 0 lo:Nat):Int)==0&&(1:Int)==1&&(cF items.size items.size hi - cF items.size 0 lo)==items.size)=true):=by
  intro q
  rw[Bool.and_eq_true,Bool.and_eq_true] at q
  have q1:((cF items.size 0 lo:Nat):Int)=0:=eq_of_beq q.1.1
  have q2:cF items.size items.size hi - cF items.size 0 lo=items.size:=eq_of_beq q.2
  exact hw ⟨by omega,by omega⟩
 show wpAny _ _ (if(((cF items.size 0 lo:Nat):Int)==0&&(1:Int)==1&&(cF items.size items.size hi - cF items.size 0 lo)==items.size)=true then _ else _) _ _ s
 rw[if_neg hno,sN]
 first
  |exact aa (m:=Builtin.Tuple.tupleExact _) (wpAny_newObj_type (ae ⟨_,rfl,ae h⟩) htake)
  |exact aa (m:=Builtin.Tuple.tupleExact _) (wpAny_newObj_type (aa (ae (ae ⟨_,rfl,ae h⟩))) htake)
  |exact aa (aa (m:=Builtin.Tuple.tupleExact _) (wpAny_newObj_type (ae (ae ⟨_,rfl,ae h⟩)) htake))
  |exact aa (aa (m:=Builtin.Tuple.tupleExact _) (wpAny_newObj_type (ae ⟨_,rfl,ae h⟩) htake))
end
end HT
namespace L2
open PySem PySem.Spec PyProof.Rows
variable{its us:List Value}{n t':Nat}
noncomputable abbrev TO:=St→Hp→(Option Int→Hp→Prop)→Prop
noncomputable def PO(X:Cx)(e:Option Expr)(t:TO):Prop:=
 ∀(pins:List (Addr×Obj))(s:Shared)(σ:St)(H:Hp)(Q:Option Int→Hp→Prop),Inv X pins σ H s→t σ H Q→
  wpAny (model X.prog X.w) X.A (evalPart e X.env) (fun u s'=>∃o H',Inv X pins σ H' s'∧IsPart u o∧Q o H') X.xe s
noncomputable def pj:TO:=fun _ H Q=>Q none H
noncomputable def wR(t:TE):TO:=fun σ H Q=>t σ H fun x H1=>∃i,x=.int i∧Q (some i) H1
section
variable{X:Cx}{e:Expr}{te:TE}{lo hi:Option Expr}{tl th:TO}{pos p2:Pos}
theorem pG:PO X none pj:=by
 intro pins s σ H Q I h
 rw[evalPart_none]
 exact ae ⟨none,H,I,.none,h⟩
theorem ja(h:PE X e te):PO X (some e) (wR te):=by
 intro pins s σ H Q I hw
 rw[evalPart_some]
 refine bC (h pins s σ H _ I hw) fun u s1 hp=>?_
 obtain⟨x,H1,I1,r1,q1⟩:=hp
 obtain⟨i,rfl,q⟩:=q1
 obtain⟨t,rfl⟩:=r1
 exact⟨some i,H1,I1,.int i t,q⟩
noncomputable def Bq(X:Cx)(r:V→Option Int→Option Int→Hp→VK→Prop):Prop:=
 ∀(pins:List (Addr×Obj))(s:Shared)(σ:St)(H:Hp)(x:V)(v vl vu:Value)(lo hi:Option Int)(sl:Addr)(Q:VK),Inv X pins σ H s→RelV x v→s.heap.IsSliceOf sl vl vu .none→IsPart vl lo→IsPart vu hi→r x lo hi H Q→
  ∃T id,typeLookup (.type T) "__getitem__"=pure (some (.builtin id))∧s.TypeIs v T∧wpAny (model X.prog X.w) X.A (getItem v (.ref sl)) (EP X pins σ Q) X.xe s
noncomputable def CJ(r:V→Option Int→Option Int→Hp→VK→Prop)(te:TE)(tl th:TO):TE:=fun σ H Q=>te σ H fun x H1=>tl σ H1 fun l H2=>th σ H2 fun u H3=>r x l u H3 Q
theorem sR{r:V→Option Int→Option Int→Hp→VK→Prop}(hr:Bq X r)(he:PE X e te)(hl:PO X lo tl)(hu:PO X hi th):PE X (.Subscript e (.Slice lo hi none p2) pos) (CJ r te tl th):=by
 intro pins s σ H Q I h
 refine Subscript_ (bC (he pins s σ H _ I h) fun v s1 hp=>?_)
 obtain⟨x,H1,I1,r1,q1⟩:=hp
 refine wpAny_Slice (bC (hl pins s1 σ H1 _ I1 q1) fun vl s2 ⟨l,H2,I2,pl,q2⟩=>bC (hu pins s2 σ H2 _ I2 q2) fun vu s3 hp=>?_)
 obtain⟨u,H3,I3,pu,q3⟩:=hp
 rw[evalPart_none]
 refine ae ?_
 have I4:Inv X pins σ H3 {s3 with heap:=s3.heap.push {cls:= .type "slice",data:= .fields #[vl,vu,.none]}}:=I3.kept (t':=s3.toks) fun b ob q=>ac _ q
 obtain⟨T,id,hT,ht,hg⟩:=hr pins {s3 with heap:=s3.heap.push {cls:= .type "slice",data:= .fields #[vl,vu,.none]}} σ H3 x v vl vu l u s3.heap.objs.size Q I4 r1 (Heap.IsSliceOf.new ..) pl pu q3
 show wpAny (model X.prog X.w) X.A (subscriptTail e (.Slice lo hi none p2) v (.ref s3.heap.objs.size)) (EP X pins σ Q) X.xe {s3 with heap:=s3.heap.push {cls:= .type "slice",data:= .fields #[vl,vu,.none]}}
 exact tail_any (ops:=[.ref s3.heap.objs.size,v]) ht hT hg (by with_unfolding_all rfl)
noncomputable def m_(xs:List V)(lo hi:Option Int):List V:=(xs.drop (HT.cF xs.length 0 lo)).take (HT.cF xs.length xs.length hi - HT.cF xs.length 0 lo)
theorem iQ(xs:List V)(lo hi:Option Int):(m_ xs lo hi).length≤xs.length:=by
 unfold m_
 rw[List.length_take,List.length_drop]
 omega
noncomputable def BR(K:ao):V→Option Int→Option Int→Hp→VK→Prop:=fun x lo hi H Q=>∃a xs,x=.ref a∧fP K H a xs∧
 ¬(HT.cF xs.length 0 lo=0∧HT.cF xs.length xs.length hi=xs.length)∧∀p,H p=none→Q (.ref p) (bm H p (.tup (m_ xs lo hi)))
theorem xv:Bq X (BR X.K):=by
 intro pins s σ H x v vl vu lo hi sl Q I rx hs pl pu h
 obtain⟨a,xs,rfl,hx,hw,q⟩:=h
 cases rx
 obtain⟨its,r,ht,hz⟩:=I.tuple hx
 have hlen:its.toArray.size=xs.length:=by rw[List.size_toArray];exact r.length.symm
 refine⟨"tuple",_,PyProof.Rows.slot_tuple_getitem.lookup,ht.typeIs,?_⟩
 refine HT.hU ht hs pl pu (by rw[hlen];exact hw) ?_ (by rw[hlen];exact hz)
 rw[hlen]
 refine⟨.ref s.heap.objs.size,_,I.laid (t':=s.toks) (o:= .tup (m_ xs lo hi)) (fun b ob q=>ac _ q) (af _) ?_,rfl,q _ (I.hok.fresh (af _))⟩
 exact⟨aP (iQ xs lo hi) hz,_,(r.drop (HT.cF xs.length 0 lo)).take (HT.cF xs.length xs.length hi - HT.cF xs.length 0 lo),IsTup.new _ _⟩
noncomputable def Au(K:ao):R2:=fun x y H Q=>∃a b xs ys,x=.ref a∧y=.ref b∧fP K H a xs∧fP K H b ys∧xs≠[]∧xs.length+ys.length≤sizeLine∧
 (ys=[]→Q (.ref a) H)∧(ys≠[]→∀p,H p=none→Q (.ref p) (bm H p (.tup (xs++ys))))
theorem bj.nil_iff{xs:List V}(r:bj xs us):us=[]↔xs=[]:=by
 cases r with
 |nil=>simp
 |cons _ _=>simp
theorem wa:jh X (binaryOp .Add) (Au X.K):=by
 intro pins s σ H x y v u Q I rx ry h
 obtain⟨a,b,xs,ys,rfl,rfl,ha,hb,hx,hz,q1,q2⟩:=h
 cases rx
 cases ry
 obtain⟨its,r1,p1,_⟩:=I.tuple ha
 obtain⟨its2,r2,p2,_⟩:=I.tuple hb
 refine HT.wJ p1 p2 (fun z=>hx (r1.nil_iff.mp z)) (fun z=>⟨.ref a,H,I,rfl,q1 (r2.nil_iff.mp z)⟩) (fun z=>?_) (by rw[←r1.length,←r2.length];exact hz)
 refine⟨.ref s.heap.objs.size,_,I.laid (t':=s.toks) (o:= .tup (xs++ys)) (fun b ob q=>ac _ q) (af _) ?_,rfl,q2 (fun w=>z (r2.nil_iff.mpr w)) _ (I.hok.fresh (af _))⟩
 exact⟨by rw[aO];exact hz,_,r1.append r2,IsTup.new _ _⟩
end
noncomputable def zq(n:Nat)(i:Int):Option Nat:=if 0≤i then(if i<n then some i.toNat else none) else if -(n:Int)≤i then some (i+n).toNat else none
noncomputable def rf{α:Type}(xs:List α)(i:Int):Option α:=(zq xs.length i).bind fun j=>xs[j]?
theorem wj{i:Int}{j:Nat}(h:zq n i=some j):seqIndex? i n=some j∧j<n∧ -(n:Int)≤i∧i<n:=by
 unfold zq at h
 by_cases h0:0≤i
 ·rw[if_pos h0] at h
  by_cases h1:i<n
  ·rw[if_pos h1] at h
   have e:i.toNat=j:=aj h
   exact⟨by rw[seqIndex_of h0 h1,e],by omega,by omega,h1⟩
  ·rw[if_neg h1] at h;cases h
 ·rw[if_neg h0] at h
  by_cases h1: -(n:Int)≤i
  ·rw[if_pos h1] at h
   have e:(i+n).toNat=j:=aj h
   exact⟨by rw[seqIndex_neg (by omega) h1,e],by omega,h1,by omega⟩
  ·rw[if_neg h1] at h;cases h
theorem qh{α:Type}{xs:List α}{i:Int}{v:α}(h:rf xs i=some v):∃j,seqIndex? i xs.length=some j∧xs[j]? =some v∧j<xs.length∧ -(xs.length:Int)≤i∧i<xs.length:=by
 unfold rf at h
 cases e:zq xs.length i with
 |none=>rw[e] at h;cases h
 |some j=>
  rw[e] at h
  obtain⟨h1,h2,h3,h4⟩:=wj e
  exact⟨j,h1,h,h2,h3,h4⟩
noncomputable def wN(b:Expr):Prop:=∀o i,subscripted b false o i=operate [o,i] (getItem o i)
noncomputable def Br(X:Cx)(r:R2):Prop:=
 ∀(value slice:Expr)(pins:List (Addr×Obj))(s:Shared)(σ:St)(H:Hp)(x y:V)(v u:Value)(Q:VK),Inv X pins σ H s→RelV x v→RelV y u→r x y H Q→
  subscripted slice false v u=operate [v,u] (getItem v u)→wpAny (model X.prog X.w) X.A (subscriptTail value slice v u) (EP X pins σ Q) X.xe s
noncomputable def CD(X:Cx)(id:String)(r:V→List V→Hp→VK→Prop):Prop:=
 ∀(pins:List (Addr×Obj))(s:Shared)(σ:St)(H:Hp)(x:V)(xs:List V) (v:Value) (us:List Value)(Q:VK),Inv X pins σ H s→RelV x v→bj xs us→r x xs H Q→
  wpAny (model X.prog X.w) X.A (call (.builtin id) (v::us)) (EP X pins σ Q) X.xe s
section
variable{X:Cx}{a b:Expr}{ta tb:TE}{pos:Pos}
theorem AB{r:R2}(hr:Br X r)(ha:PE X a ta)(hb:PE X b tb)(hs:wN b):PE X (.Subscript a b pos) (zU r ta tb):=by
 intro pins s σ H Q I h
 exact Subscript_ (zh ha hb I h fun v u s2 x y H2 I2 rx ry q=>hr a b pins s2 σ H2 x y v u Q I2 rx ry q (hs _ _))
noncomputable def BX(K:ao):R2:=fun x y H Q=>∃p xs i v,x=.ref p∧y=.int i∧dz K H p xs∧rf xs i=some v∧Q v H
noncomputable def BW(K:ao):R2:=fun x y H Q=>∃p xs i v,x=.ref p∧y=.int i∧fP K H p xs∧rf xs i=some v∧Q v H
theorem wg:Br X (BX X.K):=by
 intro value slice pins s σ H x y v u Q I rx ry h hs
 obtain⟨p,xs,i,z,rfl,rfl,hq,he,q⟩:=h
 cases rx
 obtain⟨t,rfl⟩:=ry
 obtain⟨its,r,pl,hz⟩:=I.list hq
 obtain⟨j,h1,h2,h3,h4,h5⟩:=qh he
 obtain⟨w,ew,rw'⟩:=r.get h2
 have hl:=r.length
 have hn:=oy
 have fin:EP X pins σ Q w s:=⟨z,H,I,rw',q⟩
 by_cases h0:0≤i
 ·have hj:i.toNat=j:=by
   rw[seqIndex_of h0 h5] at h1
   exact aj h1
  exact item_listR pl.isList h0 (by omega) (by rw[hj];simpa using ew) fin hs
 ·have hj:(i+(its.toArray.size:Int)).toNat=j:=by
   rw[seqIndex_neg (by omega) h4] at h1
   rw[List.size_toArray,←hl]
   exact aj h1
  exact subscriptTail_builtinR (x:=w) pl.isList.typeIs slot_list_getitem.lookup
   (wpAny_getItem_list_neg (Q:=fun r s'=>r=w∧EP X pins σ Q r s') pl.isList (by omega) (by rw[List.size_toArray]<;>omega) (by omega) (by rw[hj];simpa using ew) ⟨rfl,fin⟩) hs
theorem yL:Br X (BW X.K):=by
 intro value slice pins s σ H x y v u Q I rx ry h hs
 obtain⟨p,xs,i,z,rfl,rfl,hq,he,q⟩:=h
 cases rx
 obtain⟨t,rfl⟩:=ry
 obtain⟨its,r,pl,hz⟩:=I.tuple hq
 obtain⟨j,h1,h2,h3,h4,h5⟩:=qh he
 obtain⟨w,ew,rw'⟩:=r.get h2
 have hl:=r.length
 have hn:=oy
 have fin:EP X pins σ Q w s:=⟨z,H,I,rw',q⟩
 exact subscriptTail_builtinR (x:=w) pl.typeIs slot_tuple_getitem.lookup
  (getItem_tuple (j:=j) (Q:=fun r s'=>r=w∧EP X pins σ Q r s') pl (by omega) (by omega) (by rw[List.size_toArray,←hl];exact h1) (by simpa using ew) ⟨rfl,fin⟩) hs
theorem ld(lo hi:Option Int)(n:Nat):(sliceBounds lo hi none n).1=((HT.cF n 0 lo:Nat):Int)∧(sliceBounds lo hi none n).2.1=((HT.cF n n hi:Nat):Int)∧(sliceBounds lo hi none n).2.2=1:=by
 refine⟨?_,?_,rfl⟩
 ·cases lo with
  |none=>simp[sliceBounds,HT.cF]
  |some i=>
   simp only[sliceBounds,HT.cF,Option.getD_none,show(1:Int)>0 by decide,if_true]
   by_cases h:i<0
   ·simp only[h,if_true]<;>omega
   ·simp only[h,if_false]<;>omega
 ·cases hi with
  |none=>simp[sliceBounds,HT.cF]
  |some i=>
   simp only[sliceBounds,HT.cF,Option.getD_none,show(1:Int)>0 by decide,if_true]
   by_cases h:i<0
   ·simp only[h,if_true]<;>omega
   ·simp only[h,if_false]<;>omega
theorem j5(its:List Value)(lo hi:Option Int):slicePick its.toArray lo hi none=((its.drop (HT.cF its.length 0 lo)).take (HT.cF its.length its.length hi - HT.cF its.length 0 lo)).toArray:=by
 obtain⟨h1,h2,h3⟩:=ld lo hi its.toArray.size
 unfold slicePick
 rw[h1,h2,h3]
 simp only[sliceRange_one,pick_run,List.size_toArray]<;>rfl
noncomputable def BS(K:ao):V→Option Int→Option Int→Hp→VK→Prop:=fun x lo hi H Q=>∃a xs,x=.ref a∧dz K H a xs∧∀p,H p=none→Q (.ref p) (bm H p (.lst (m_ xs lo hi)))
theorem vf:Bq X (BS X.K):=by
 intro pins s σ H x v vl vu lo hi sl Q I rx hs pl pu h
 obtain⟨a,xs,rfl,hx,q⟩:=h
 cases rx
 obtain⟨its,r,ht,hz⟩:=I.list hx
 have hlen:=r.length
 refine⟨"list",_,slot_list_getitem.lookup,ht.isList.typeIs,?_⟩
 refine wpAny_getItem_list_slice ht.isList hs pl pu .none (by simp) ?_ (by rw[List.size_toArray]<;>omega)
 rw[j5,←hlen]
 refine⟨.ref s.heap.objs.size,_,I.laid (t':=s.toks) (o:= .lst (m_ xs lo hi)) (fun b ob q=>ac _ q) (af _) ?_,rfl,q _ (I.hok.fresh (af _))⟩
 exact⟨aP (iQ xs lo hi) hz,_,0,(r.drop (HT.cF xs.length 0 lo)).take (HT.cF xs.length xs.length hi - HT.cF xs.length 0 lo),aq _ rfl⟩
noncomputable def cC:V→Bool
 | .non=>true
 | .bl _=>true
 | .int _=>true
 | .str _=>true
 |_=>false
noncomputable def oO:V→V→Bool
 | .non,.non=>true
 | .bl a,.bl b=>a==b
 | .bl a,.int b=>(if a then 1 else 0)==b
 | .int a,.bl b=>a==(if b then 1 else 0)
 | .int a,.int b=>a==b
 | .str a,.str b=>a==b
 |_,_=>false
theorem yW{A:Around}{s:Shared}{y x:V}{u v:Value}(ry:RelV y u)(rx:RelV x v)(fy:cC y=true)(fx:cC x=true):SeqAt.EqAt A s u v (oO y x):=by
 cases y with
 |non=>
  cases ry
  cases x with
  |non=>cases rx;exact SeqAt.EqAt.same _
  |bl b=>cases rx;exact SeqAt.EqAt.none_bool b
  |int b=>obtain⟨t,rfl⟩:=rx;exact SeqAt.EqAt.none_int b t
  |str b=>obtain⟨t,rfl⟩:=rx;exact SeqAt.EqAt.none_str b t
  |_=>exact jO fx
 |bl a=>
  cases ry
  cases x with
  |non=>cases rx;exact SeqAt.EqAt.bool_none a
  |bl b=>cases rx;exact SeqAt.EqAt.bool_bool a b
  |int b=>obtain⟨t,rfl⟩:=rx;exact SeqAt.EqAt.bool_int a b t
  |str b=>obtain⟨t,rfl⟩:=rx;exact SeqAt.EqAt.bool_str a b t
  |_=>exact jO fx
 |int a=>
  obtain⟨t',rfl⟩:=ry
  cases x with
  |non=>cases rx;exact SeqAt.EqAt.int_none a t'
  |bl b=>cases rx;exact SeqAt.EqAt.int_bool a t' b
  |int b=>obtain⟨t,rfl⟩:=rx;exact SeqAt.EqAt.int_int a t' b t
  |str b=>obtain⟨t,rfl⟩:=rx;exact SeqAt.EqAt.int_str a t' b t
  |_=>exact jO fx
 |str a=>
  obtain⟨t',rfl⟩:=ry
  cases x with
  |non=>cases rx;exact SeqAt.EqAt.str_none a t'
  |bl b=>cases rx;exact SeqAt.EqAt.str_bool a t' b
  |int b=>obtain⟨t,rfl⟩:=rx;exact SeqAt.EqAt.str_int a t' b t
  |str b=>obtain⟨t,rfl⟩:=rx;exact SeqAt.EqAt.str_str a t' b t
  |_=>exact jO fx
 |_=>exact jO fy
theorem lW:fG X (.builtin "len") (fun xs H Q=>∃p ys,xs=[.ref p]∧(dz X.K H p ys∨fP X.K H p ys)∧Q (.int ys.length) H):=by
 intro pins s σ H xs us Q I r h
 obtain⟨p,ys,rfl,hq,q⟩:=h
 obtain⟨u,rfl,rx⟩:=vals1 r
 cases rx
 have hn:=oy
 rcases hq with hq|hq
 ·obtain⟨its,r',pl,hz⟩:=I.list hq
  have hlen:=r'.length
  exact Calls.call_len_list pl.isList (by simp only[List.size_toArray]<;>omega) ⟨.int ys.length,H,I.tok _,⟨s.toks+1,by rw[List.size_toArray,hlen]⟩,q⟩
 ·obtain⟨its,r',pl,hz⟩:=I.tuple hq
  have hlen:=r'.length
  exact len_tuple pl (by simp only[List.size_toArray]<;>omega) ⟨.int ys.length,H,I.tok _,⟨s.toks+1,by rw[List.size_toArray,hlen]⟩,q⟩
theorem lV:fG X (.type "list") (fun xs H Q=>∃p ys,xs=[.ref p]∧(dz X.K H p ys∨fP X.K H p ys)∧∀l,H l=none→Q (.ref l) (bm H l (.lst ys))):=by
 intro pins s σ H xs us Q I r h
 obtain⟨p,ys,rfl,hq,q⟩:=h
 obtain⟨u,rfl,rx⟩:=vals1 r
 cases rx
 have fin:∀(its:List Value),bj ys its→ys.length≤sizeLine→∀(h':Heap)(c':Nat),(∀b o',s.heap.get? b=some o'→h'.get? b=some o')→
   h'.get? s.heap.objs.size=some {cls:= .type "list",dict:=none,data:= .seq its.toArray c',slots:= #[]}→EP X pins σ Q (.ref s.heap.objs.size) {s with heap:=h'}:=fun its r' hz h' c' kp e=>
  ⟨.ref s.heap.objs.size,_,I.laid (t':=s.toks) kp (af _) (show bx X.prog X.w _ h' _ (.lst ys) from⟨hz,its,c',r',e⟩),rfl,q _ (I.hok.fresh (af _))⟩
 rcases hq with hq|hq
 ·obtain⟨its,r',pl,hz⟩:=I.list hq
  have hlen:=r'.length
  obtain⟨o,ho,hc,n,hd⟩:=pl.isList
  exact call_list_seq p (.inl rfl) ho hc hd (fun h' c' kp e=>fin its r' hz h' c' kp e) (by simp only[List.size_toArray]<;>omega)
 ·obtain⟨its,r',pl,hz⟩:=I.tuple hq
  have hlen:=r'.length
  obtain⟨o,ho,hc,n,hd⟩:=pl
  exact call_list_seq p (.inr rfl) ho hc hd (fun h' c' kp e=>fin its r' hz h' c' kp e) (by simp only[List.size_toArray]<;>omega)
theorem eN:fG X (.type "tuple") (fun xs H Q=>∃p ys,xs=[.ref p]∧((dz X.K H p ys∧∀l,H l=none→Q (.ref l) (bm H l (.tup ys)))∨(fP X.K H p ys∧Q (.ref p) H))):=by
 intro pins s σ H xs us Q I r h
 obtain⟨p,ys,rfl,h⟩:=h
 obtain⟨u,rfl,rx⟩:=vals1 r
 cases rx
 rcases h with⟨hq,q⟩|⟨hq,q⟩
 ·obtain⟨its,r',pl,hz⟩:=I.list hq
  have hlen:=r'.length
  refine call_tuple_list pl.isList (fun h' kp=>?_) (by simp only[List.size_toArray]<;>omega)
  have I1:Inv X pins σ H {s with heap:=h'}:=I.kept (t':=s.toks) kp
  have I2:Inv X pins σ (bm H h'.objs.size (.tup ys)) {s with heap:=h'.push {cls:= .type "tuple",data:= .seq its.toArray}}:=
   I1.laid (t':=s.toks) (fun b o e=>ac _ e) (af _) (show bx X.prog X.w _ _ _ (.tup ys) from⟨hz,its,r',IsTup.new _ _⟩)
  exact⟨.ref h'.objs.size,_,I2,rfl,q _ (I1.hok.fresh (af _))⟩
 ·obtain⟨its,r',pl,hz⟩:=I.tuple hq
  exact call_tuple_same pl ⟨.ref p,H,I,rfl,q⟩
noncomputable def Bx(K:ao)(T:String)(x:V)(H:Hp):Prop:=match x with
 | .str _=>T= "str"
 | .int _=>T= "int"
 | .ref p=>(T= "list" ∧∃xs,dz K H p xs)∨(T= "tuple" ∧∃o,K.lookup p=some o∧o.cls=.type "tuple" ∧o.dict=none)∨
   (T= "dict" ∧((∃kvs,H p=some (.dK kvs))∨∃kvs,H p=some (.dT kvs)))∨(T= "set" ∧∃S n,H p=some (.set S n))
 |_=>False
theorem rN{pins:List (Addr×Obj)}{σ:St}{H:Hp}{s:Shared}{T:String}{x:V}{v:Value}(I:Inv X pins σ H s)(r:RelV x v)(ty:Bx X.K T x H):
  s.TypeIs v T∧∀a,v=.ref a→∃ob,s.heap.get? a=some ob∧ob.dict=none:=by
 cases x with
 |str z=>
  obtain⟨t,rfl⟩:=r
  cases(show T= "str" from ty)
  exact⟨typeIs_str s z t,fun _ e=>nomatch e⟩
 |int i=>
  obtain⟨t,rfl⟩:=r
  cases(show T= "int" from ty)
  exact⟨typeIs_int s i t,fun _ e=>nomatch e⟩
 |ref p=>
  cases r
  rcases ty with⟨rfl,xs,hq⟩|⟨rfl,o,hk,hc,hd⟩|⟨rfl,hk⟩|⟨rfl,S,n,hk⟩
  ·obtain⟨its,_,pl,_⟩:=I.list hq
   refine⟨pl.isList.typeIs,fun a e=>?_⟩
   cases e
   obtain⟨o,n,e,c,hd,_⟩:=pl
   exact⟨o,e,hd⟩
  ·refine⟨⟨o,I.kIn p o hk,hc⟩,fun a e=>?_⟩
   cases e
   exact⟨o,I.kIn _ o hk,hd⟩
  ·have z:∃o,s.heap.get? p=some o∧o.ExactDict:=by
    rcases hk with⟨kvs,hk⟩|⟨kvs,hk⟩
    ·obtain⟨_,_,_,_,o,_,_,e,ex,_⟩:=I.hok p _ hk
     exact⟨o,e,ex⟩
    ·obtain⟨_,_,_,_,o,_,_,e,ex,_⟩:=I.hok p _ hk
     exact⟨o,e,ex⟩
   obtain⟨o,e,ex⟩:=z
   refine⟨⟨o,e,ex.1⟩,fun a e2=>?_⟩
   cases e2
   exact⟨o,e,ex.2.1⟩
  ·obtain⟨o,_,_,_,e,ex,_⟩:=I.hok p _ hk
   refine⟨⟨o,e,ex.1⟩,fun a e2=>?_⟩
   cases e2
   exact⟨o,e,ex.2.1⟩
 |_=>exact False.elim ty
noncomputable def BL(K:ao)(T:String)(r:V→List V→Hp→VK→Prop)(to:TE):TE:=fun σ H Q=>to σ H fun x H1=>Bx K T x H1∧r x [] H1 Q
noncomputable def CM(K:ao)(T:String)(r:V→List V→Hp→VK→Prop)(to:TE)(t:TA):TE:=fun σ H Q=>to σ H fun x H1=>Bx K T x H1∧t σ H1 fun xs H2=>r x xs H2 Q
variable{o e:Expr}{es:List Expr}{to:TE}{t:TA}{name:Str}{apos cpos:Pos}{T id:String}{r:V→List V→Hp→VK→Prop}
theorem yo(pa:PlainAttrs T)(slot:Slot T name id)(hty:typeOf (.builtin id)=pure (.type "method_descriptor"))(hm:CD X id r)(ho:PE X o to)
  (hbase:attributeBase o name X.env (eval o X.env)=eval o X.env:=by rfl)(hline:(apos.endLine==cpos.line)=true:=by rfl):PE X (.Call (.Attribute o name apos) [] [] cpos) (BL X.K T r to):=by
 intro pins s σ H Q I h
 refine wpAny_Call_method0_late hbase hline (bC (ho pins s σ H _ I h) fun v s1 hp=>?_)
 obtain⟨x,H1,I1,r1,ty,q1⟩:=hp
 obtain⟨h1,h2⟩:=rN I1 r1 ty
 exact⟨T,id,pa,slot,hty,h1,h2,Calls.callWith_builtin rfl (PySem.evalArgs_none (hm pins s1 σ H1 x [] v [] Q I1 r1 .nil q1))⟩
theorem AC(pa:PlainAttrs T)(slot:Slot T name id)(hty:typeOf (.builtin id)=pure (.type "method_descriptor"))(hm:CD X id r)(ho:PE X o to)(ha:PA X (e::es) t)
  (hbase:attributeBase o name X.env (eval o X.env)=eval o X.env:=by rfl)
  (hfew:((backTo cpos (starEach (e::es) X.env)).all (fun x=> !x.1)&&(backToKw cpos (keywordEach [] X.env)).all (fun x=>x.1.isSome)
   &&decide ((e::es).length+([]:List Keyword).length+(if([]:List Keyword).isEmpty then 0 else 1)<30))=true:=by rfl)
  (hline:(apos.endLine==cpos.line)=true:=by rfl)(hs:starEach (e::es) X.env=(false,eval e X.env)::starEach es X.env:=by rfl)(hplain:(backTo cpos (starEach es X.env)).any (·.1)=false:=by rfl):
  PE X (.Call (.Attribute o name apos) (e::es) [] cpos) (CM X.K T r to t):=by
 intro pins s σ H Q I h
 refine wpAny_Call_method_late hbase hfew hline rfl (bC (ho pins s σ H _ I h) fun v s1 hp=>?_)
 obtain⟨x,H1,I1,r1,ty,q1⟩:=hp
 obtain⟨h1,h2⟩:=rN I1 r1 ty
 refine⟨T,id,pa,slot,hty,h1,h2,?_⟩
 have hA:=ha cpos pins s1 σ H1 _ I1 q1
 rw[hs] at hA ⊢
 refine Calls.callWith_builtin (by show(false||(backTo cpos (starEach es X.env)).any (·.1))=false;rw[hplain]<;>rfl) (Calls.evalArgs_plain ?_)
 exact bC hA fun us s2 ⟨vs,H2,I2,r2,q2⟩=>hm pins s2 σ H2 x vs v us Q I2 r1 r2 q2
end
noncomputable def CF(X:Cx)(id:String)(r:V→List V→Hp→VK→Prop):Prop:=
 ∀(pins:List (Addr×Obj))(s:Shared)(σ:St)(H:Hp)(x:V)(xs:List V) (v:Value) (us:List Value)(Q:VK),Inv X pins σ H s→RelV x v→bj xs us→r x xs H Q→
  wpAny (model X.prog X.w) X.A (call (.builtin id) (v::us)) (EP X pins σ Q) X.xe s
theorem bj.one:∀{x:V}{us:List Value},bj [x] us→∃u,us=[u]∧RelV x u
 |_,_,.cons r .nil=>⟨_,rfl,r⟩
theorem bj.zero:∀{us:List Value},bj [] us→us=[]
 |_,.nil=>rfl
theorem bj.dropLast{xs:List V}(h:bj xs us):bj xs.dropLast us.dropLast:=by
 induction h with
 |nil=>exact .nil
 |cons r t ih=>
  cases t with
  |nil=>exact .nil
  |cons q t'=>exact .cons r ih
theorem bj.rep{xs:List V}(h:bj xs us):∀k:Nat,bj (List.replicate k xs).flatten (List.replicate k us).flatten
 |0=>.nil
 |k+1=>by
  rw[List.replicate_succ,List.replicate_succ,List.flatten_cons,List.flatten_cons]
  exact bj.append h (bj.rep h k)
theorem oK{α:Type}(l:List α):l.eraseIdx (l.length - 1)=l.dropLast:=by
 induction l with
 |nil=>rfl
 |cons a r ih=>
  cases r with
  |nil=>rfl
  |cons b r=>
   have e:(a::b::r).length - 1=((b::r).length - 1)+1:=by
    have h1:(a::b::r).length=r.length+2:=rfl
    have h2:(b::r).length=r.length+1:=rfl
    omega
   rw[e,List.eraseIdx_cons_succ,ih]
   all_goals rfl
theorem foldl_rep(its:List Value):∀(k:Nat)(acc:List Value),
  List.foldl (fun x1 x2=>x1++x2) acc.toArray (List.replicate k its.toArray)=(acc++(List.replicate k its).flatten).toArray
 |0,acc=>by simp
 |k+1,acc=>by
  have e:acc.toArray++its.toArray=(acc++its).toArray:=by simp
  have e2:(acc++its)++(List.replicate k its).flatten=acc++(List.replicate (k+1) its).flatten:=by
   rw[List.replicate_succ,List.flatten_cons,List.append_assoc]
  rw[←e2,←foldl_rep its k (acc++its),←e,List.replicate_succ,List.foldl_cons]
section
variable{X:Cx}{pins:List (Addr×Obj)}{σ:St}{H:Hp}{s:Shared}{l:Addr}{xs ys:List V}
theorem Inv.lset{its':List Value}{f:Array Value→Array Value}(I:Inv X pins σ H s)(hH:H l=some (.lst xs))
  (e:s.heap.get? l=some {cls:= .type "list",data:= .seq its.toArray n}) (hf:f its.toArray=its'.toArray)(hv:bj ys its')(hz:ys.length≤sizeLine):
  Inv X pins σ (bm H l (.lst ys)) {s with heap:=s.heap.update l (Obj.mapSeq f),toks:=t'}:=by
 have q:=PySem.IsL.update e f
 rw[hf] at q
 refine I.write (x:=l) (e:=l) (by rw[hH];exact trivial) (.inl rfl) (fun b' u hb hu=>(Heap.get?_update_other s.heap (Obj.mapSeq f) (Ne.symm hb)).trans hu) ⟨_,q⟩ ?_
 exact⟨hz,its',_,hv,q⟩
theorem Inv.lnew(I:Inv X pins σ H s)(hv:bj ys its)(hz:ys.length≤sizeLine):
  Inv X pins σ (bm H s.heap.objs.size (.lst ys)) {s with heap:=s.heap.push {cls:= .type "list",data:= .seq its.toArray},toks:=t'}:=
 I.laid (fun _ _ q=>ac _ q) (af _) ⟨hz,its,0,hv,aq _ rfl⟩
theorem Inv.fresh(I:Inv X pins σ H s):H s.heap.objs.size=none:=I.hok.fresh (af _)
theorem Inv.lstM(I:Inv X pins σ H s)(hH:H l=some (.lst xs)):xs.length≤sizeLine∧∃(its:List Value)(n:Nat),bj xs its∧xs.length=its.length∧s.heap.get? l=some {cls:= .type "list",data:= .seq its.toArray n}:=by
 obtain⟨z,its,n,r,e⟩:=I.hok l _ hH
 exact⟨z,its,n,r,r.length,e⟩
theorem s_(h:n≤sizeLine):Builtin.List.listTooLong n=false:=by
 unfold Builtin.List.listTooLong
 exact decide_eq_false (by omega)
end
section
variable{X:Cx}
noncomputable def vP:V→List V→Hp→VK→Prop:=fun x vs H Q=>∃l xs y,x=.ref l∧vs=[y]∧H l=some (.lst xs)∧xs.length<sizeLine∧Q .non (bm H l (.lst (xs++[y])))
theorem iB:CF X "list.append" vP:=by
 intro pins s σ H x vs v us Q I rx rv h
 obtain⟨l,xs,y,rfl,rfl,hH,hz,q⟩:=h
 cases rx
 obtain⟨u,rfl,ru⟩:=rv.one
 obtain⟨z,its,n,r,hl,e⟩:=I.lstM hH
 refine call_meets F.slot_list_append ⟨_,e,rfl⟩ F.entry_list_append (F.args_list_append_2 _ _) (PySem.list_append l its.toArray n u (by rw[List.size_toArray];omega)) ⟨e,?_⟩
 refine⟨.non,_,I.lset (its':=its++[u]) hH e (by simp) (r.append (.cons ru .nil)) ?_,rfl,q⟩
 rw[aO,List.length_singleton]
 omega
noncomputable def BV:V→List V→Hp→VK→Prop:=fun x vs H Q=>∃l xs y,x=.ref l∧vs=[]∧H l=some (.lst xs)∧xs[xs.length - 1]? =some y∧Q y (bm H l (.lst xs.dropLast))
theorem yB:CF X "list.pop" BV:=by
 intro pins s σ H x vs v us Q I rx rv h
 obtain⟨l,xs,y,rfl,rfl,hH,hy,q⟩:=h
 cases rx
 have hus:=rv.zero
 subst hus
 obtain⟨z,its,n,r,hl,e⟩:=I.lstM hH
 obtain⟨u,hu,ru⟩:=r.get hy
 have hy':its.toArray[its.toArray.size - 1]? =some u:=by
  show its.toArray[its.length - 1]? =some u
  rw[←Array.getElem?_toList,←hl]
  exact hu
 refine call_meets F.slot_list_pop ⟨_,e,rfl⟩ F.entry_list_pop (F.args_list_pop_1 _) (MeetsSeq.list_pop_last l its.toArray n u hy' (by rw[List.size_toArray];omega)) ⟨e,?_⟩
 refine⟨y,_,I.lset (its':=its.dropLast) hH e ?_ r.dropLast ?_,ru,q⟩
 ·show its.toArray.eraseIdxIfInBounds (its.toArray.size - 1)=its.dropLast.toArray
  rw[List.size_toArray,List.eraseIdxIfInBounds_toArray,oK]
 ·rw[List.length_dropLast]
  omega
noncomputable def BZ:R2:=fun x y H Q=>∃l b xs zs,x=.ref l∧y=.ref b∧H l=some (.lst xs)∧H b=some (.lst zs)∧xs.length+zs.length≤sizeLine∧∀p,H p=none→Q (.ref p) (bm H p (.lst (xs++zs)))
theorem yu:jh X (binaryOp .Add) BZ:=by
 intro pins s σ H x y v u Q I rx ry h
 obtain⟨l,b,xs,zs,rfl,rfl,hH,hB,hz,q⟩:=h
 cases rx
 cases ry
 obtain⟨z,its,n,r,hl,e⟩:=I.lstM hH
 obtain⟨z2,its2,n2,r2,hl2,e2⟩:=I.lstM hB
 refine PySem.P.add_list e e2 ?_ (by rw[List.size_toArray,List.size_toArray];omega)
 have ea:its.toArray++its2.toArray=(its++its2).toArray:=by simp
 rw[ea]
 exact⟨.ref _,_,I.lnew (t':=s.toks) (r.append r2) (by rw[aO];omega),rfl,q _ I.fresh⟩
noncomputable def BU:R2:=fun x y H Q=>∃l k xs,x=.ref l∧y=.int k∧H l=some (.lst xs)∧ -(2^63)≤k∧k<2^63∧xs.length*k.toNat≤sizeLine∧
 ∀p,H p=none→Q (.ref p) (bm H p (.lst (List.replicate k.toNat xs).flatten))
theorem len_rep{α:Type}(xs:List α)(k:Nat):(List.replicate k xs).flatten.length=k*xs.length:=by
 induction k with
 |zero=>simp
 |succ k ih=>rw[List.replicate_succ,List.flatten_cons,aO,ih,Nat.succ_mul,Nat.add_comm]
theorem yr:jh X (binaryOp .Mult) BU:=by
 intro pins s σ H x y v u Q I rx ry h
 obtain⟨l,k,xs,rfl,rfl,hH,h1,h2,hz,q⟩:=h
 cases rx
 obtain⟨t,rfl⟩:=ry
 obtain⟨z,its,n,r,hl,e⟩:=I.lstM hH
 have hlen:its.toArray.size*k.toNat≤sizeLine:=by rw[List.size_toArray,←hl];exact hz
 have hcap:¬its.toArray.size*k.toNat>(2^63 - 1) / 8:=by
  have:(sizeLine:Nat)≤(2^63 - 1) / 8:=by decide
  omega
 have hfit:¬(!Builtin.List.listFitsIndex k)=true:=by
  rw[fitsIndex_both h1 h2]
  exact av
 have hlong:¬Builtin.List.listTooLong (its.toArray.size*k.toNat)=true:=by
  rw[s_ hlen]
  exact av
 have hnew:List.foldl (fun x1 x2=>x1++x2) #[] (List.replicate (if its.toArray.isEmpty=true then 0 else k.toNat) its.toArray)=(List.replicate k.toNat its).flatten.toArray:=by
  have f0:∀m:Nat,List.foldl (fun x1 x2=>x1++x2) #[] (List.replicate m its.toArray)=(List.replicate m its).flatten.toArray:=fun m=>by
   have:=foldl_rep its m []
   rw[List.nil_append] at this
   exact this
  rw[f0]
  cases its with
  |nil=>simp
  |cons a r'=>rw[if_neg (by simp)]
 refine wpAny_binaryOp_repeat_ref (T:= "list") (U:= "int") (by decide) ⟨_,e,rfl⟩ (fun s'=>typeIs_int s' k t) noFill_list_mul F.fills_int_mul F.slot_int_rmul repeat_list F.slot_int_index.lookup
  (call_meets F.slot_int_rmul (typeIs_int s k t) F.entry_int_rmul (F.args_int_rmul_2 _ _) (int___rmul___int_list k t l its.toArray n)
   ⟨e,rfl,⟨_,e,rfl⟩,call_meets F.slot_list_mul ⟨_,e,rfl⟩ F.entry_list_mul (F.args_list_mul_2 _ _) (AutoListH.list___mul___list_int_3 l its.toArray n k t hfit hcap hlong) ⟨e,?_⟩⟩)
 rw[hnew]
 exact⟨.ref _,_,I.lnew (t':=s.toks) (r.rep k.toNat) (by rw[len_rep,Nat.mul_comm];exact hz),rfl,q _ I.fresh⟩
end
section
end
section
end
end L2
namespace Att
open PySem PySem.W PySem.Calls PyProof.Rows
theorem iU{P:Params}{h:Heap}:∀(ns:List Int)(vs:List Value),WellAll P h vs (ns.map WData.int)→IntsAre vs ns:=by
 intro ns
 induction ns with
 |nil=>
  intro vs w
  rw[List.map_nil] at w
  cases w
  exact .nil
 |cons n ns ih=>
  intro vs w
  rw[List.map_cons] at w
  cases w with
  |cons a b=>
   cases a
   exact .cons _ _ (ih _ b)
theorem qu{l:OpenLaw}{n:Nat}(hn:l.most=some n){P:Params}{h:Heap}{args:List WData}{vals:List Value}
  (hpre:l.row.toRowW.claim.pre args=true)(hwl:WellAll P h vals args):
  ∃a vs ns,vals=[Value.ref a]∧args=[WData.list (ns.map WData.int)]∧h.get? a=some {cls:= .type "list",data:= .seq vs.toArray}∧IntsAre vs ns∧ns.length≤n:=by
 have hsh:WShape.hasAll [] args [.list .int]=true:=(pre_splitW hpre).1
 have hc:l.pre.holds [] {args:=args}=true:=(pre_splitW hpre).2
 obtain⟨d,r,rfl,h1,h2⟩:=hasAllW_cons hsh
 obtain rfl:=hasAllW_nil h2
 obtain⟨xs,rfl,h3⟩:=hasW_list h1
 obtain⟨ns,rfl⟩:=items_int h3
 have hlen:ns.length≤n:=by
  unfold OpenLaw.pre at hc
  have h4:(WTm.not (.lt (.lit (.int (n:Int))) (.len (.arg 0)))).holds [] {args:=[.list (ns.map .int)]}=true:=by
   have h4:=(holds_andW hc).1
   rw[hn] at h4
   exact h4
  have h5:=condW_of h4 (w_not (w_lt w_lit (w_len_list (w_arg rfl))))
  rw[List.length_map] at h5
  refine Nat.le_of_not_lt fun q=>?_
  have q':(n:Int)<((ns.length:Nat):Int):=by omega
  first
   |(rw[decide_eq_true q'] at h5;exact absurd h5 (by decide))
   |(simp at h5;omega)
 cases hwl with
 |cons w1 w2=>
  cases w2
  cases w1 with
  |list ho hall=>exact⟨_,_,ns,rfl,rfl,ho,iU ns _ hall,hlen⟩
theorem qA(l:OpenLaw)(args:List WData):l.row.toRowW.claim.post args (.bool true) args=true:=
 postW_of (r:=l.row.toRowW) (X:=(true==true))
  (show WShape.has [] (.bool true) .bool=true by first|rfl|decide|simp[WShape.has,WShape.arms,WShape.armsAll])
  (show(WTm.eq .res (.lit (.bool true))).value [] {args:=args,res:=some (.bool true),after:=args}=some (.bool (true==true)) from w_eq_bool (w_res rfl) w_lit) rfl
theorem nv{l:OpenLaw}{n:Nat}{q:Program}{loose:List Str}{XP:(Str→Option Value)→Heap→Prop}{YP:World→Heap→Prop}{d:DefRec}
  (hn:l.most=some n)(hdf:d.params.defaults=[])
  (call:∀(w:World)(s₀ s₁:Shared)(mg mb:Str→Option Value)(fa:Addr)(o:Obj)(pm cd doc:Value)(a:Addr)(vs:List Value) (ns:List Int),
   Ground q loose [] XP w s₀ mg mb s₁.heap→YP w s₁.heap→
   s₁.heap.get? fa=some o→o.data=.func (docDef d.name d.params d.body d.scope pm cd doc)→s₁.heap.CodeRec cd d.name→mg d.name=some (.ref fa)→
   s₁.heap.get? a=some {cls:= .type "list",data:= .seq vs.toArray}→IntsAre vs ns→ns.length≤n→s₁.gens= #[]→
   codeAny (model l.prog w) callerA (.call (.ref fa) ⟨[.ref a],[]⟩) (fun r s'=>r=.ok (.ret (.bool true))∧OldK s₁.heap s'.heap∧s'.os=s₁.os∧AllBare s'.gens) s₁):
  WalkO q loose XP YP l.row.toRowW d [] (fun f vs=>PySem.call f vs):=by
 intro w s₀ s₁ mg mb G Y fa o pm cd doc dV kV ho hd hcd hD hmg hg args vals as hpre hlay hrd hwl hlo
 obtain rfl:dV=.none:=Dflts.none hD hdf
 obtain rfl:kV=.none:=Dflts.noKw hD
 obtain⟨a,vs,ns,rfl,rfl,hobj,hints,hlen⟩:=qu hn hpre hwl
 refine enter_call (codeAny_mono (call w s₀ s₁ mg mb fa o pm cd doc a vs ns G Y ho (fd_plain hd) hcd hmg hobj hints hlen hg) fun r s' hq=>?_)
 obtain⟨rfl,h2,h3,h4⟩:=hq
 exact⟨.inl ⟨.bool true,.bool true,[],rfl,fun _=>rfl,.bool true,qA l _,fun _=>⟨List.Pairwise.nil,fun _ hm=>(nomatch hm)⟩⟩,h2,h3,h4⟩
section
end
end Att
namespace L2
open PySem PySem.Spec PyProof.Rows
variable{qual x:Str}{a f:Addr}{w:World}{P:Program}{u:Value}{y:V}{xs:List (List Key×Addr×Value)}{kvs:List (List Key×V)}{H H':Hp}
theorem ki:∀{vs:List Value}{ns:List Int},IntsAre vs ns→bj (ns.map V.int) vs
 |_,_,.nil=>.nil
 |_,_,.cons n t h=>.cons ⟨t,rfl⟩ (ki h)
noncomputable def wO(H:Hp):Prop:=∀b,H b=none∨∃o xs,H b=some (.frz o (.lst xs))
theorem tH{K:ao}{mg mb:Str→Option Value}{CX:uK}{k:Nat}{fa:Addr}{fd:FuncData}{sp:Sp}{s₁:Shared}{vs:List Value}{ns:List Int}
  (KX:K.In s₁.heap)(hns:s₁.heap.Ns mainGlobals mg)(hb:s₁.heap.Ns builtinsNs mb)(hbb:∀x:Str,x≠ "__name__" →mb x=bootBuiltins x) (hlim:s₁.heap.NoLimit)(hg:s₁.gens= #[])
  (ha:s₁.heap.get? a=some {cls:= .type "list",data:= .seq vs.toArray}) (hi:IntsAre vs ns)(hl:ns.length≤sizeLine)(hr:Room k callerA)
  (F:∀base:Heap,K.In base→base.Ns mainGlobals mg→FnOk P w K mg base CX k fa fd [x] sp)(hbind:∀(s:Shared)(u:Value),BindsTo s fd ⟨[u],[]⟩ [(x,u)])
  (hsp:∀H:Hp,wO H→dz K H a (ns.map V.int)→sp [.ref a] H (fun v _=>v=.bl true) fun _ _ _=>False)
  (hCX:∀H e s',CX [] H s₁ (fun _ _ _=>False) e s'→False):
  codeAny (model P w) callerA (.call (.ref fa) ⟨[.ref a],[]⟩) (fun r s'=>r=.ok (.ret (.bool true))∧OldK s₁.heap s'.heap∧s'.os=s₁.os∧AllBare s'.gens) s₁:=by
 have rv:=ki hi
 have lenV:=hi.length
 have core:∀H:Hp,wO H→dz K H a (ns.map V.int)→ge P w H s₁.heap→(∀b,H b≠none→b=a)→(H a≠none→K.lookup a=none)→
   codeAny (model P w) callerA (.call (.ref fa) ⟨[.ref a],[]⟩) (fun r s'=>r=.ok (.ret (.bool true))∧OldK s₁.heap s'.heap∧s'.os=s₁.os∧AllBare s'.gens) s₁:=by
  intro H hO hS hok hA hK
  have base_of:∀{b:Addr}{o:Obj},s₁.heap.get? b=some o→H b=none→(lM s₁.heap H).get? b=some o:=fun e n=>tQ e n
  have noA:∀{b:Addr}{o:Obj}{es:Array DictEntry}{ep:Nat},s₁.heap.get? b=some o→o.data=.dict es ep→H b=none:=fun{b o es ep} e d=>by
   cases q:H b with
   |none=>rfl
   |some u=>
    have e':b=a:=hA b (by rw[q];simp)
    subst e'
    rw[ha] at e;cases e
    have d':Data.seq vs.toArray _=Data.dict es ep:=d
    cases d'
  have nsK:∀{b:Addr}{m:Str→Option Value},s₁.heap.Ns b m→(lM s₁.heap H).Ns b m:=fun{b m} ⟨o,es,ep,e,d,r⟩=>⟨o,es,ep,base_of e (noA e d),d,r⟩
  have hKb:K.In (lM s₁.heap H):=fun b o e=>base_of (KX b o e) (by
   cases q:H b with
   |none=>rfl
   |some u=>
    have e':b=a:=hA b (by rw[q];simp)
    subst e'
    rw[hK (by rw[q];simp)] at e;cases e)
  have hM:Mod K mg (lM s₁.heap H):=⟨hKb,nsK hns,⟨mb,nsK hb,hbb⟩,let⟨mc,h1,h2⟩:=hlim;⟨mc,nsK h1,h2⟩⟩
  have e0:Env0 P w K mg (lM s₁.heap H) callerA [] s₁ H:=⟨rfl,hM,fun b o e=>wb e,Nat.le_of_eq (qN _ _),trivial,fun b hb=>absurd (show b∈([]:List Addr) from hb) (by simp),hok,.of_eq hg⟩
  refine codeAny_mono ((F _ hKb (nsK hns)).run callerA [] s₁ H ⟨[.ref a],[]⟩ [.ref a] [.ref a] _ _ hr e0 (hbind s₁ (.ref a)) (.cons rfl .nil) (hsp H hO hS)) fun r s' h=>?_
  cases r with
  |error e=>exact(hCX H e s' h).elim
  |ok fl=>
   cases fl with
   |next=>exact False.elim h
   |brk=>exact False.elim h
   |cont=>exact False.elim h
   |ret u=>
    obtain⟨v,H',os,bare,un,hok',r',q⟩:=h
    have q':v=.bl true:=q
    subst q'
    obtain rfl:u=Value.bool true:=r'
    refine⟨rfl,OldK.of_keep fun b o e=>?_,os,bare⟩
    cases q:H b with
    |none=>exact un.keep b o e q (by intro z;exact absurd (show b∈([]:List Addr) from z) (by simp)) (by simp)
    |some u=>
     rcases hO b with z|⟨ob,xs,z⟩
     ·rw[q] at z;cases z
     ·have z2:=un.frzs b ob _ z
      obtain⟨e1,_⟩:=hok b _ z
      obtain⟨e2,_⟩:=hok' b _ z2
      rw[e] at e1;cases e1
      exact e2
 cases hk:K.lookup a with
 |some o=>
  have e:=KX a o hk
  rw[ha] at e
  cases e
  refine core (fun _=>none) (fun _=>.inl rfl) (.inr ⟨_,vs.toArray,_,hk,rfl,rfl,rfl,by rw[List.size_toArray,lenV];exact hl,by simpa using rv⟩) (fun b u z=>by have z':(none:Option HO)=some u:=z;cases z') (fun b z=>absurd rfl z) fun z=>absurd rfl z
 |none=>
  refine core (fun b=>if b=a then some (.frz {cls:= .type "list",data:= .seq vs.toArray} (.lst (ns.map V.int))) else none) (fun b=>?_) (.inl (.inr ⟨{cls:= .type "list",data:= .seq vs.toArray},if_pos rfl⟩)) (fun b u z=>?_) (fun b z=>?_) fun _=>hk
  ·by_cases hb:b=a
   ·exact .inr ⟨_,_,if_pos hb⟩
   ·exact .inl (if_neg hb)
  ·by_cases hb:b=a
   ·have z':=(if_pos hb).symm.trans z
    cases z'
    subst hb
    exact⟨ha,by rw[List.length_map];exact hl,vs,_,rv,ha⟩
   ·have z':=(if_neg hb).symm.trans z
    cases z'
  ·by_cases hb:b=a
   ·exact hb
   ·exact absurd (if_neg hb) z
theorem uO{l:PySem.W.OpenLaw}{n k:Nat}{q:Program}{loose:List Str}{XP:(Str→Option Value)→Heap→Prop}{YP:World→Heap→Prop}{d:DefRec}{K:Params→ao}{CX:World→uK}{sp:World→Sp}
  (hn:l.most=some n)(hn2:n≤sizeLine)(hdf:d.params.defaults=[])(hr:Room k callerA)
  (hY:∀(w:World)(h:Heap),YP w h→(K w.params).In h)
  (F:∀(w:World)(mg:Str→Option Value)(fa:Addr)(h:Heap),(K w.params).In h→h.Ns mainGlobals mg→mg d.name=some (.ref fa)→
   ∃fd:FuncData,(∀(s:Shared)(u:Value),BindsTo s fd ⟨[u],[]⟩ [(x,u)])∧
    ∀base:Heap,(K w.params).In base→base.Ns mainGlobals mg→FnOk l.prog w (K w.params) mg base (CX w) k fa fd [x] (sp w))
  (hsp:∀(w:World)(H:Hp)(a:Addr)(ns:List Int),ns.length≤n→wO H→dz (K w.params) H a (ns.map V.int)→sp w [.ref a] H (fun v _=>v=.bl true) fun _ _ _=>False)
  (hCX:∀(w:World)(H:Hp)(s:Shared)(e:Value)(s':Shared),CX w [] H s (fun _ _ _=>False) e s'→False):
  PySem.W.WalkO q loose XP YP l.row.toRowW d [] (fun f vs=>PySem.call f vs):=by
 refine Att.nv hn hdf fun w s₀ s₁ mg mb fa o pm cd doc a vs ns G Y ho hd hcd hmg hobj hints hlen hg=>?_
 have KX:=hY w _ Y
 obtain⟨fd,hb,hF⟩:=F w mg fa _ KX G.T.g hmg
 exact tH KX G.T.g G.T.b G.T.builtins G.T.nolimit hg hobj hints (aP hlen hn2) hr hF hb (fun H hO hS=>hsp w H a ns hlen hO hS) fun H e s'=>hCX w H s₁ e s'
noncomputable def fv(s:Stmt):Arguments:=match s with
 | .FunctionDef _ a _ _ _ _ _ _ _ _=>a
 |_=>{posonlyargs:=[],args:=[],vararg:=none,kwonlyargs:=[],kw_defaults:=[],kwarg:=none,defaults:=[]}
noncomputable def dN(s:Stmt):List Stmt:=match s with
 | .FunctionDef _ _ b _ _ _ _ _ _ _=>b
 |_=>[]
noncomputable def bM(s:Stmt):Scope:=match s with
 | .FunctionDef _ _ _ _ _ _ sc _ _ _=>sc
 |_=>{kind:= .function,names:=[],isGenerator:=false,isCoroutine:=false}
noncomputable abbrev E0:XK:=fun _ _ _=>False
structure Fun(K:ao)(x qual:Str)(st:Stmt)(f:Addr)(fd:FuncData):Prop where
 ex:∃(oc:Value)(od:Option Addr)(kV doc pm:Value)(an:Option Addr)(cdv ct:Value)(osl:Array (Option Value)),
  fd=PySem.W.fnOf x qual (fv st) (dN st) (bM st) .none kV doc pm an cdv ct∧K.lookup f=some ⟨oc,od,.func fd,osl⟩∧PySem.W.codeIn K cdv qual=true
 kp:PySem.W.keepIn K (.ref f)=true
section
variable{K:ao}
theorem Fun.binds{st:Stmt}{fd:FuncData}{ps:List Str}(F:Fun K x qual st f fd)
  (h:∀(kV doc pm:Value)(an:Option Addr)(cdv ct:Value)(us:List Value),us.length=ps.length→bindArgs (PySem.W.fnOf x qual (fv st) (dN st) (bM st) .none kV doc pm an cdv ct) ⟨us,[]⟩=pure (ps.zip us)):Binds K fd ps []:=by
 obtain⟨oc,od,kV,doc,pm,an,cdv,ct,osl,rfl,lk,hcd⟩:=F.ex
 exact .all (h kV doc pm an cdv ct)
theorem yT{st:Stmt}{oc:Value}{od an:Option Addr}{osl:Array (Option Value)}{kV doc pm cdv ct:Value}(l:K.lookup f=some ⟨oc,od,.func (PySem.W.fnOf x qual (fv st) (dN st) (bM st) .none kV doc pm an cdv ct),osl⟩)
  (c:PySem.W.codeIn K cdv qual=true)(k:PySem.W.keepIn K (.ref f)=true):Fun K x qual st f (PySem.W.fnOf x qual (fv st) (dN st) (bM st) .none kV doc pm an cdv ct):=⟨⟨oc,od,kV,doc,pm,an,cdv,ct,osl,rfl,l,c⟩,k⟩
end
section
end
theorem B4{A B:Prop}(h:A):if true=true then A else B:=by
 rw[if_pos rfl]
 exact h
set_option maxHeartbeats 4000000
set_option linter.unusedVariables false
section
variable{κ:Type}[DecidableEq κ]
noncomputable def fH(kvs:List (κ×V))(k:κ):Option V:=(kvs.find? fun kv=>decide (kv.1=k)).map (·.2)
noncomputable def putK(kvs:List (κ×V))(k:κ)(v:V):List (κ×V):=
 if(kvs.any fun kv=>decide (kv.1=k))=true then kvs.map (fun kv=>if kv.1=k then(kv.1,v) else kv) else kvs++[(k,v)]
theorem rL{k:κ}:fH ([]:List (κ×V)) k=none:=rfl
theorem fR{p:κ×V}{r:List (κ×V)}{k:κ}(e:p.1=k):fH (p::r) k=some p.2:=by simp[fH,List.find?_cons,e]
theorem dR{p:κ×V}{r:List (κ×V)}{k:κ}(e:¬p.1=k):fH (p::r) k=fH r k:=by simp[fH,List.find?_cons,e]
theorem jp(k:κ):∀kvs:List (κ×V),(kvs.any fun kv=>decide (kv.1=k))=(fH kvs k).isSome
 |[]=>rfl
 |p::r=>by
  rw[List.any_cons]
  by_cases e:p.1=k
  ·simp only[fR e,decide_eq_true e,Bool.true_or,Option.isSome_some]
  ·rw[dR e,decide_eq_false e,Bool.false_or];exact jp k r
theorem fX(kvs:List (κ×V))(k:κ)(v:V):(putK kvs k v).length≤kvs.length+1:=by
 unfold putK
 split
 ·rw[List.length_map];omega
 ·rw[aO,List.length_cons,List.length_nil];omega
theorem sF{kvs:List (κ×V)}{k:κ}(v:V)(h:fH kvs k=none):putK kvs k v=kvs++[(k,v)]:=by
 unfold putK
 rw[jp,h]
 exact if_neg (by decide)
theorem eO.isSome_eq{o:Option V}{u:Option Value}(r:eO o u):o.isSome=u.isSome:=by
 cases o with
 |none=>cases u with
  |none=>rfl
  |some _=>exact(show False from r).elim
 |some _=>cases u with
  |none=>exact(show False from r).elim
  |some _=>rfl
theorem KV.val{kvs:List (κ×V)}{vs:List (κ×Value)}(r:KV kvs vs)(k:κ):eO (fH kvs k) (valueAt vs k):=by
 unfold KV at r
 induction r with
 |nil=>exact True.intro
 | @cons p q ps qs h t ih=>
  obtain⟨h1,h2⟩:=h
  by_cases e:p.1=k
  ·have e':q.1=k:=h1.symm.trans e
   have b:valueAt (q::qs) k=some q.2:=by simp[valueAt,List.find?_cons,e']
   rw[fR e,b];exact h2
  ·have e':¬q.1=k:=fun z=>e (h1.trans z)
   have b:valueAt (q::qs) k=valueAt qs k:=by simp[valueAt,List.find?_cons,e']
   rw[dR e,b];exact ih
theorem KV.any{kvs:List (κ×V)}{vs:List (κ×Value)}(r:KV kvs vs)(k:κ):(kvs.any fun kv=>decide (kv.1=k))=vs.any fun kv=>decide (kv.1=k):=by
 unfold KV at r
 induction r with
 |nil=>rfl
 |cons h t ih=>rw[List.any_cons,List.any_cons,ih,h.1]
theorem KV.repl{kvs:List (κ×V)}{vs:List (κ×Value)}(r:KV kvs vs)(k:κ)(ry:RelV y u):
  KV (kvs.map fun kv=>if kv.1=k then(kv.1,y) else kv) (vs.map fun kv=>if kv.1=k then(kv.1,u) else kv):=by
 unfold KV at r ⊢
 induction r with
 |nil=>exact .nil
 | @cons p q ps qs h t ih=>
  rw[List.map_cons,List.map_cons]
  refine .cons ?_ ih
  obtain⟨h1,h2⟩:=h
  by_cases e:p.1=k
  ·rw[if_pos e,if_pos (h1.symm.trans e)];exact⟨h1,ry⟩
  ·rw[if_neg e,if_neg (fun z=>e (h1.trans z))];exact⟨h1,h2⟩
theorem KV.put{kvs:List (κ×V)}{vs:List (κ×Value)}(r:KV kvs vs)(k:κ)(ry:RelV y u):KV (putK kvs k y) (stored vs k u):=by
 unfold putK stored
 rw[r.any k]
 by_cases e:(vs.any fun kv=>decide (kv.1=k))=true
 ·rw[if_pos e,if_pos e];exact r.repl k ry
 ·rw[if_neg e,if_neg e];exact Paired.snoc r ⟨rfl,ry⟩
theorem KV.length{kvs:List (κ×V)}{vs:List (κ×Value)}(r:KV kvs vs):kvs.length=vs.length:=Paired.length r
end
theorem pV{k:Key}(r:RelV (kV k) u):(bH P w).is k u=true:=by
 cases k with
 |inl i=>obtain⟨t,e⟩:=(show ∃t,u=Value.int i t from r);subst e;exact iM P w i t
 |inr x=>obtain⟨t,e⟩:=(show ∃t,u=Value.str x t from r);subst e;exact mG P w x t
theorem ku{P:Program}{w:World}:∀{ks:List Key}{us:List Value},bj (ks.map kV) us→ItemsAre (bH P w) ks us
 |[],_,r=>by rw[List.map_nil] at r;cases r;exact .nil
 |k::ks,_,r=>by
  rw[List.map_cons] at r
  cases r with
  |cons h t=>exact .cons (pV h) (ku t)
noncomputable abbrev KT(H:Hp):List (List Key×V)→List (List Key×Addr×Value)→Prop:=Paired fun p q=>p.1=q.1∧H q.2.1=some (.tup (p.1.map kV))∧RelV p.2 q.2.2
theorem KT.val(r:KT H kvs xs)(k:List Key):eO (fH kvs k) ((atKey xs k).map (·.2)):=by
 induction r with
 |nil=>exact True.intro
 | @cons p q ps qs h t ih=>
  obtain⟨h1,_,h2⟩:=h
  by_cases e:p.1=k
  ·have e':q.1=k:=h1.symm.trans e
   have b:atKey (q::qs) k=some q.2:=by simp[atKey,List.find?_cons,e']
   rw[fR e,b];exact h2
  ·have e':¬q.1=k:=fun z=>e (h1.trans z)
   have b:atKey (q::qs) k=atKey qs k:=by simp[atKey,List.find?_cons,e']
   rw[dR e,b];exact ih
theorem KT.repl(r:KT H kvs xs)(k:List Key)(ry:RelV y u):
  KT H (kvs.map fun kv=>if kv.1=k then(kv.1,y) else kv) (xs.map (putAt k u)):=by
 induction r with
 |nil=>exact .nil
 | @cons p q ps qs h t ih=>
  rw[List.map_cons,List.map_cons]
  refine .cons ?_ ih
  obtain⟨h1,h2,h3⟩:=h
  unfold putAt
  by_cases e:p.1=k
  ·rw[if_pos e,if_pos (h1.symm.trans e)];exact⟨h1,h2,ry⟩
  ·rw[if_neg e,if_neg (fun z=>e (h1.trans z))];exact⟨h1,h2,h3⟩
theorem KT.put(r:KT H kvs xs)(k:List Key){b:Addr}(hb:H b=some (.tup (k.map kV)))(ry:RelV y u):
  KT H (putK kvs k y) (storedH xs k b u):=by
 have e:(kvs.any fun kv=>decide (kv.1=k))=(atKey xs k).isSome:=by
  rw[jp,(r.val k).isSome_eq,Option.isSome_map]
 unfold putK storedH
 rw[e]
 by_cases q:(atKey xs k).isSome=true
 ·rw[if_pos q,if_pos q];exact r.repl k ry
 ·rw[if_neg q,if_neg q];exact Paired.snoc r ⟨rfl,hb,ry⟩
theorem KT.keeps(r:KT H kvs xs)(ht:∀b ys,H b=some (.tup ys)→H' b=some (.tup ys)):KT H' kvs xs:=
 Paired.mapP r fun _ _ z=>⟨z.1,ht _ _ z.2.1,z.2.2⟩
section
variable{P:Program}{w:World}{H:Hp}{h:Heap}{a:Addr}
theorem wV{u:HO}(ok:ge P w H h)(e:Rd H a u):bx P w H h a u:=e.ok ok
theorem p9{kvs:List (Key×V)}(ok:ge P w H h)(e:Rd H a (.dK kvs)):kvs.length≤sizeLine∧(a==sysModules)=false∧∃vs,KV kvs vs∧h.DictOf (bH P w) a vs:=
 show bx P w H h a (.dK kvs) from wV ok e
theorem w_{kvs:List (Key×V)}(ok:ge P w H h)(e:H a=some (.dK kvs)):kvs.length≤sizeLine∧(a==sysModules)=false∧∃vs,KV kvs vs∧h.DictOf (bH P w) a vs:=p9 ok (.inl e)
theorem oz{ks:List Key}(ok:ge P w H h)(e:H a=some (.tup (ks.map kV))):(tupleKind (bH P w)).is h ks a:=by
 obtain⟨_,its,r,o,h1,h2,n,h3⟩:=(show bx P w H h a (.tup (ks.map kV)) from ok a _ e)
 exact⟨o,its.toArray,n,h1,h2,h3,by simpa using ku r⟩
theorem ul(ok:ge P w H h)(e:Rd H a (.dT kvs)):kvs.length≤sizeLine∧(a==sysModules)=false∧
  ∃xs,KT H kvs xs∧h.DictOfH (tupleKind (bH P w)) a xs:=by
 obtain⟨z,y,xs,r,o,es,ep,h1,h2,h3,h4,h5⟩:=(show bx P w H h a (.dT kvs) from wV ok e)
 refine⟨z,y,xs,r,o,es,ep,h1,h2,h3,h4,fun x hx=>?_,h5⟩
 have all:∀{l:List (List Key×V)}{m:List (List Key×Addr×Value)},KT H l m→∀x∈m,(tupleKind (bH P w)).is h x.1 x.2.1:=by
  intro l m q
  induction q with
  |nil=>intro x hx;exact nomatch hx
  | @cons p q ps qs hq t ih=>
   intro x hx
   rcases List.mem_cons.mp hx with e|hx
   ·subst e
    exact oz ok (by rw[←hq.1];exact hq.2.1)
   ·exact ih x hx
 exact all r x hx
theorem A_(ok:ge P w H h)(e:H a=some (.dT kvs)):kvs.length≤sizeLine∧(a==sysModules)=false∧
  ∃xs,KT H kvs xs∧h.DictOfH (tupleKind (bH P w)) a xs:=ul ok (.inl e)
end
noncomputable def rh(H:Hp)(a:Addr)(y:V)(r:Option V):Prop:=
 (∃kvs k,Rd H a (.dK kvs)∧y=kV k∧r=fH kvs k)∨∃kvs k b,Rd H a (.dT kvs)∧y=.ref b∧H b=some (.tup (k.map kV))∧r=fH kvs k
noncomputable def uJ(H:Hp)(a:Addr)(y v:V)(H':Hp):Prop:=
 (∃kvs k,H a=some (.dK kvs)∧y=kV k∧kvs.length<sizeLine∧H'=bm H a (.dK (putK kvs k v)))∨
 ∃kvs k b,H a=some (.dT kvs)∧y=.ref b∧H b=some (.tup (k.map kV))∧kvs.length<sizeLine∧H'=bm H a (.dT (putK kvs k v))
theorem rh.k{H:Hp}{a:Addr}{kvs:List (Key×V)}{k:Key}(e:H a=some (.dK kvs)):rh H a (kV k) (fH kvs k):= .inl ⟨kvs,k,.inl e,rfl,rfl⟩
theorem uJ.k{H:Hp}{a:Addr}{kvs:List (Key×V)}{k:Key}{v:V}(e:H a=some (.dK kvs))(hl:kvs.length<sizeLine):uJ H a (kV k) v (bm H a (.dK (putK kvs k v))):= .inl ⟨kvs,k,e,rfl,hl,rfl⟩
section
variable{X:Cx}{pins:List (Addr×Obj)}{σ:St}{H:Hp}{s:Shared}{a:Addr}{y v:V}{u r:Value}{o:Option V}{A:Around}{E:Value→Shared→Prop}
theorem Inv.big(I:Inv X pins σ H s):sysModules<s.heap.objs.size:=by
 have h:mainGlobals<s.heap.objs.size:=(I.mod.glob.keeps I.bk).lt
 exact Nat.lt_trans (by decide) h
theorem qY{Q:Value→Shared→Prop}(hu:A.units+1<cLine)(I:Inv X pins σ H s)(g:rh H a y (some v))(ry:RelV y u)(h:∀w' s',Inv X pins σ H s'→RelV v w'→Q w' s'):
  wpAny (model X.prog X.w) A (getItem (.ref a) u) Q E s:=by
 rcases g with⟨kvs,k,e,ey,l⟩|⟨kvs,k,b,e,ey,eb,l⟩
 ·subst ey
  obtain⟨z,hd,vs,rel,dd⟩:=p9 I.hok e
  obtain⟨w',hw,rw'⟩:=eO.some_of (v:=v) (o:=valueAt vs k) (by rw[l];exact rel.val k)
  exact wpAny_getItem_of (pV ry) dd.mapOf hw (h w' _ (I.tok _) rw')
 ·subst ey
  cases(show u=Value.ref b from ry)
  obtain⟨z,hd,xs,rel,dd⟩:=ul I.hok e
  obtain⟨w',hw,rw'⟩:=eO.some_of (v:=v) (o:=(atKey xs k).map (·.2)) (by rw[l];exact rel.val k)
  obtain⟨p,hp,hp2⟩:=Option.map_eq_some_iff.mp hw
  refine wpAny_getItem_heap (tupleKind_room_in1 hu) (oz I.hok eb) dd hp ?_
  rw[hp2]
  exact h w' _ (I.tok _) rw'
theorem lT{h':Heap}{t':Nat}{ob:HO}(I:Inv X pins σ H s)(mu:Bh (H a))(hs:Heap.SameBut a s.heap h')(he:∃q,h'.get? a=some q)(new:bx X.prog X.w (bm H a ob) h' a ob):
  Inv X pins σ (bm H a ob) {s with heap:=h',toks:=t'}:=
 I.write (x:=a) (e:=a) mu (.inl rfl) (fun b q hb z=>(hs.2 b hb).trans z) he new
theorem lS{h':Heap}{kvs:List (Key×V)}{vs:List (Key×Value)}(z:kvs.length≤sizeLine)(hd:(a==sysModules)=false)(rel:KV kvs vs)(dd:h'.DictOf (bH P w) a vs):
  bx P w H' h' a (.dK kvs):=⟨z,hd,vs,rel,dd⟩
theorem qX{Q:Unit→Shared→Prop}(hu:A.units+1<cLine)(I:Inv X pins σ H s)(g:uJ H a y v H')(ry:RelV y u)(rv:RelV v r)(h:∀s',Inv X pins σ H' s'→Q () s'):
  wpAny (model X.prog X.w) A (setItem (.ref a) u r) Q E s:=by
 rcases g with⟨kvs,k,e,ey,l,eH⟩|⟨kvs,k,b,e,ey,eb,l,eH⟩
 ·subst ey eH
  obtain⟨z,hd,vs,rel,dd⟩:=w_ I.hok e
  have hz:vs.length≤sizeLine:=by rw[←rel.length];exact z
  have hl:(putK kvs k v).length≤sizeLine:=by have:=fX kvs k v;omega
  refine wpAny_setItem_pairs (hsz:=hz) (pV ry) dd fun h' dd' hs=>h _ ?_
  have he:∃q,h'.get? a=some q:=let⟨q,_,_,hq,_⟩:=dd';⟨q,hq⟩
  exact lT I (by rw[e];exact True.intro) hs he (lS hl hd (rel.put k rv) dd')
 ·subst ey eH
  cases(show u=Value.ref b from ry)
  obtain⟨z,hd,xs,rel,dd⟩:=A_ I.hok e
  have hz:xs.length≤sizeLine:=by rw[←Paired.length rel];exact z
  have hl:(putK kvs k v).length≤sizeLine:=by have:=fX kvs k v;omega
  refine wpAny_setItem_heap (hsz:=hz) (tupleKind_room_in1 hu) (oz I.hok eb) dd fun h' dd' hs=>h _ ?_
  obtain⟨q,es,ep,hq,h2,h3,h4,_,h5⟩:=dd'
  refine lT I (by rw[e];exact True.intro) hs ⟨q,hq⟩ ⟨hl,hd,_,(rel.put k eb rv).keeps fun c ys ec=>?_,q,es,ep,hq,h2,h3,h4,h5⟩
  rw[az (dW ec e (fun z=>nomatch z))]
  exact ec
end
section
end
theorem m8{X:Cx}{pins:List (Addr×Obj)}{σ:St}{s:Shared}{o:Option V}(I:Inv X pins σ H s)(g:rh H a y o):s.TypeIs (.ref a) "dict":=by
 rcases g with⟨kvs,k,e,_,_⟩|⟨kvs,k,b,e,_,_,_⟩
 ·obtain⟨_,_,vs,_,dd⟩:=p9 I.hok e
  exact dd.typeIs
 ·obtain⟨_,_,xs,_,dd⟩:=ul I.hok e
  exact dd.typeIs
noncomputable def Ar(td ty tv:TE):TS:=fun D σ H=>tv σ H fun v H1=>td σ H1 fun x H2=>ty σ H2 fun y H3=>∃a H4,x=.ref a∧uJ H3 a y v H4∧D.nx σ H4
section
variable{X:Cx}{o i value:Expr}{pos pos':Pos}{td ty tv:TE}
theorem vX(hu:X.A.units+1<cLine)(ho:PE X o td)(hi:PE X i ty)(hv:PE X value tv)(hs:swapsWith value (some (.Subscript o i pos')) pos.line X.env=pure false):
  PS X (.Assign [.Subscript o i pos'] value pos) (Ar td ty tv):=by
 intro pins s σ H D I h
 refine wpAny_Assign_Subscript (bC (hv pins s σ H _ I h) fun r s1 ⟨v,H1,I1,rv,q1⟩=>bC (ho pins s1 σ H1 _ I1 q1) fun u s2 ⟨x,H2,I2,rx,q2⟩=>bC (hi pins s2 σ H2 _ I2 q2) fun iv s3 ⟨y,H3,I3,ry,a,H4,ex,g,q3⟩=>?_) hs
 subst ex
 obtain rfl:u=Value.ref a:=rx
 exact qX hu I3 g ry rv fun s4 I4=>⟨σ,H4,I4,q3⟩
end
theorem um(h:Heap)(hb:sysModules<h.objs.size):bx P w H (h.push {cls:= .type "dict",data:= .dict #[]}) h.objs.size (.dK []):=
 ⟨Nat.zero_le _,beq_eq_false_iff_ne.mpr (Ne.symm (ak hb)),[],.nil,Heap.DictOf.new h⟩
section
end
noncomputable def k_:List (TE×TE)→St→Hp→(List (V×V)→Hp→Prop)→Prop
 |[],_,H,Q=>Q [] H
 |(tk,tv)::r,σ,H,Q=>tk σ H fun x H1=>tv σ H1 fun y H2=>k_ r σ H2 fun ps H3=>Q ((x,y)::ps) H3
noncomputable abbrev VV:List (V×V)→List (Value×Value)→Prop:=Paired fun p q=>RelV p.1 q.1∧RelV p.2 q.2
noncomputable def Bf(X:Cx)(pos:Pos)(keys:List (Option Expr))(values:List Expr)(trs:List (TE×TE)):Prop:=
 ∀(pins:List (Addr×Obj))(s:Shared)(σ:St)(H:Hp)(Q:List (V×V)→Hp→Prop),Inv X pins σ H s→k_ trs σ H Q→
  wpAny (model X.prog X.w) X.A (evalPairs (pairTrees keys values X.env pos)) (fun vs s'=>∃ps H',Inv X pins σ H' s'∧VV ps vs∧Q ps H') X.xe s
theorem vY{X:Cx}{pos:Pos}:Bf X pos [] [] []:=fun pins s σ H Q I h=>pairTrees_nil_walk ⟨[],H,I,.nil,h⟩
theorem sM{X:Cx}{pos:Pos}{k v:Expr}{ks:List (Option Expr)}{vs:List Expr}{tk tv:TE}{trs:List (TE×TE)}(hk:PE X k tk)(hv:PE X v tv)(hr:Bf X pos ks vs trs):
  Bf X pos (some k::ks) (v::vs) ((tk,tv)::trs):=fun pins s σ H Q I h=>
 pairTrees_cons_walk (bC (hk pins s σ H _ I h) fun u s1 ⟨x,H1,I1,rx,q1⟩=>bC (hv pins s1 σ H1 _ I1 q1) fun w2 s2 ⟨y,H2,I2,ry,q2⟩=>
  bC (hr pins s2 σ H2 _ I2 q2) fun ws s3 ⟨ps,H3,I3,rel,q3⟩=>⟨(x,y)::ps,H3,I3,.cons ⟨rx,ry⟩ rel,q3⟩)
noncomputable def fV(kvs more:List (Key×V)):List (Key×V):=more.foldl (fun acc kv=>putK acc kv.1 kv.2) kvs
theorem KV.merge:∀{more:List (Key×V)}{rs:List (Key×Value)}{kvs:List (Key×V)}{vs:List (Key×Value)},KV more rs→KV kvs vs→KV (fV kvs more) (merged vs rs):=by
 intro more rs kvs vs r
 unfold KV at r
 induction r generalizing kvs vs with
 |nil=>intro q;exact q
 | @cons p q ps qs h t ih=>
  intro r0
  have e:KV (putK kvs p.1 p.2) (stored vs q.1 q.2):=by
   have:=r0.put p.1 h.2
   rw[←h.1];exact this
  exact ih e
theorem gy:∀(more kvs:List (Key×V)),(fV kvs more).length≤kvs.length+more.length
 |[],kvs=>by show kvs.length≤kvs.length+0;omega
 |p::r,kvs=>by
  have h1:=gy r (putK kvs p.1 p.2)
  have h2:=fX kvs p.1 p.2
  show(fV (putK kvs p.1 p.2) r).length≤_
  rw[List.length_cons];omega
theorem jV{P:Program}{w:World}:∀{kvs:List (Key×V)}{ws:List (Value×Value)},VV (kvs.map fun kv=>(kV kv.1,kv.2)) ws→∃rs,Carries (bH P w) ws rs∧KV kvs rs
 |[],_,r=>by rw[List.map_nil] at r;cases r;exact⟨[],True.intro,.nil⟩
 |p::kvs,_,r=>by
  rw[List.map_cons] at r
  cases r with
  | @cons a b as bs h t=>
   obtain⟨rs,c,q⟩:=jV (P:=P) (w:=w) t
   obtain⟨b1,b2⟩:=b
   exact⟨(p.1,b2)::rs,⟨pV h.1,rfl,c⟩,.cons ⟨rfl,h.2⟩ q⟩
noncomputable def z9(trs:List (TE×TE)):TE:=fun σ H Q=>∀p,H p=none→k_ trs σ (bm H p (.dK [])) fun ps H2=>H2 p=some (.dK [])∧∃kvs:List (Key×V),ps=kvs.map (fun kv=>(kV kv.1,kv.2))∧kvs.length≤15∧Q (.ref p) (bm H2 p (.dK (fV [] kvs)))
theorem v5{X:Cx}{pos:Pos}{keys:List (Option Expr)}{values:List Expr}{trs:List (TE×TE)}(h:Bf X pos keys values trs)(hall:keys.all (·.isSome)=true)(hl:keys.length=values.length)(h0:keys≠[])
  (h15:keys.length≤15):PE X (.Dict keys values pos) (z9 trs):=by
 intro pins s σ H Q I q
 have hn:=I.hok.fresh (af s.heap.objs.size)
 have I1:=I.laid (a:=s.heap.objs.size) (o:= .dK []) (h':=s.heap.push {cls:= .type "dict",data:= .dict #[]}) (t':=s.toks) (fun _ _ q=>ac _ q) (af _) (um s.heap I.big)
 refine wpAny_Dict_walk (knd:=bH X.prog X.w) hall hl h0 h15 (bC (h pins _ σ _ _ I1 (q _ hn)) fun ws s2 hp=>?_)
 obtain⟨ps,H2,I2,rel,e,kvs,ep,lk,q2⟩:=hp
 subst ep
 obtain⟨rs,c,rk⟩:=jV (P:=X.prog) (w:=X.w) rel
 obtain⟨z,hd,vs0,r0,dd⟩:=w_ I2.hok e
 cases r0
 refine⟨rs,c,dd,fun h' dd' hs=>⟨.ref s.heap.objs.size,_,?_,rfl,q2⟩⟩
 have hz:(fV [] kvs).length≤sizeLine:=by
  have h1:=gy kvs []
  rw[List.length_nil] at h1
  rw[sizeLine_eq];omega
 have he:∃q,h'.get? s.heap.objs.size=some q:=let⟨q,_,_,hq,_⟩:=dd';⟨q,hq⟩
 exact lT I2 (by rw[e];exact True.intro) hs he (lS hz hd (rk.merge .nil) dd')
section
end
section
end
section
variable{X:Cx}{pins:List (Addr×Obj)}{σ:St}{H:Hp}{s:Shared}{a:Addr}{kvs:List (Key×V)}{A:Around}{E:Value→Shared→Prop}
theorem uq{Q:Value→Shared→Prop}(I:Inv X pins σ H s)(e:Rd H a (.dK kvs))(h:∀p s',H p=none→Inv X pins σ (bm H p (.dK kvs)) s'→Q (.ref p) s'):wpAny (model X.prog X.w) A (call (.type "dict") [.ref a]) Q E s:=by
 obtain⟨z,hd,vs,rel,dd⟩:=p9 I.hok e
 refine kt_call_dict hd dd (by rw[←rel.length];exact z) fun h' dd' hs=>?_
 refine h _ _ (I.hok.fresh (af _)) (I.laid (a:=s.heap.objs.size) (o:= .dK kvs) (t':=s.toks) (fun b q hq=>?_) (af _) (lS z (beq_eq_false_iff_ne.mpr (Ne.symm (ak I.big))) rel dd'))
 exact(hs.2 b (ak (ai hq))).trans (ac _ hq)
end
section
end
end L2
namespace PySem.SeqAt
open AutoSeq1 (wpAny_loadPart')
open MeetsSeq
variable{b l:Addr}
noncomputable def uI(h:Heap)(d:Addr):Prop:=∃es ep,h.get? d=some {cls:= .type "dict",dict:=none,data:= .dict es ep,slots:= #[]}
theorem fN(l b:Addr)(es:Array DictEntry)(ep:Nat)(items:Array Value)(n:Nat)(dd:Option Addr)(sl:Array (Option Value)):
  Meets (Builtin.«dict.__eq__» ⟨[.ref l,.ref b],[]⟩) (fun _ R s=>s.heap.get? l=some {cls:= .type "dict",dict:=none,data:= .dict es ep,slots:= #[]}∧s.heap.get? b=some {cls:= .type "list",dict:=dd,data:= .seq items n,slots:=sl}∧R (.ok (.ret .notImplemented)) s):=
 .of_wp fun prog w A R s h=>by obtain⟨hp,g,d,tk,os⟩:=s;obtain⟨hl,hb,h⟩:=h;have f1:=F.sub_list_dict;wp_walk using wpAny_loadPart' hl,wpAny_loadPart' hb;exact⟨_,rfl,h⟩
theorem fK(b l:Addr)(es:Array DictEntry)(ep:Nat)(items:Array Value)(n:Nat)(dd:Option Addr)(sl:Array (Option Value)):
  Meets (Builtin.«list.__eq__» ⟨[.ref b,.ref l],[]⟩) (fun _ R s=>s.heap.get? b=some {cls:= .type "list",dict:=dd,data:= .seq items n,slots:=sl}∧s.heap.get? l=some {cls:= .type "dict",dict:=none,data:= .dict es ep,slots:= #[]}∧R (.ok (.ret .notImplemented)) s):=
 .of_wp fun prog w A R s h=>by obtain⟨hp,g,d,tk,os⟩:=s;obtain⟨hb,hl,h⟩:=h;have f1:=F.sub_dict_list;wp_walk using wpAny_loadPart' hl,wpAny_loadPart' hb;exact⟨_,rfl,h⟩
theorem fM(l b:Addr)(es:Array DictEntry)(ep:Nat)(items:Array Value)(n:Nat)(dd:Option Addr)(sl:Array (Option Value)):
  Meets (Builtin.«dict.__ne__» ⟨[.ref l,.ref b],[]⟩) (fun _ R s=>s.heap.get? l=some {cls:= .type "dict",dict:=none,data:= .dict es ep,slots:= #[]}∧s.heap.get? b=some {cls:= .type "list",dict:=dd,data:= .seq items n,slots:=sl}∧R (.ok (.ret .notImplemented)) s):=
 .of_wp fun prog w A R s h=>by obtain⟨hp,g,d,tk,os⟩:=s;obtain⟨hl,hb,h⟩:=h;have f1:=F.sub_list_dict;wp_walk using wpAny_loadPart' hl,wpAny_loadPart' hb;exact⟨_,rfl,h⟩
theorem fJ(b l:Addr)(es:Array DictEntry)(ep:Nat)(items:Array Value)(n:Nat)(dd:Option Addr)(sl:Array (Option Value)):
  Meets (Builtin.«list.__ne__» ⟨[.ref b,.ref l],[]⟩) (fun _ R s=>s.heap.get? b=some {cls:= .type "list",dict:=dd,data:= .seq items n,slots:=sl}∧s.heap.get? l=some {cls:= .type "dict",dict:=none,data:= .dict es ep,slots:= #[]}∧R (.ok (.ret .notImplemented)) s):=
 .of_wp fun prog w A R s h=>by obtain⟨hp,g,d,tk,os⟩:=s;obtain⟨hb,hl,h⟩:=h;have f1:=F.sub_dict_list;wp_walk using wpAny_loadPart' hl,wpAny_loadPart' hb;exact⟨_,rfl,h⟩
section
variable{A:Around}{s:Shared}
theorem RcAt.dict_list{items:Array Value}(hl:uI s.heap l)(hb:s.heap.IsList b items)(hu:A.units<cLine):RcAt A s (.ref l) (.ref b) false:=fun prog w E Q h=>by
 obtain⟨es,ep,ho⟩:=hl
 obtain⟨⟨cls,dd,data,sl⟩,ho2,hc,n,hd⟩:=id hb
 simp only at hc hd
 subst hc hd
 have hne:l≠b:=fun e=>by subst e;rw[ho] at ho2;exact absurd ho2 (by simp)
 exact rc_eq_decline_or (k:=false) ⟨_,ho,rfl⟩ ⟨_,ho2,rfl⟩ (by decide) F.sub_list_dict F.slot_dict_eq F.slot_list_eq_refl
  (fun _ hq=>call_meets F.slot_dict_eq ⟨_,ho,rfl⟩ F.entry_dict_eq (F.args_dict_eq_2 _ _) (fN l b es ep items n dd sl) ⟨ho,ho2,hq⟩)
  (fun _ hq=>call_meets F.slot_list_eq_refl ⟨_,ho2,rfl⟩ F.entry_list_eq (F.args_list_eq_2 _ _) (fK b l es ep items n dd sl) ⟨ho2,ho,hq⟩)
  (fun _ hq=>wpAny_isSame_ref_other hne ho ho2 (by simp) hq) (.inr hu) h
theorem RcNeAt.dict_list{items:Array Value}(hl:uI s.heap l)(hb:s.heap.IsList b items)(hu:A.units<cLine):RcNeAt A s (.ref l) (.ref b) true:=fun prog w E Q h=>by
 obtain⟨es,ep,ho⟩:=hl
 obtain⟨⟨cls,dd,data,sl⟩,ho2,hc,n,hd⟩:=id hb
 simp only at hc hd
 subst hc hd
 have hne:l≠b:=fun e=>by subst e;rw[ho] at ho2;exact absurd ho2 (by simp)
 exact rc_ne_decline_or (k:=false) ⟨_,ho,rfl⟩ ⟨_,ho2,rfl⟩ (by decide) F.sub_list_dict F.slot_dict_ne F.slot_list_ne_refl
  (fun _ hq=>call_meets F.slot_dict_ne ⟨_,ho,rfl⟩ F.entry_dict_ne (F.args_dict_ne_2 _ _) (fM l b es ep items n dd sl) ⟨ho,ho2,hq⟩)
  (fun _ hq=>call_meets F.slot_list_ne_refl ⟨_,ho2,rfl⟩ F.entry_list_ne (F.args_list_ne_2 _ _) (fJ b l es ep items n dd sl) ⟨ho2,ho,hq⟩)
  (fun _ hq=>wpAny_isSame_ref_other hne ho ho2 (by simp) hq) (.inr hu) h
end
end PySem.SeqAt
namespace L2
open PySem PySem.Spec PyProof.Rows
variable{scope:Scope}{x y:Str}{pos ppos px spos:Pos}{ifs:List Expr}{elt iter tg:Expr}{s s':Shared}{X:Cx}{H H':Hp}{σ σ':St}{pins:List (Addr×Obj)}{fp:List Addr}{h':Heap}{use:Option (Value→Sem Unit)}{te:TE}{tc:TT}{wi:TI}
noncomputable def iH(cells:List (Str×Addr)):List (Str×NameKind)→List (Str×Addr)→List (Str×Addr)
 |[],cs=>cs
 |(n,k)::r,cs=>if k== .free then iH cells r ((n,(cells.lookup n).getD 0)::cs) else iH cells r cs
theorem h_{env:Env}:∀(names:List (Str×NameKind))(cs:List (Str×Addr)),(∀x∈names,x.2=.free→∃c,env.cells.lookup x.1=some c)→
  (forIn names cs fun(x:Str×NameKind)(r:List (Str×Addr))=>(do
   if x.2==NameKind.free then
    let a ←cellOf env x.1
    pure (ForInStep.yield ((x.1,a)::r))
   else pure (ForInStep.yield r):Sem (ForInStep (List (Str×Addr)))))=(pure (iH env.cells names cs):Sem (List (Str×Addr)))
 |[],cs,_=>rfl
 |(n,k)::r,cs,h=>by
  have ih:=fun cs=>h_ (env:=env) r cs fun x hx=>h x (List.mem_cons_of_mem _ hx)
  rw[List.forIn_cons]
  cases hk:(k==NameKind.free) with
  |true=>
   obtain⟨c,hc⟩:=h (n,k) List.mem_cons_self (by simpa using hk)
   have hc':env.cells.lookup n=some c:=hc
   simp only[iH,hk,if_true,cellOf,hc',Option.getD_some,pure_bind]
   exact ih _
  |false=>
   simp only[iH,hk,Bool.false_eq_true,if_false,pure_bind]
   exact ih _
theorem fE{env:Env}(h:∀x∈scope.names,x.2=.free→∃c,env.cells.lookup x.1=some c):closureFor scope env=pure (iH env.cells scope.names []):=by
 rw[←h_ scope.names [] h]
 unfold closureFor
 simp only[bind_pure]
theorem lU{cells:List (Str×Addr)}{y:Str}{c:Addr}:∀{names:List (Str×NameKind)}{cs:List (Str×Addr)},(iH cells names cs).lookup y=some c→((y,NameKind.free)∈names∧c=(cells.lookup y).getD 0)∨cs.lookup y=some c
 |[],cs,h=>.inr h
 |(n,k)::r,cs,h=>by
  unfold iH at h
  cases hk:(k==NameKind.free) with
  |true=>
   have hk':k=.free:=by simpa using hk
   subst hk'
   rw[if_pos (by rfl)] at h
   rcases lU h with⟨a,b⟩|q
   ·exact .inl ⟨List.mem_cons_of_mem _ a,b⟩
   ·cases hy:y==n with
    |true=>
     rw[List.lookup_cons,hy] at q
     have:y=n:=by simpa using hy
     subst this
     exact .inl ⟨List.mem_cons_self,(aj q).symm⟩
    |false=>rw[List.lookup_cons,hy] at q;exact .inr q
  |false=>
   rw[hk] at h
   rcases lU (by simpa using h) with⟨a,b⟩|q
   ·exact .inl ⟨List.mem_cons_of_mem _ a,b⟩
   ·exact .inr q
theorem gb{cells:List (Str×Addr)}{y:Str}:∀{names:List (Str×NameKind)}{cs:List (Str×Addr)},(∀c,cs.lookup y=some c→c=(cells.lookup y).getD 0)→((y,NameKind.free)∈names∨cs.lookup y=some ((cells.lookup y).getD 0))→
  (iH cells names cs).lookup y=some ((cells.lookup y).getD 0)
 |[],cs,_,h=>by
  rcases h with h|h
  ·simp at h
  ·exact h
 |(n,k)::r,cs,hc,h=>by
  unfold iH
  cases hk:(k==NameKind.free) with
  |true=>
   have hk':k=.free:=by simpa using hk
   subst hk'
   rw[if_pos (by rfl)]
   cases hy:y==n with
   |true=>
    have:y=n:=by simpa using hy
    subst this
    refine gb (fun c e=>?_) (.inr ?_)
    ·rw[List.lookup_cons,hy] at e;exact(aj e).symm
    ·rw[List.lookup_cons,hy]
   |false=>
    refine gb (fun c e=>?_) ?_
    ·rw[List.lookup_cons,hy] at e;exact hc c e
    ·rcases h with h|h
     ·rcases List.mem_cons.mp h with e|e
      ·injection e with e1 _
       rw[e1] at hy;simp at hy
      ·exact .inl e
     ·right;rw[List.lookup_cons,hy];exact h
  |false=>
   have h':(y,NameKind.free)∈r∨List.lookup y cs=some ((List.lookup y cells).getD 0):=by
    rcases h with h|h
    ·rcases List.mem_cons.mp h with e|e
     ·injection e with _ e2
      rw[←e2] at hk;simp at hk
     ·exact .inl e
    ·exact .inr h
   have q:=gb (names:=r) (cs:=cs) hc h'
   simpa using q
theorem bP{env:Env}{names:List (Str×NameKind)}{k:NameKind}:(names.map fun(n,k)=>if(k==NameKind.free&&env.scope.kind== .function&&env.kindOf n==some .cell) then(n,NameKind.cell) else(n,k)).lookup x=some k→
  names.lookup x=some k∨(k=.cell∧names.lookup x=some .free):=by
 induction names with
 |nil=>intro h;simp at h
 |cons p r ih=>
  obtain⟨n,k'⟩:=p
  intro h
  have h:List.lookup x ((if(k'==NameKind.free&&env.scope.kind== .function&&env.kindOf n==some .cell)=true then(n,NameKind.cell) else(n,k'))::_)=some k:=h
  cases hx:x==n with
  |true=>
   by_cases hc:(k'==NameKind.free&&env.scope.kind== .function&&env.kindOf n==some .cell)=true
   ·rw[if_pos hc] at h
    simp only[List.lookup_cons,hx] at h
    cases h
    refine .inr ⟨rfl,?_⟩
    simp only[List.lookup_cons,hx]
    simp only[Bool.and_eq_true] at hc
    have:k'=.free:=by simpa using hc.1.1
    rw[this]
   ·rw[if_neg hc] at h
    simp only[List.lookup_cons,hx] at h ⊢
    exact .inl h
  |false=>
   have h':List.lookup x (r.map fun(n,k)=>if(k==NameKind.free&&env.scope.kind== .function&&env.kindOf n==some .cell) then(n,NameKind.cell) else(n,k))=some k:=by
    by_cases hc:(k'==NameKind.free&&env.scope.kind== .function&&env.kindOf n==some .cell)=true
    ·rw[if_pos hc] at h;simpa only[List.lookup_cons,hx] using h
    ·rw[if_neg hc] at h;simpa only[List.lookup_cons,hx] using h
   simp only[List.lookup_cons,hx]
   exact ih h'
theorem iR{prog:Program}{w:World}{A:Around}{R:Result→Shared→Prop}{target:Expr}{it acc:Value}{env:Env}(I:Nat→Shared→Prop)
  (turn:∀n s,I n s→wpAny (model prog w) A (pyNext it) (fun r s₁=>match r with
   |none=>R (.ok .next) s₁
   |some v=>wpAny (model prog w) A (letOwnedTupleGo target it v) (fun _ s₁'=>wpAny (model prog w) A (assign target env v) (fun _ s₂=>
     wpAny (model prog w) A (forIn ifs true fun c r=>if r=true then do let ok ←isTrue c env (eval c env);pure (ForInStep.yield ok) else pure (ForInStep.yield r)) (fun ok s₃=>
      if ok=true then wpAny (model prog w) A (eval elt env) (fun x s₄=>
       wpAny (model prog w) A (call (.builtin "list.append") [acc,x]) (fun _ s₅=>∃m,m<n∧I m s₅) (notedBy (model prog w) A env fun e s'=>R (.error e) s') s₄) (notedBy (model prog w) A env fun e s'=>R (.error e) s') s₃
      else ∃m,m<n∧I m s₃) (notedBy (model prog w) A env fun e s'=>R (.error e) s') s₂) (notedBy (model prog w) A env fun e s'=>R (.error e) s') s₁') (notedBy (model prog w) A env fun e s'=>R (.error e) s') s₁) (notedBy (model prog w) A env fun e s'=>R (.error e) s') s)
  (n:Nat)(h:I n s):
  codeAny (model prog w) A (.compLoop (.ListComp elt [⟨target,iter,ifs,0⟩] scope pos) 0 it acc env) R s:=by
 refine codeAny_loop rfl I (fun n s hI=>?_) n h
 show wpAny _ A ((compTurn (.ListComp elt [⟨target,iter,ifs,0⟩] scope pos) 0 it acc env).onRaise (fun x=>do noteFrame x env;theTreesLotGoes x)) _ _ s
 refine wpAny_noted ?_
 rw[compTurn_list]
 refine aa (wpAny_standAt (aa (aJ (turn n s hI) (fun r s₁ h₁=>?_) fun _ _ h'=>h')))
 cases r with
 |none=>exact ae h₁
 |some v=>
  refine aa (aJ h₁ (fun _ s₁' h₁'=>?_) fun _ _ h'=>h')
  refine aa (aJ h₁' (fun _ s₂ h₂=>aa (aJ h₂ (fun ok s₃ h₃=>?_) fun _ _ h'=>h')) fun _ _ h'=>h')
  cases ok with
  |false=>exact ae ⟨rfl,h₃⟩
  |true=>
   exact aa (aa (aJ h₃ (fun x s₄ h₄=>aa (aJ h₄ (fun _ s₅ h₅=>ae (ae ⟨rfl,h₅⟩)) fun _ _ h'=>h')) fun _ _ h'=>h'))
noncomputable def bw(X:Cx)(x:Str)(scope:Scope)(fp:List Addr)(s:Shared)(H:Hp):Cx where
 prog:=X.prog
 w:=X.w
 K:=X.K
 mg:=X.mg
 base:=X.base
 A:=X.A
 N:=x::X.N
 s₀:=s
 H₀:=H
 env:=compEnvC scope (iH X.env.cells scope.names []) s.heap.objs.size X.env
 outer:=X.stack
 stack:=X.stack
 ex:=fp
 calm:=X.calm
 fn:=fun _=>false
 pn:=X.pn
 xe:=fun _ _=>False
structure CompScope(X:Cx)(x:Str)(scope:Scope):Prop where
 kind:scope.kind=.function
 nocell:∀y∈scope.names,y.2≠ .cell
 locs:∀y∈scope.names,y.2=.local→scope.names.lookup y.1=some .local
 own:scope.names.lookup x=some .local
 frees:∀y∈scope.names,y.2=.free→X.env.kindOf y.1=some .cell∨X.env.kindOf y.1=some .free
 apart:∀y∈scope.names,y.2=.local→y.1∉X.N
theorem CompScope.cells(C:CompScope X x scope)(ok:X.Ok):∀y∈scope.names,y.2=.free→∃c,X.env.cells.lookup y.1=some c:=fun y hy hf=>ok.has y.1 (C.frees y hy hf)
theorem CompScope.cell_of{c:Addr}(C:CompScope X x scope)(ok:X.Ok)(h:(iH X.env.cells scope.names []).lookup y=some c):(y,NameKind.free)∈scope.names∧X.env.cells.lookup y=some c:=by
 rcases lU h with⟨a,b⟩|q
 ·obtain⟨c',e⟩:=C.cells ok _ a rfl
  have e':X.env.cells.lookup y=some c':=e
  rw[e',Option.getD_some] at b
  exact⟨a,by rw[b];exact e'⟩
 ·simp at q
theorem hZ(I:Inv X pins σ H s)(C:CompScope X x scope)(hf:∀b∈fp,eQ X pins H b)(ho:∀b∈fp,∃o,s.heap.get? b=some o):
  (bw X x scope fp s H).Ok where
 mod:=I.ok.mod
 kind:=C.kind
 glob:=I.ok.glob
 blt:=I.ok.blt
 above:=af _
 inj:=fun y z c h1 h2=>I.ok.inj y z c (C.cell_of I.ok h1).2 (C.cell_of I.ok h2).2
 has:=fun y hy=>by
  have hy:(relabel scope X.env).names.lookup y=some .cell∨(relabel scope X.env).names.lookup y=some .free:=hy
  have hfr:scope.names.lookup y=some .free:=by
   rcases hy with hy|hy
   ·rcases bP hy with q|⟨_,q⟩
    ·exact absurd rfl (C.nocell _ (aD q))
    ·exact q
   ·rcases bP hy with q|⟨z,_⟩
    ·exact q
    ·cases z
  exact⟨_,gb (fun c e=>by simp at e) (.inl (aD hfr))⟩
 cab:=fun y c h _=>nomatch h
 hd:=I.ok.hd
 frames:=I.ok.frames
 stk:= .inl rfl
 exf:=fun b hb=>by
  obtain⟨o,e⟩:=ho b hb
  obtain⟨f0,f1,f2,f3,f4,f5⟩:=hf b hb
  exact⟨ak (ai e),fun y c h=>f4 y c (C.cell_of I.ok h).2⟩
 bs:=I.bs
 bsz:=aP I.ok.bsz I.sz
 noex:=fun b o e hb=>by
  obtain⟨f0,f1,f2,f3,f4,f5⟩:=hf b hb
  rcases f3 with z|z
  ·exact I.ok.noex b o e z
  ·exact absurd (am (ai (I.ok.bs b o e).1) z) (bg _)
 exfs:=fun b hb hs=>by
  obtain⟨f0,f1,f2,f3,f4,f5⟩:=hf b hb
  rcases List.mem_cons.mp (I.stkSub b hs) with z|z
  ·exact f1 z
  ·exact f2 z
 funs:=I.stack
 frf:=I.stkFree
theorem nh{tk:Nat}{m:Str→Option Value}(I:Inv X pins σ H s)(C:CompScope X x scope)(hf:∀b∈fp,eQ X pins H b)(ho:∀b∈fp,∃o,s.heap.get? b=some o)
  (hx:x∉X.N)(hn:h'.Ns s.heap.objs.size m)(k:∀b o,s.heap.get? b=some o→h'.get? b=some o):Inv (bw X x scope fp s H) pins (none::σ) H {s with heap:=h',toks:=tk}:=by
 refine⟨hZ I C hf ho,rfl,I.bare,Un.kept k,⟨m,hn,fun i y v h1 h2 h3=>?_⟩,fun y c h=>?_,I.hok.fresh (af _),fun y c h=>I.freeC y c (C.cell_of I.ok h).2,fun p hp=>?_,I.hok.kept k,?_⟩
 ·cases i with
  |zero=>simp at h2
  |succ i=>
   have h1:X.N[i]? =some y:=by simpa[bw] using h1
   have h2:σ[i]? =some (some v):=by simpa using h2
   have h3:(relabel scope X.env).names.lookup y=some .local∨(relabel scope X.env).names.lookup y=some .cell∨(relabel scope X.env).names.lookup y=some .free:=h3
   have hfr:scope.names.lookup y=some .free:=by
    rcases h3 with q|q|q
    ·rcases bP q with q|⟨z,_⟩
     ·exact absurd (al h1) (C.apart _ (aD q) rfl)
     ·cases z
    ·rcases bP q with q|⟨_,q⟩
     ·exact absurd rfl (C.nocell _ (aD q))
     ·exact q
    ·rcases bP q with q|⟨z,_⟩
     ·exact q
     ·cases z
   have hmem:=aD hfr
   obtain⟨m0,hn0,hl0⟩:=I.loc
   have hvis:Bp X.env.scope y:=by
    rcases C.frees _ hmem rfl with q|q
    ·exact .inr (.inl q)
    ·exact .inr (.inr q)
   obtain⟨u,r,l⟩:=hl0 i y v h1 h2 hvis
   refine⟨u,r,.inr ⟨?_,?_⟩⟩
   ·rcases h3 with q|q|q
    ·rcases bP q with q|⟨z,_⟩
     ·rw[hfr] at q;cases q
     ·cases z
    ·exact .inl q
    ·exact .inr q
   ·rcases l with⟨lk,_⟩|⟨_,c,hc,hcell⟩
    ·rcases C.frees _ hmem rfl with q|q
     ·rw[lk] at q;cases q
     ·rw[lk] at q;cases q
    ·refine⟨c,?_,?_⟩
     ·show(iH X.env.cells scope.names []).lookup y=some c
      have q:=gb (cells:=X.env.cells) (y:=y) (names:=scope.names) (cs:=[]) (fun c e=>by simp at e) (.inl hmem)
      rw[hc,Option.getD_some] at q
      exact q
     ·obtain⟨o,e,d⟩:=hcell
      exact⟨o,k _ _ e,d⟩
 ·obtain⟨v,o,e,d⟩:=I.cell y c (C.cell_of I.ok h).2
  exact⟨v,o,k _ _ e,d⟩
 ·obtain⟨e,n,ne,nf,d⟩:=I.pin p hp
  refine⟨k _ _ e,n,ak (ai e),fun z=>?_,d⟩
  rcases List.mem_cons.mp (I.stkSub _ z) with q|q
  ·exact ne q
  ·exact nf q
 ·show(none::σ).length=(x::X.N).length
  rw[List.length_cons,List.length_cons,I.len]
noncomputable def xq:TT:=fun _ H Q=>Q true H
noncomputable def uH(X:Cx)(ifs:List Expr)(t:TT):Prop:=
 ∀(pins:List (Addr×Obj))(s:Shared)(σ:St)(H:Hp)(Q:Bool→Hp→Prop),Inv X pins σ H s→t σ H Q→
  wpAny (model X.prog X.w) X.A (forIn ifs true fun c r=>if r=true then do let ok ←isTrue c X.env (eval c X.env);pure (ForInStep.yield ok) else pure (ForInStep.yield r)) (TP X pins σ Q) X.xe s
theorem lr:uH X [] xq:=fun _ _ _ H _ I h=>wpAny_tests_nil ⟨H,I,h⟩
theorem vR{c:Expr}{t:TT}(h:PT X c t):uH X [c] t:=fun pins s σ H Q I q=>wpAny_tests_one (h pins s σ H Q I q)
noncomputable def pp(wi:TI)(tc:TT)(te:TE):TE:=fun σ H Q=>wi σ H fun J H1=>∀D,H1 D=none→∃W:Nat→Nat→List V→Hp→Prop,(∃m,W 0 m [] (bm H1 D (.lst [])))∧∀i m ys H2,W i m ys H2→
 (J.stop i H2∧Q (.ref D) H2)∨(J.go i H2∧∃N:List V→Hp→Prop,(∀ys' H',N ys' H'→∃m',m'<m∧W (i+1) m' ys' H')∧
  ∀x H',J.yld i H2 x H'→tc (some x::σ) H' fun b H3=>if b=true then te (some x::σ) H3 fun y H4=>H4 D=some (.lst ys)∧ys.length<sizeLine∧N (ys++[y]) (bm H4 D (.lst (ys++[y]))) else N ys H3)
theorem nc(I:Inv X pins σ H s)(hf:∀b∈fp,eQ X pins H b)(J:Inv (bw X x scope fp s H) pins σ' H' s')
  (sb:Heap.SameBut s.heap.objs.size s'.heap h'):Inv X pins σ H' {s' with heap:=h'}:=by
 have hC:H' s.heap.objs.size=none:=J.free
 have ne:∀b o,s.heap.get? b=some o→b≠s.heap.objs.size:=fun b o e=>ak (ai e)
 have u:Un (eX X.stack) fp H H' s.heap h':=
  ⟨fun b o e n hb hx=>(sb.2 b (ne b o e)).trans (J.base.keep b o e n hb hx),fun b o e n hb hx=>by
    obtain⟨sl,q⟩:=J.base.slot b o e n hb hx
    exact⟨sl,(sb.2 b (ne b o e)).trans q⟩,J.base.free,fun b o e hx=>by
    obtain⟨o',q⟩:=J.base.there b o e hx
    exact⟨o',(sb.2 b (ne b o e)).trans q⟩,J.base.tups,J.base.frzs,J.base.tbls⟩
 have hok:ge X.prog X.w H' h':=fun b ob e=>by
  refine(J.hok b ob e).stay (fun c w' hc q=>(sb.2 c ?_).trans q) (fun _ q=>q) fun _ _ q=>q
  intro z
  rcases hc with y|y
  ·rw[z] at y;rw[←y,hC] at e;cases e
  ·rw[z,hC] at y;cases y
 exact I.call' (s':={s' with heap:=h'}) J.os u hok J.bare fun b hb=>⟨(hf b hb).2.2.2.1,(hf b hb).2.1,(hf b hb).2.2.2.2.1,(hf b hb).2.2.2.2.2⟩
theorem kI(hc:X.calm=true)(C:CompScope X x scope)(hx:x∉X.N)(hN:X.N.Nodup)
  (hi:PI X (.Name x px) iter wi)(ht:∀fp s H,uH (bw X x scope fp s H) ifs tc)(he:∀fp s H,PE (bw X x scope fp s H) elt te)
  (hs:∀x,foldedSetIterable iter X.env x=pure x){Q:VK}(I:Inv X pins σ H s)(h:pp wi tc te σ H Q){QQ:Value→Shared→Prop}
  (fin:∀{fp:List Addr}{s3 s5:Shared}{H3 H4:Hp}{D:Addr}{o:Option V},Inv X pins σ H3 s3→(∀b∈fp,eQ X pins H3 b)→Inv (bw X x scope fp s3 H3) pins (o::σ) H4 s5→Q (.ref D) H4→compPost (model X.prog X.w) X.A X.xe use QQ (.ref D) s3.heap.objs.size (.ok .next) s5):
  wpAny (model X.prog X.w) X.A (comprehension (.ListComp elt [⟨.Name x px,iter,ifs,0⟩] scope pos) scope X.env ppos (newList []) false (eval iter X.env) use) QQ X.xe s:=by
 refine wpAny_comprehension_free rfl hs (fE (C.cells I.ok)) C.kind C.locs (bC (hi pins s σ H _ I h) fun v s1 h1=>bC h1 fun itv s2 h2=>?_)
 obtain⟨it,fp,tn,J,H2,e,I2,T,st2,f2,R⟩:=h2
 subst e
 have hD:H2 s2.heap.objs.size=none:=I2.hok.fresh (af _)
 obtain⟨W,⟨m0,w0⟩,turn⟩:=R _ hD
 refine wpAny_newObj_type (wpAny_newFunctionEnv C.nocell (by intro y hy;simp at hy) (fun h₁ hns₁ hsb₁=>?_) C.kind)
 dsimp only at hns₁ hsb₁ ⊢
 have I3:Inv X pins σ (bm H2 s2.heap.objs.size (.lst [])) {s2 with heap:=s2.heap.push {cls:= .type "list",dict:=none,data:= .seq ([]:List Value).toArray}}:=
  I2.laid (t':=s2.toks) (o:= .lst []) (fun b ob q=>ac _ q) (af _) ⟨Nat.zero_le _,[],0,.nil,aq _ rfl⟩
 have f3:∀b∈fp,eQ X pins (bm H2 s2.heap.objs.size (.lst [])) b:=fun b hb=>by
  obtain⟨o,e,_⟩:=T.obj _ _ st2 b hb
  obtain⟨g0,g⟩:=f2 b hb
  exact⟨by rw[az (ak (ai e))];exact g0,g⟩
 have o3:∀b∈fp,∃o,(s2.heap.push {cls:= .type "list",dict:=none,data:= .seq ([]:List Value).toArray}).get? b=some o:=fun b hb=>by
  obtain⟨o,e,_⟩:=T.obj _ _ st2 b hb
  exact⟨o,ac _ e⟩
 have old:∀b o,(s2.heap.push {cls:= .type "list",dict:=none,data:= .seq ([]:List Value).toArray}).get? b=some o→h₁.get? b=some o:=fun b o e=>
  hsb₁.extBut b o (ak (ai e)) (ac _ e)
 have K0:=nh (x:=x) (scope:=scope) (fp:=fp) (h':=h₁) (tk:=s2.toks) I3 C f3 o3 hx hns₁ old
 have st3:tn 0 h₁:=T.keep _ _ _ st2 fun b _ o e=>old b o (ac _ e)
 generalize hs3:({s2 with heap:=s2.heap.push {cls:= .type "list",dict:=none,data:= .seq ([]:List Value).toArray}}:Shared)=s3 at I3 K0
 have es3:s2.heap.push {cls:= .type "list",dict:=none,data:= .seq ([]:List Value).toArray}=s3.heap:=by rw[←hs3]
 generalize hH3:bm H2 s2.heap.objs.size (.lst [])=H3 at I3 K0 f3 w0
 have stat:∀{H':Hp},(∀b∈fp,H' b=none)→∀b∈fp,eQ (bw X x scope fp s3 H3) pins H' b:=fun{H'} hn b hb=>by
  obtain⟨o,e⟩:=o3 b hb
  rw[es3] at e
  obtain⟨g0,g1,g2,g3,g4,g5⟩:=f3 b hb
  refine⟨hn b hb,ak (ai e),fun z=>?_,.inl hb,fun y c h=>g4 y c (C.cell_of I.ok h).2,g5⟩
  rcases List.mem_cons.mp (I3.stkSub _ z) with q|q
  ·exact g1 q
  ·exact g2 q
 have nd':(x::X.N).Nodup:=List.nodup_cons.mpr ⟨hx,hN⟩
 have lx:(relabel scope X.env).names.lookup x=some .local:=lookup_relabel_local C.own
 have loop:codeAny (model X.prog X.w) X.A (.compLoop (.ListComp elt [⟨.Name x px,iter,ifs,0⟩] scope pos) 0 (.ref it) (.ref s2.heap.objs.size) (bw X x scope fp s3 H3).env)
   (compPost (model X.prog X.w) X.A X.xe use QQ (Value.ref s2.heap.objs.size) s3.heap.objs.size) {s3 with heap:=h₁,toks:=s2.toks}:=by
  refine iR (fun n s'=>∃i o ys H',Inv (bw X x scope fp s3 H3) pins (o::σ) H' s'∧tn i s'.heap∧(∀b∈fp,H' b=none)∧W i n ys H') ?_ m0 ⟨0,none,[],H3,K0,st3,fun b hb=>(f3 b hb).1,w0⟩
  rintro n s4 ⟨i,o,ys,H4,I4,st4,fr4,w4⟩
  rcases turn i n ys H4 w4 with⟨stop,qn⟩|⟨go,N,hNN,step⟩
  ·refine bC (T.done (bw X x scope fp s3 H3) rfl rfl rfl hc i pins s4 (o::σ) H4 _ I4 (stat fr4) st4 stop) fun r s5 ⟨hr,I5⟩=>?_
   subst hr
   exact fin I3 f3 I5 qn
  ·refine bC (T.item (bw X x scope fp s3 H3) rfl rfl rfl hc i pins s4 (o::σ) H4 _ I4 (stat fr4) st4 go) fun r s5 hp=>?_
   obtain⟨u,hr,h5⟩:=hp
   subst hr
   refine bC h5 fun _ s6 hp=>?_
   obtain⟨y,H6,I6,r6,y6,st6,fr6⟩:=hp
   have I6':=I6.pinned (stat fr6) (T.obj _ _ st6)
   refine wpAny_assign_Name (gT (i:=0) I6' nd' rfl (.inl lx) r6 (fun s7 I7=>?_) (.inr lx))
   have keepS:∀{o':Option V}{H':Hp}{s':Shared},Inv (bw X x scope fp s3 H3) (pins++iz fp s6.heap) (o'::σ) H' s'→tn (i+1) s'.heap∧∀b∈fp,H' b=none:=fun{o' H' s'} I'=>by
    refine⟨T.keep _ _ _ st6 fun b hb o e=>(I'.pin (b,o) (aL _ (aL _ (c8 hb e)))).1,fun b hb=>?_⟩
    obtain⟨o,e,d⟩:=T.obj _ _ st6 b hb
    exact(I'.pin (b,o) (aL _ (aL _ (c8 hb e)))).2.1
   refine aJ (ht fp s3 H3 _ s7 (some y::σ) H6 _ I7 (step y H6 y6)) (fun b s8 ⟨H8,I8,q8⟩=>?_) fun _ _ z=>False.elim z
   cases b with
   |false=>
    rw[if_neg av] at q8 ⊢
    obtain⟨m',hm,w8⟩:=hNN ys H8 q8
    obtain⟨a1,a2⟩:=keepS I8
    exact⟨m',hm,i+1,some y,ys,H8,I8.unpinned,a1,a2,w8⟩
   |true=>
    rw[if_pos rfl] at q8 ⊢
    refine aJ (he fp s3 H3 _ s8 (some y::σ) H8 _ I8 q8) (fun v9 s9 ⟨y9,H9,I9,r9,hacc,hsz,q9⟩=>?_) fun _ _ z=>False.elim z
    refine aJ (iB (X:=bw X x scope fp s3 H3) _ s9 (some y::σ) H9 (.ref s2.heap.objs.size) [y9] _ [v9] (fun _ H'=>N (ys++[y9]) H') I9 rfl (.cons r9 .nil) ⟨_,_,_,rfl,rfl,hacc,hsz,q9⟩) (fun _ s10 ⟨_,H10,I10,_,q10⟩=>?_) fun _ _ z=>False.elim z
    obtain⟨m',hm,w10⟩:=hNN _ H10 q10
    obtain⟨a1,a2⟩:=keepS I10
    exact⟨m',hm,i+1,some y,_,H10,I10.unpinned,a1,a2,w10⟩
 have eC:(s2.heap.push {cls:= .type "list",dict:=none,data:= .seq ([]:List Value).toArray}).objs.size=s3.heap.objs.size:=by rw[es3]
 rw[eC]
 have es4:({heap:=h₁,gens:=s2.gens,drawn:=s2.drawn,toks:=s2.toks+([]:List (Str×Value)).length,os:=s2.os}:Shared)={s3 with heap:=h₁,toks:=s2.toks}:=by rw[←hs3];rfl
 rw[es4]
 exact codeAny_compStart_list loop (T.self _ 0 _ _ _ st3 loop)
theorem pJ(hc:X.calm=true)(C:CompScope X x scope)(hx:x∉X.N)(hN:X.N.Nodup)
  (hi:PI X (.Name x px) iter wi)(ht:∀fp s H,uH (bw X x scope fp s H) ifs tc)(he:∀fp s H,PE (bw X x scope fp s H) elt te)
  (hs:∀x,foldedSetIterable iter X.env x=pure x:=by intro _;rfl):PE X (.ListComp elt [⟨.Name x px,iter,ifs,0⟩] scope pos) (pp wi tc te):=by
 intro pins s σ H Q I h
 rw[eval_ListComp]
 refine kI (use:=none) hc C hx hN hi ht he hs I h fun I3 f3 I5 qn=>?_
 obtain⟨m5,hn5,_⟩:=id I5.loc
 exact⟨m5,hn5,fun h' sb=>⟨.ref _,_,nc I3 f3 I5 sb,rfl,qn⟩⟩
theorem oa{py:Pos}{i:Nat}(hc:X.calm=true)(C:CompScope X x scope)(hx:x∉X.N)(hN:X.N.Nodup)
  (hi:PI X (.Name x px) iter wi)(ht:∀fp s H,uH (bw X x scope fp s H) ifs tc)(he:∀fp s H,PE (bw X x scope fp s H) elt te)
  (hs:∀x,foldedSetIterable iter X.env x=pure x)(hy:X.N[i]? =some y)(hl:Loc X.env.scope y)(hf:X.fn y=true∨X.env.scope.names.lookup y=some .local):
  PS X (.Assign [.Name y py] (.ListComp elt [⟨.Name x px,iter,ifs,0⟩] scope pos) spos) (qr (pp wi tc te) (eW i)):=by
 have hb:∃b,swapsWith (.ListComp elt [⟨.Name x px,iter,ifs,0⟩] scope pos) (some (.Name y py)) spos.line X.env=pure b:=⟨_,rfl⟩
 obtain⟨b,hb⟩:=hb
 cases b with
 |false=>exact ls hN hy hl (pJ hc C hx hN hi ht he hs) hb hf
 |true=>
  intro pins s σ H D I h
  rw[exec_Assign_Name_used _ _ _ _ hb]
  refine aa (wpAny_standAt (aa ?_))
  show wpAny _ X.A (do let _ ←comprehension (.ListComp elt [⟨.Name x px,iter,ifs,0⟩] scope pos) scope X.env _ (newList []) false (eval iter X.env) (some (assign (.Name y py) X.env))) _ _ s
  refine aa (aJ (kI (use:=some (assign (.Name y py) X.env)) (QQ:=fun _ s'=>SP X pins D .next s') hc C hx hN hi ht he hs I h fun{fp s3 s5 H3 H4 Dd o} I3 f3 I5 qn=>?_) (fun _ s' hq=>ae (ae hq)) fun _ _ e=>e)
  have I6:Inv X pins σ H4 s5:=by
   have:=nc I3 f3 I5 (Heap.SameBut.refl _ _)
   exact this
  obtain⟨m5,hn5,_⟩:=id I5.loc
  have hC0:H4 s3.heap.objs.size=none:=I5.free
  have hCL:X.env.locals≠s3.heap.objs.size:=ak I3.lt
  show wpAny _ X.A (assign (.Name y py) X.env (.ref Dd)) _ _ _
  refine wpAny_assign_Name (iq (v:= .ref Dd) I6 hN hy hl rfl (fun s7 I7 hch=>?_) hf)
  obtain⟨a,sb,ha⟩:=hch
  have hCa:s3.heap.objs.size≠a:=by
   rcases ha with rfl|ha
   ·exact hCL.symm
   ·obtain⟨v,q⟩:=I3.cell y a ha
    exact(ak q.lt).symm
  refine⟨m5,hn5.sameBut sb hCa,fun h' sb'=>⟨_,H4,?_,qn⟩⟩
  refine I7.turned (t':=s7.toks) (it:=s3.heap.objs.size) (fun b o hb e=>(sb'.2 b hb).trans e) hC0 hCL.symm (.inr I3.sz) (fun z c e=>?_) fun p hp=>?_
  ·obtain⟨v,q⟩:=I3.cell z c e
   exact ak q.lt
  ·exact ak (ai (I3.pin p hp).1)
theorem Inv.turnLaid{t':Nat}{p:Addr}{xs:List V}(I:Inv X pins σ H s)(hf:∀b∈fp,eQ X pins H b)
  (k:∀b o,b∉fp→s.heap.get? b=some o→h'.get? b=some o)(hp:s.heap.objs.size≤p)(new:bx X.prog X.w (bm H p (.tup xs)) h' p (.tup xs)):Inv X pins σ (bm H p (.tup xs)) {s with heap:=h',toks:=t'}:=by
 have hn:H p=none:=I.hok.fresh hp
 have nit:∀b u,H b=some u→b∉fp:=fun b u e z=>by rw[(hf b z).1] at e;cases e
 have nep:∀{b:Addr}{o:Obj},s.heap.get? b=some o→b≠p:=fun e=>ak (am (ai e) hp)
 refine I.step (g':=s.gens) (d':=s.drawn) (ch:=fp) (fun b hb=>?_) (fun b o _ _ hc e _=>k b o hc e) (fun b o _ _ hc e _=>⟨o.slots,k b o hc e⟩) (fun b o _ e n=>by rw[az (nep e)];exact n)
  (fun b o hc e=>⟨o,k b o hc e⟩) (fun b ys e=>by rw[az (aw e hn)];exact e) (fun b o u e=>by rw[az (aw e hn)];exact e) (fun b ps e=>⟨#[],by rw[az (aw e hn),e];simp⟩) (fun m hm=>?_) (fun b u e=>?_) I.bare
 ·obtain⟨f0,f1,f2,f3,f4,f5⟩:=hf b hb
  exact⟨f3,f1,f4,f5⟩
 ·obtain⟨o,es,ep,ho,r⟩:=hm
  exact⟨o,es,ep,k _ o (fun z=>(hf _ z).2.1 rfl) ho,r⟩
 ·by_cases hb:b=p
  ·subst hb;rw[bd] at e;cases e;exact new
  ·rw[az hb] at e
   refine(I.hok b u e).stay (fun c v hc q=>k c v ?_ q) (fun c q=>by rw[az (aw q hn)];exact q) fun c ys q=>by rw[az (aw q hn)];exact q
   rcases hc with z|z
   ·rw[z];exact nit b u e
   ·exact nit c _ z
noncomputable def Cp(K:ao)(a:Addr):It:=
 ⟨fun i H=>∃xs x,dz K H a xs∧xs[i]? =some x,
  fun i H v H'=>∃p x,v=.ref p∧H p=none∧H'=bm H p (.tup [.int (i:Int),x])∧∀xs,dz K H a xs→xs[i]? =some x,
  fun i H=>∃xs,dz K H a xs∧xs.length≤i⟩
noncomputable def B_(e it a:Addr)(i:Nat)(h:Heap):Prop:=(∃old,IsEnum h e it (i:Int) old)∧h.IsListIter it a i
theorem qp{P:Program}{w:World}{K:ao}{elts:List Expr}{k:Nat}(a e it:Addr)(hne:e≠it):Turn P w K (.Tuple elts k pos) (Cp K a) [e,it] e (B_ e it a) where
 mem:=by simp
 obj:=fun i h st b hb=>by
  obtain⟨⟨old,he⟩,o,ho,c,d⟩:=st
  rcases List.mem_cons.mp hb with rfl|hb
  ·exact⟨_,he,fun v z=>by
    have z':Data.fields _=Data.cell v:=z
    cases z'⟩
  ·have:b=it:=by simpa using hb
   subst this
   exact⟨o,ho,fun v z=>by rw[d] at z;cases z⟩
 keep:=fun i h h' ⟨⟨old,he⟩,st⟩ kk=>⟨⟨old,kk e (by simp) _ he⟩,st.at fun o q=>kk it (by simp) o q⟩
 item:=by
  intro X hP hw hK hc i pins s σ H E I hf st hg
  subst hP hw hK
  obtain⟨⟨old,he⟩,hit⟩:=st
  obtain⟨xs,x,hq,hx⟩:=hg
  obtain⟨its,rv,p,hz⟩:=I.list hq
  obtain⟨u,hu,ru⟩:=rv.get hx
  refine wpAny_pyNext_enum_item he hit p.isList (x:=u) (by simpa using hu) hne fun h1 heo hit1 ht1 hz1 hk1=>?_
  refine⟨_,rfl,wpAny_letOwnedTupleGo_enum heo fun h2 he2 hs2=>?_⟩
  replace hs2:Heap.SameBut e h1 h2:=hs2
  have lt:=ai he
  have ht2:h2.get? s.heap.objs.size=some {cls:= .type "tuple",data:= .seq #[.int i s.toks,u]}:=(hs2.2 _ (aR lt)).trans ht1
  have hn:H s.heap.objs.size=none:=I.hok.fresh (af _)
  have I2:Inv X pins σ (bm H s.heap.objs.size (.tup [.int (i:Int),x])) {s with heap:=h2,toks:=s.toks+1}:=by
   refine I.turnLaid (fp:=[e,it]) hf (fun b o hb q=>?_) (af _) ⟨(by show 2≤sizeLine;decide),[.int i s.toks,u],.cons ⟨_,rfl⟩ (.cons ru .nil),?_⟩
   ·have hbe:b≠e:=fun z=>hb (by simp[z])
    have hbi:b≠it:=fun z=>hb (by simp[z])
    exact(hs2.2 b hbe).trans (hk1 b o hbe hbi q)
   ·exact⟨_,ht2,rfl,_,rfl⟩
  refine⟨.ref s.heap.objs.size,_,I2,rfl,⟨_,x,rfl,hn,rfl,fun ys hy=>by rw[I.list_inj hy hq];exact hx⟩,⟨⟨u,?_⟩,?_⟩,fun b hb=>?_⟩
  ·have:((i+1:Nat):Int)=(i:Int)+1:=by omega
   rw[this]
   exact he2
  ·exact hit1.at fun o q=>(hs2.2 it (Ne.symm hne)).trans q
  ·obtain⟨f0,_⟩:=hf b hb
   have:b≠s.heap.objs.size:=by
    rcases List.mem_cons.mp hb with rfl|hb
    ·exact ak lt
    ·have:b=it:=by simpa using hb
     subst this
     obtain⟨o,ho,_⟩:=hit
     exact ak (ai ho)
   rw[az this];exact f0
 done:=by
  intro X hP hw hK hc i pins s σ H E I hf st hg
  subst hP hw hK
  obtain⟨⟨old,he⟩,hit⟩:=st
  obtain⟨xs,hq,hx⟩:=hg
  obtain⟨its,rv,p,hz⟩:=I.list hq
  obtain⟨f0,f1,f2,f3,f4,f5⟩:=hf it (by simp)
  have hl:=rv.length
  exact wpAny_pyNext_enum_end (I.ok.hd hc) he hit p.isList (by simp;omega) fun h' eb=>⟨rfl,I.turned (t':=s.toks) (fun b o hb e=>eb b o hb e) f0 f1 f3 f4 f5⟩
 self:=fun _ _ _ _ _ st h=>wpAny_pyIter_enum st.1.choose_spec h
noncomputable def bh(X:Cx)(x y:Str)(scope:Scope)(fp:List Addr)(s:Shared)(H:Hp):Cx:={bw X x scope fp s H with N:=x::y::X.N}
theorem ut(I:Inv X pins σ H s)(C:CompScope X x scope)(hf:∀b∈fp,eQ X pins H b)(ho:∀b∈fp,∃o,s.heap.get? b=some o):
  (bh X x y scope fp s H).Ok:=by
 have h:=hZ I C hf ho
 exact⟨h.mod,h.kind,h.glob,h.blt,h.above,h.inj,h.has,h.cab,h.hd,h.frames,h.stk,h.exf,h.bs,h.bsz,h.noex,h.exfs,h.funs,h.frf⟩
theorem qZ{tk:Nat}{m:Str→Option Value}(I:Inv X pins σ H s)(C:CompScope X x scope)(hf:∀b∈fp,eQ X pins H b)(ho:∀b∈fp,∃o,s.heap.get? b=some o)
  (hx:x∉X.N)(hn:h'.Ns s.heap.objs.size m)(k:∀b o,s.heap.get? b=some o→h'.get? b=some o):Inv (bh X x y scope fp s H) pins (none::none::σ) H {s with heap:=h',toks:=tk}:=by
 have J:=nh (x:=x) (scope:=scope) (fp:=fp) (h':=h') (tk:=tk) I C hf ho hx hn k
 refine⟨ut I C hf ho,J.os,J.bare,J.base,?_,J.cell,J.free,J.freeC,J.pin,J.hok,?_⟩
 ·obtain⟨m',hn',hl⟩:=J.loc
  refine⟨m',hn',fun i z v h1 h2 h3=>?_⟩
  cases i with
  |zero=>simp at h2
  |succ i=>
   cases i with
   |zero=>simp at h2
   |succ i=>exact hl (i+1) z v (by simpa[bw,bh] using h1) (by simpa using h2) h3
 ·show(none::none::σ).length=(x::y::X.N).length
  rw[List.length_cons,List.length_cons,List.length_cons,List.length_cons,I.len]
theorem kH(I:Inv X pins σ H s)(hf:∀b∈fp,eQ X pins H b)(J:Inv (bh X x y scope fp s H) pins σ' H' s')
  (sb:Heap.SameBut s.heap.objs.size s'.heap h'):Inv X pins σ H' {s' with heap:=h'}:=by
 have hC:H' s.heap.objs.size=none:=J.free
 have ne:∀b o,s.heap.get? b=some o→b≠s.heap.objs.size:=fun b o e=>ak (ai e)
 have u:Un (eX X.stack) fp H H' s.heap h':=
  ⟨fun b o e n hb hx=>(sb.2 b (ne b o e)).trans (J.base.keep b o e n hb hx),fun b o e n hb hx=>by
    obtain⟨sl,q⟩:=J.base.slot b o e n hb hx
    exact⟨sl,(sb.2 b (ne b o e)).trans q⟩,J.base.free,fun b o e hx=>by
    obtain⟨o',q⟩:=J.base.there b o e hx
    exact⟨o',(sb.2 b (ne b o e)).trans q⟩,J.base.tups,J.base.frzs,J.base.tbls⟩
 have hok:ge X.prog X.w H' h':=fun b ob e=>by
  refine(J.hok b ob e).stay (fun c w' hc q=>(sb.2 c ?_).trans q) (fun _ q=>q) fun _ _ q=>q
  intro z
  rcases hc with y|y
  ·rw[z] at y;rw[←y,hC] at e;cases e
  ·rw[z,hC] at y;cases y
 exact I.call' (s':={s' with heap:=h'}) J.os u hok J.bare fun b hb=>⟨(hf b hb).2.2.2.1,(hf b hb).2.1,(hf b hb).2.2.2.2.1,(hf b hb).2.2.2.2.2⟩
noncomputable def i7(wi:TI)(g:TG)(tc:TT)(te:TE):TE:=fun σ H Q=>wi σ H fun J H1=>∀D,H1 D=none→∃W:Nat→Nat→List V→Hp→Prop,(∃m,W 0 m [] (bm H1 D (.lst [])))∧∀i m ys H2,W i m ys H2→
 (J.stop i H2∧Q (.ref D) H2)∨(J.go i H2∧∃N:List V→Hp→Prop,(∀ys' H',N ys' H'→∃m',m'<m∧W (i+1) m' ys' H')∧
  ∀x H',J.yld i H2 x H'→∀o1 o2,g x (o1::o2::σ) H' fun σ2 H3=>(∃p1 p2,σ2=p1::p2::σ)∧tc σ2 H3 fun b H5=>if b=true then te σ2 H5 fun y H4=>H4 D=some (.lst ys)∧ys.length<sizeLine∧N (ys++[y]) (bm H4 D (.lst (ys++[y]))) else N ys H5)
theorem jU{g:TG}(hc:X.calm=true)(C:CompScope X x scope)(hx:x∉X.N)
  (hi:PI X tg iter wi)(hg:∀fp s H,PG (bh X x y scope fp s H) tg g)(ht:∀fp s H,uH (bh X x y scope fp s H) ifs tc)(he:∀fp s H,PE (bh X x y scope fp s H) elt te)
  (hs:∀x,foldedSetIterable iter X.env x=pure x){Q:VK}(I:Inv X pins σ H s)(h:i7 wi g tc te σ H Q){QQ:Value→Shared→Prop}
  (fin:∀{fp:List Addr}{s3 s5:Shared}{H3 H4:Hp}{D:Addr}{o1 o2:Option V},Inv X pins σ H3 s3→(∀b∈fp,eQ X pins H3 b)→Inv (bh X x y scope fp s3 H3) pins (o1::o2::σ) H4 s5→Q (.ref D) H4→compPost (model X.prog X.w) X.A X.xe use QQ (.ref D) s3.heap.objs.size (.ok .next) s5):
  wpAny (model X.prog X.w) X.A (comprehension (.ListComp elt [⟨tg,iter,ifs,0⟩] scope pos) scope X.env ppos (newList []) false (eval iter X.env) use) QQ X.xe s:=by
 refine wpAny_comprehension_free rfl hs (fE (C.cells I.ok)) C.kind C.locs (bC (hi pins s σ H _ I h) fun v s1 h1=>bC h1 fun itv s2 h2=>?_)
 obtain⟨it,fp,tn,J,H2,e,I2,T,st2,f2,R⟩:=h2
 subst e
 have hD:H2 s2.heap.objs.size=none:=I2.hok.fresh (af _)
 obtain⟨W,⟨m0,w0⟩,turn⟩:=R _ hD
 refine wpAny_newObj_type (wpAny_newFunctionEnv C.nocell (by intro y hy;simp at hy) (fun h₁ hns₁ hsb₁=>?_) C.kind)
 dsimp only at hns₁ hsb₁ ⊢
 have I3:Inv X pins σ (bm H2 s2.heap.objs.size (.lst [])) {s2 with heap:=s2.heap.push {cls:= .type "list",dict:=none,data:= .seq ([]:List Value).toArray}}:=
  I2.laid (t':=s2.toks) (o:= .lst []) (fun b ob q=>ac _ q) (af _) ⟨Nat.zero_le _,[],0,.nil,aq _ rfl⟩
 have f3:∀b∈fp,eQ X pins (bm H2 s2.heap.objs.size (.lst [])) b:=fun b hb=>by
  obtain⟨o,e,_⟩:=T.obj _ _ st2 b hb
  obtain⟨g0,g⟩:=f2 b hb
  exact⟨by rw[az (ak (ai e))];exact g0,g⟩
 have o3:∀b∈fp,∃o,(s2.heap.push {cls:= .type "list",dict:=none,data:= .seq ([]:List Value).toArray}).get? b=some o:=fun b hb=>by
  obtain⟨o,e,_⟩:=T.obj _ _ st2 b hb
  exact⟨o,ac _ e⟩
 have old:∀b o,(s2.heap.push {cls:= .type "list",dict:=none,data:= .seq ([]:List Value).toArray}).get? b=some o→h₁.get? b=some o:=fun b o e=>
  hsb₁.extBut b o (ak (ai e)) (ac _ e)
 have K0:=qZ (x:=x) (y:=y) (scope:=scope) (fp:=fp) (h':=h₁) (tk:=s2.toks) I3 C f3 o3 hx hns₁ old
 have st3:tn 0 h₁:=T.keep _ _ _ st2 fun b _ o e=>old b o (ac _ e)
 generalize hs3:({s2 with heap:=s2.heap.push {cls:= .type "list",dict:=none,data:= .seq ([]:List Value).toArray}}:Shared)=s3 at I3 K0
 have es3:s2.heap.push {cls:= .type "list",dict:=none,data:= .seq ([]:List Value).toArray}=s3.heap:=by rw[←hs3]
 generalize hH3:bm H2 s2.heap.objs.size (.lst [])=H3 at I3 K0 f3 w0
 have stat:∀{H':Hp},(∀b∈fp,H' b=none)→∀b∈fp,eQ (bh X x y scope fp s3 H3) pins H' b:=fun{H'} hn b hb=>by
  obtain⟨o,e⟩:=o3 b hb
  rw[es3] at e
  obtain⟨g0,g1,g2,g3,g4,g5⟩:=f3 b hb
  refine⟨hn b hb,ak (ai e),fun z=>?_,.inl hb,fun y c h=>g4 y c (C.cell_of I.ok h).2,g5⟩
  rcases List.mem_cons.mp (I3.stkSub _ z) with q|q
  ·exact g1 q
  ·exact g2 q
 have loop:codeAny (model X.prog X.w) X.A (.compLoop (.ListComp elt [⟨tg,iter,ifs,0⟩] scope pos) 0 (.ref it) (.ref s2.heap.objs.size) (bh X x y scope fp s3 H3).env)
   (compPost (model X.prog X.w) X.A X.xe use QQ (Value.ref s2.heap.objs.size) s3.heap.objs.size) {s3 with heap:=h₁,toks:=s2.toks}:=by
  refine iR (fun n s'=>∃i o1 o2 ys H',Inv (bh X x y scope fp s3 H3) pins (o1::o2::σ) H' s'∧tn i s'.heap∧(∀b∈fp,H' b=none)∧W i n ys H') ?_ m0 ⟨0,none,none,[],H3,K0,st3,fun b hb=>(f3 b hb).1,w0⟩
  rintro n s4 ⟨i,o1,o2,ys,H4,I4,st4,fr4,w4⟩
  rcases turn i n ys H4 w4 with⟨stop,qn⟩|⟨go,N,hNN,step⟩
  ·refine bC (T.done (bh X x y scope fp s3 H3) rfl rfl rfl hc i pins s4 (o1::o2::σ) H4 _ I4 (stat fr4) st4 stop) fun r s5 ⟨hr,I5⟩=>?_
   subst hr
   exact fin I3 f3 I5 qn
  ·refine bC (T.item (bh X x y scope fp s3 H3) rfl rfl rfl hc i pins s4 (o1::o2::σ) H4 _ I4 (stat fr4) st4 go) fun r s5 hp=>?_
   obtain⟨u,hr,h5⟩:=hp
   subst hr
   refine bC h5 fun _ s6 hp=>?_
   obtain⟨yv,H6,I6,r6,y6,st6,fr6⟩:=hp
   have I6':=I6.pinned (stat fr6) (T.obj _ _ st6)
   have keepS:∀{q1 q2:Option V}{H':Hp}{s':Shared},Inv (bh X x y scope fp s3 H3) (pins++iz fp s6.heap) (q1::q2::σ) H' s'→tn (i+1) s'.heap∧∀b∈fp,H' b=none:=fun{q1 q2 H' s'} I'=>by
    refine⟨T.keep _ _ _ st6 fun b hb o e=>(I'.pin (b,o) (aL _ (aL _ (c8 hb e)))).1,fun b hb=>?_⟩
    obtain⟨o,e,d⟩:=T.obj _ _ st6 b hb
    exact(I'.pin (b,o) (aL _ (aL _ (c8 hb e)))).2.1
   refine aJ (hg fp s3 H3 _ s6 (o1::o2::σ) H6 yv u _ I6' r6 (step yv H6 y6 o1 o2)) (fun _ s7 ⟨σ7,H7,I7,⟨p1,p2,hσ⟩,q7⟩=>?_) fun _ _ z=>False.elim z
   subst hσ
   refine aJ (ht fp s3 H3 _ s7 (p1::p2::σ) H7 _ I7 q7) (fun bb s8 ⟨H8,I8,q8⟩=>?_) fun _ _ z=>False.elim z
   cases bb with
   |false=>
    rw[if_neg av] at q8 ⊢
    obtain⟨m',hm,w8⟩:=hNN ys H8 q8
    obtain⟨a1,a2⟩:=keepS I8
    exact⟨m',hm,i+1,p1,p2,ys,H8,I8.unpinned,a1,a2,w8⟩
   |true=>
   rw[if_pos rfl] at q8 ⊢
   refine aJ (he fp s3 H3 _ s8 (p1::p2::σ) H8 _ I8 q8) (fun v9 s9 ⟨y9,H9,I9,r9,hacc,hsz,q9⟩=>?_) fun _ _ z=>False.elim z
   refine aJ (iB (X:=bh X x y scope fp s3 H3) _ s9 (p1::p2::σ) H9 (.ref s2.heap.objs.size) [y9] _ [v9] (fun _ H'=>N (ys++[y9]) H') I9 rfl (.cons r9 .nil) ⟨_,_,_,rfl,rfl,hacc,hsz,q9⟩) (fun _ s10 ⟨_,H10,I10,_,q10⟩=>?_) fun _ _ z=>False.elim z
   obtain⟨m',hm,w10⟩:=hNN _ H10 q10
   obtain⟨a1,a2⟩:=keepS I10
   exact⟨m',hm,i+1,p1,p2,_,H10,I10.unpinned,a1,a2,w10⟩
 have eC:(s2.heap.push {cls:= .type "list",dict:=none,data:= .seq ([]:List Value).toArray}).objs.size=s3.heap.objs.size:=by rw[es3]
 rw[eC]
 have es4:({heap:=h₁,gens:=s2.gens,drawn:=s2.drawn,toks:=s2.toks+([]:List (Str×Value)).length,os:=s2.os}:Shared)={s3 with heap:=h₁,toks:=s2.toks}:=by rw[←hs3];rfl
 rw[es4]
 exact codeAny_compStart_list loop (T.self _ 0 _ _ _ st3 loop)
theorem kn{g:TG}(hc:X.calm=true)(C:CompScope X x scope)(hx:x∉X.N)
  (hi:PI X tg iter wi)(hg:∀fp s H,PG (bh X x y scope fp s H) tg g)(ht:∀fp s H,uH (bh X x y scope fp s H) ifs tc)(he:∀fp s H,PE (bh X x y scope fp s H) elt te)
  (hs:∀x,foldedSetIterable iter X.env x=pure x):PE X (.ListComp elt [⟨tg,iter,ifs,0⟩] scope pos) (i7 wi g tc te):=by
 intro pins s σ H Q I h
 rw[eval_ListComp]
 refine jU (use:=none) hc C hx hi hg ht he hs I h fun I3 f3 I5 qn=>?_
 obtain⟨m5,hn5,_⟩:=id I5.loc
 exact⟨m5,hn5,fun h' sb=>⟨.ref _,_,kH I3 f3 I5 sb,rfl,qn⟩⟩
theorem my{z:Str}{p1 p2 p3 pz:Pos}{k:Nat}{g:TG}{i:Nat}(hc:X.calm=true)(C:CompScope X x scope)(hx:x∉X.N)(hN:X.N.Nodup)
  (hi:PI X (.Tuple [.Name x p1,.Name y p2] k p3) iter wi)(hg:∀fp s H,PG (bh X x y scope fp s H) (.Tuple [.Name x p1,.Name y p2] k p3) g)(ht:∀fp s H,uH (bh X x y scope fp s H) ifs tc)(he:∀fp s H,PE (bh X x y scope fp s H) elt te)
  (hs:∀x,foldedSetIterable iter X.env x=pure x)(hy:X.N[i]? =some z)(hl:Loc X.env.scope z)(hf:X.fn z=true∨X.env.scope.names.lookup z=some .local):
  PS X (.Assign [.Name z pz] (.ListComp elt [⟨.Tuple [.Name x p1,.Name y p2] k p3,iter,ifs,0⟩] scope pos) spos) (qr (i7 wi g tc te) (eW i)):=by
 have hb:∃b,swapsWith (.ListComp elt [⟨.Tuple [.Name x p1,.Name y p2] k p3,iter,ifs,0⟩] scope pos) (some (.Name z pz)) spos.line X.env=pure b:=⟨_,rfl⟩
 obtain⟨b,hb⟩:=hb
 cases b with
 |false=>exact ls hN hy hl (kn hc C hx hi hg ht he hs) hb hf
 |true=>
  intro pins s σ H D I h
  rw[exec_Assign_Name_used _ _ _ _ hb]
  refine aa (wpAny_standAt (aa ?_))
  show wpAny _ X.A (do let _ ←comprehension (.ListComp elt [⟨.Tuple [.Name x p1,.Name y p2] k p3,iter,ifs,0⟩] scope pos) scope X.env _ (newList []) false (eval iter X.env) (some (assign (.Name z pz) X.env))) _ _ s
  refine aa (aJ (jU (use:=some (assign (.Name z pz) X.env)) (QQ:=fun _ s'=>SP X pins D .next s') hc C hx hi hg ht he hs I h fun{fp s3 s5 H3 H4 Dd o1 o2} I3 f3 I5 qn=>?_) (fun _ s' hq=>ae (ae hq)) fun _ _ e=>e)
  have I6:Inv X pins σ H4 s5:=by
   have:=kH I3 f3 I5 (Heap.SameBut.refl _ _)
   exact this
  obtain⟨m5,hn5,_⟩:=id I5.loc
  have hC0:H4 s3.heap.objs.size=none:=I5.free
  have hCL:X.env.locals≠s3.heap.objs.size:=ak I3.lt
  show wpAny _ X.A (assign (.Name z pz) X.env (.ref Dd)) _ _ _
  refine wpAny_assign_Name (iq (v:= .ref Dd) I6 hN hy hl rfl (fun s7 I7 hch=>?_) hf)
  obtain⟨a,sb,ha⟩:=hch
  have hCa:s3.heap.objs.size≠a:=by
   rcases ha with rfl|ha
   ·exact hCL.symm
   ·obtain⟨v,q⟩:=I3.cell z a ha
    exact(ak q.lt).symm
  refine⟨m5,hn5.sameBut sb hCa,fun h' sb'=>⟨_,H4,?_,qn⟩⟩
  refine I7.turned (t':=s7.toks) (it:=s3.heap.objs.size) (fun b o hb e=>(sb'.2 b hb).trans e) hC0 hCL.symm (.inr I3.sz) (fun z c e=>?_) fun p hp=>?_
  ·obtain⟨v,q⟩:=I3.cell z c e
   exact ak q.lt
  ·exact ak (ai (I3.pin p hp).1)
end L2
namespace PySem
open Sem (wp)
open AutoSeq1 (wpAny_loadPart')
variable{a t:Addr}{h h':Heap}{prog:Program}
section
variable{prog:Program}{w:World}{A:Around}{E:Value→Shared→Prop}{s:Shared}{it t:Addr}{i:Nat}{items:Array Value}{Q:Value→Shared→Prop}
theorem jq{x:Value}(hit:s.heap.IsTupleIter it t i)(ht:s.heap.IsTuple t items)(hx:items[i]? =some x)(hQ:∀h',h'.IsTupleIter it t (i+1)→Heap.SameBut it s.heap h'→Q x {s with heap:=h'}):
  wpAny (model prog w) A (Builtin.SmallTypes.nextOf (.ref it)) Q E s:=by
 obtain⟨o,ho,hc,hd⟩:=id hit
 obtain⟨ol,hol,_,nl,hdl⟩:=ht
 unfold Builtin.SmallTypes.nextOf
 refine aa (wpAny_callSpecial?_slot (name:=Str.ofString "__next__") hit.typeIs F.slot_tuple_iterator_next (wpAny_call_entry F.slot_tuple_iterator_next hit.typeIs F.entry_tuple_iterator_next ?_ (F.args_tuple_iterator_next_1 _)))
 refine aa (m:=field (.ref it) 0) (aH ho hd (x:= .ref t) rfl ?_)
 refine aa (m:=field (.ref it) 1) (aH ho hd (x:= .int i 0) rfl ?_)
 refine aa (m:=seqItems? (.ref t)) (wpAny_seqItems hol hdl ?_)
 simp only[Int.toNat_natCast,hx]
 refine aa (wpAny_setField ho hd (by simp) (ae ⟨x,rfl,ae (hQ _ ⟨_,Heap.get?_update_self _ ho (Obj.isFreed_of_fields (Obj.data_mapFields hd _)),(Obj.cls_mapFields ..).trans hc,?_⟩ (Heap.SameBut.update ..))⟩))
 rw[Obj.data_mapFields hd]
 simp[rawInt]
theorem k9(hh:A.handled=none)(hit:s.heap.IsTupleIter it t i)(ht:s.heap.IsTuple t items)(hx:items[i]? =none)
  (hE:∀h' e,Heap.ExtBut it s.heap h'→(∃o,h'.get? e=some o∧o.cls=.type "StopIteration")→E (.ref e) {s with heap:=h'}):wpAny (model prog w) A (Builtin.SmallTypes.nextOf (.ref it)) Q E s:=by
 obtain⟨o,ho,hc,hd⟩:=id hit
 obtain⟨ol,hol,_,nl,hdl⟩:=ht
 unfold Builtin.SmallTypes.nextOf
 refine aa (wpAny_callSpecial?_slot (name:=Str.ofString "__next__") hit.typeIs F.slot_tuple_iterator_next (wpAny_call_entry F.slot_tuple_iterator_next hit.typeIs F.entry_tuple_iterator_next ?_ (F.args_tuple_iterator_next_1 _)))
 refine aa (m:=field (.ref it) 0) (aH ho hd (x:= .ref t) rfl ?_)
 refine aa (m:=field (.ref it) 1) (aH ho hd (x:= .int i 0) rfl ?_)
 refine aa (m:=seqItems? (.ref t)) (wpAny_seqItems hol hdl ?_)
 simp only[Int.toNat_natCast,hx]
 refine aa (wpAny_rule (aa (wpAny_setField ho hd (by simp) (aa (m:=newExc (.type "StopIteration") []) ?_))))
 unfold newExc newTuple
 refine aa (wpAny_newObj_type (aa (m:=firstArgMember _ _) (wpAny_of_eq (a:=Value.none) (by first|rfl|(simp only[firstArgMember];rfl)) (wpAny_newObj_type ?_ (by size_fits)))) (by size_fits))
 unfold raiseNew
 refine aa (wpAny_handled ?_)
 rw[show A.in1.handled=none from hh]
 exact aa (ae (wpAny_throw (hE _ _ (((Heap.SameBut.update ..).extBut.push _).push _) ⟨_,aq _ rfl,rfl⟩)))
theorem fw(x:h.IsTuple a items)(k:∀o,h.get? a=some o→h'.get? a=some o):h'.IsTuple a items:=let⟨o,ho,r⟩:=x;⟨o,k o ho,r⟩
theorem bn{b:Addr}(x:h.IsTupleIter a b i)(k:∀o,h.get? a=some o→h'.get? a=some o):h'.IsTupleIter a b i:=let⟨o,ho,r⟩:=x;⟨o,k o ho,r⟩
end
theorem Draws.tup{w:World}{A:Around}(hh:A.handled=none)(it t:Addr)(hne:t≠it)(items:Array Value):
  Draws prog w A it [it,t] items.size (fun i v=>items[i]? =some v) (fun i h=>h.IsTupleIter it t i∧h.IsTuple t items) where
 live:=fun _ _ st=>let⟨o,ho,_⟩:=st.1;⟨o,ho⟩
 frame:=fun _ _ _ st hk=>⟨bn st.1 fun o e=>hk it (by simp) o e,fw st.2 fun o e=>hk t (by simp) o e⟩
 item:=fun i s Q E hi st hQ=>jq st.1 st.2 (x:=items[i]) (by simp[hi]) fun h' hit' hs'=>hQ _ h' s.toks (by simp[hi]) ⟨hit',st.2.extBut hs'.extBut hne⟩ hs'
 done:=fun s Q E st hE=>k9 hh st.1 st.2 (by simp) hE
noncomputable def e8(h:Heap)(t:Addr):Heap:=(h.push {cls:= .type "tuple_iterator",data:= .fields #[.ref t,.int 0 0]}).push {cls:= .type "enumerate",data:= .fields #[.none,.bool false,.ref h.objs.size,rawInt 0,.none,.none]}
set_option maxHeartbeats 4000000 in
theorem mH(t:Addr)(items:Array Value)(n:Nat)(dct:Option Addr)(sl:Array (Option Value)):
  Meets (Builtin.«enumerate.__new__» ⟨[.type "enumerate",.ref t],[]⟩) (fun _ R s=>s.heap.get? t=some {cls:= .type "tuple",dict:=dct,data:= .seq items n,slots:=sl}∧
   R (.ok (.ret (.ref (s.heap.push {cls:= .type "tuple_iterator",data:= .fields #[.ref t,.int 0 0]}).objs.size))) {s with heap:=e8 s.heap t}):=
 .of_wp fun prog w A R s h=>by
  obtain⟨hp,g,d,tk,os⟩:=s
  obtain⟨hl,h⟩:=h
  have hsub:=sub_enumerate
  have hT:Heap.IsTuple (Shared.heap ⟨hp,g,d,tk,os⟩) t items:=⟨_,hl,rfl,n,rfl⟩
  wp_walk using wpAny_loadPart' hl
  refine wpAny_stack_any fun st=>ae ?_
  split
  ·rename_i c _ _ _ _ _
   cases(c==Value.type "enumerate")<;>(wp_walk using wpAny_loadPart' hl,wpAny_pyIter_tuple hT;exact⟨_,rfl,h⟩)
  ·wp_walk using wpAny_loadPart' hl,wpAny_pyIter_tuple hT
   exact⟨_,rfl,h⟩
theorem oQ{w:World}{A:Around}{E:Value→Shared→Prop}{s:Shared}{items:Array Value}{Q:Value→Shared→Prop}(hT:s.heap.IsTuple t items)
  (h:IsEnum (e8 s.heap t) (s.heap.objs.size+1) s.heap.objs.size 0 .none→(e8 s.heap t).IsTupleIter s.heap.objs.size t 0→(∀b o,s.heap.get? b=some o→(e8 s.heap t).get? b=some o)→Q (.ref (s.heap.objs.size+1)) {s with heap:=e8 s.heap t}):
  wpAny (model prog w) A (call (.type "enumerate") [.ref t]) Q E s:=by
 obtain⟨⟨c,dct,dt,sl⟩,hl,hc,n,hd⟩:=hT
 replace hc:c=.type "tuple":=hc
 replace hd:dt=.seq items n:=hd
 subst hc hd
 refine callType_new F.called_enumerate (by decide) (F.typeCall_enumerate_1 _) (F.newCall_enumerate_1 _) (fun obj=>F.args_object_init_2 obj _) F.entry_enumerate_new (mH t items n dct sl) ⟨hl,?_⟩
 have hz:(s.heap.push {cls:= .type "tuple_iterator",data:= .fields #[.ref t,.int 0 0]}).objs.size=s.heap.objs.size+1:=Heap.size_push ..
 have he:IsEnum (e8 s.heap t) (s.heap.objs.size+1) s.heap.objs.size 0 .none:=by
  rw[←hz]
  exact aq _ rfl
 show _∧_
 rw[hz]
 exact⟨⟨_,he,rfl⟩,h he ⟨_,ac _ (aq _ rfl),rfl,rfl⟩ fun b o x=>ac _ (ac _ x)⟩
theorem qT{w:World}{A:Around}{E:Value→Shared→Prop}{s:Shared}{e it:Addr}{i:Nat}{items:Array Value}{old:Value}{Q:Option Value→Shared→Prop}(hh:A.handled=none)
  (he:IsEnum s.heap e it i old)(hit:s.heap.IsTupleIter it t i)(ht:s.heap.IsTuple t items)(hx:items[i]? =none)(hQ:∀h',Heap.ExtBut it s.heap h'→Q none {s with heap:=h'}):wpAny (model prog w) A (pyNext (.ref e)) Q E s:=by
 have D:Draws prog w A.in1 it [it,t] 0 (fun _ _=>True) (fun _ h=>h.IsTupleIter it t i∧h.IsTuple t items):=by
  refine⟨fun _ _ st=>?_,fun _ h h' st hk=>?_,fun j s' Q' E' hj=>absurd hj (Nat.not_lt_zero _),fun s' Q' E' st hE=>k9 hh st.1 st.2 hx hE⟩
  ·obtain⟨o,ho,_⟩:=st.1
   exact⟨o,ho⟩
  ·exact⟨bn st.1 fun o e=>hk it (by simp) o e,fw st.2 fun o e=>hk t (by simp) o e⟩
 exact wpAny_pyNext_enum_endD D he ⟨hit,ht⟩ hQ
end PySem
namespace L2
open PySem PySem.Spec PyProof.Rows
noncomputable def zm(K:ao)(a:Addr):It:=
 ⟨fun i H=>∃xs x,fP K H a xs∧xs[i]? =some x,
  fun i H v H'=>∃p x,v=.ref p∧H p=none∧H'=bm H p (.tup [.int (i:Int),x])∧∀xs,fP K H a xs→xs[i]? =some x,
  fun i H=>∃xs,fP K H a xs∧xs.length≤i⟩
noncomputable def AU(e it a:Addr)(i:Nat)(h:Heap):Prop:=(∃old,IsEnum h e it (i:Int) old)∧h.IsTupleIter it a i
theorem nK{P:Program}{w:World}{K:ao}{elts:List Expr}{k:Nat}{pos:Pos}(a e it:Addr)(hne:e≠it):Turn P w K (.Tuple elts k pos) (zm K a) [e,it] e (AU e it a) where
 mem:=by simp
 obj:=fun i h st b hb=>by
  obtain⟨⟨old,he⟩,o,ho,c,d⟩:=st
  rcases List.mem_cons.mp hb with rfl|hb
  ·exact⟨_,he,fun v z=>by
    have z':Data.fields _=Data.cell v:=z
    cases z'⟩
  ·have:b=it:=by simpa using hb
   subst this
   exact⟨o,ho,fun v z=>by rw[d] at z;cases z⟩
 keep:=fun i h h' ⟨⟨old,he⟩,st⟩ kk=>⟨⟨old,kk e (by simp) _ he⟩,bn st fun o q=>kk it (by simp) o q⟩
 item:=by
  intro X hP hw hK hc i pins s σ H E I hf st hg
  subst hP hw hK
  obtain⟨⟨old,he⟩,hit⟩:=st
  obtain⟨xs,x,hq,hx⟩:=hg
  obtain⟨its,rv,p,hz⟩:=I.tuple hq
  obtain⟨u,hu,ru⟩:=rv.get hx
  have pt:s.heap.IsTuple a its.toArray:=p
  have nea:e≠a:=by
   obtain⟨o,ho,hc,_⟩:=pt
   intro z
   rw[←z,he] at ho
   cases ho
   have hc:Value.type "enumerate"=Value.type "tuple":=hc
   exact absurd hc (by decide)
  have nia:a≠it:=by
   obtain⟨o,ho,hc,_⟩:=pt
   obtain⟨o2,ho2,hc2,_⟩:=hit
   intro z
   rw[←z,ho] at ho2
   cases ho2
   rw[hc] at hc2
   exact absurd hc2 (by decide)
  refine wpAny_pyNext_enum_itemD (Draws.tup (A:=X.A.in1) (I.ok.hd hc) it a nia its.toArray) he ⟨hit,pt⟩ (by have:=(aA hu).1;simpa using this) hne (by simp[hne,nea]) fun u' h1 tk hP heo hst ht1 hz1 hk1=>?_
  have eu:u'=u:=by
   have:its[i]? =some u':=by simpa using hP
   rw[hu] at this
   exact(aj this).symm
  subst eu
  refine⟨_,rfl,wpAny_letOwnedTupleGo_enum heo fun h2 he2 hs2=>?_⟩
  replace hs2:Heap.SameBut e h1 h2:=hs2
  have lt:=ai he
  have ht2:h2.get? s.heap.objs.size=some {cls:= .type "tuple",data:= .seq #[.int i tk,u']}:=(hs2.2 _ (aR lt)).trans ht1
  have hn:H s.heap.objs.size=none:=I.hok.fresh (af _)
  have I2:Inv X pins σ (bm H s.heap.objs.size (.tup [.int (i:Int),x])) {s with heap:=h2,toks:=tk+1}:=by
   refine I.turnLaid (fp:=[e,it]) hf (fun b o hb q=>?_) (af _) ⟨(by show 2≤sizeLine;decide),[.int i tk,u'],.cons ⟨_,rfl⟩ (.cons ru .nil),?_⟩
   ·have hbe:b≠e:=fun z=>hb (by simp[z])
    have hbi:b≠it:=fun z=>hb (by simp[z])
    exact(hs2.2 b hbe).trans (hk1 b o hbe hbi q)
   ·exact⟨_,ht2,rfl,_,rfl⟩
  refine⟨.ref s.heap.objs.size,_,I2,rfl,⟨_,x,rfl,hn,rfl,fun ys hy=>by rw[I.tuple_inj hy hq];exact hx⟩,⟨⟨u',?_⟩,?_⟩,fun b hb=>?_⟩
  ·have:((i+1:Nat):Int)=(i:Int)+1:=by omega
   rw[this]
   exact he2
  ·exact bn hst.1 fun o q=>(hs2.2 it (Ne.symm hne)).trans q
  ·obtain⟨f0,_⟩:=hf b hb
   have:b≠s.heap.objs.size:=by
    rcases List.mem_cons.mp hb with rfl|hb
    ·exact ak lt
    ·have:b=it:=by simpa using hb
     subst this
     obtain⟨o,ho,_⟩:=hit
     exact ak (ai ho)
   rw[az this];exact f0
 done:=by
  intro X hP hw hK hc i pins s σ H E I hf st hg
  subst hP hw hK
  obtain⟨⟨old,he⟩,hit⟩:=st
  obtain⟨xs,hq,hx⟩:=hg
  obtain⟨its,rv,p,hz⟩:=I.tuple hq
  obtain⟨f0,f1,f2,f3,f4,f5⟩:=hf it (by simp)
  have hl:=rv.length
  exact qT (I.ok.hd hc) he hit (show s.heap.IsTuple a its.toArray from p) (by simp;omega) fun h' eb=>⟨rfl,I.turned (t':=s.toks) (fun b o hb e=>eb b o hb e) f0 f1 f3 f4 f5⟩
 self:=fun _ _ _ _ _ st h=>wpAny_pyIter_enum st.1.choose_spec h
noncomputable def tP(K:ao)(tl:TA):TI:=fun σ H R=>tl σ H fun vs H1=>∃a,vs=[.ref a]∧(((∃xs,dz K H1 a xs)∧R (Cp K a) H1)∨((∃xs,fP K H1 a xs)∧R (zm K a) H1))
theorem mC{X:Cx}{elts:List Expr}{k:Nat}{tp:Pos}{a:Expr}{ta:TA}{p pos:Pos}(hg:Gl X "enumerate")(hm:X.mg "enumerate"=none)(ha:PA X [a] ta)(hs:starEach [a] X.env=[(false,eval a X.env)]):
  PI X (.Tuple elts k tp) (.Call (.Name "enumerate" p) [a] [] pos) (tP X.K ta):=by
 intro pins s σ H R I h
 refine Call_ (eK I hg hm boot_enumerate (aW (bC (ha pos pins s σ H _ I h) fun us s1 ⟨vs,H1,I1,r1,q1⟩=>?_) hs rfl))
 obtain⟨a,e,q⟩:=q1
 subst e
 cases r1 with
 |cons r rr=>
  cases rr
  cases r
  have new:∀b∈[s1.heap.objs.size+1,s1.heap.objs.size],eQ X pins H1 b:=fun b hb=>by
   have hb':s1.heap.objs.size≤b:=by
    rcases List.mem_cons.mp hb with rfl|hb
    ·exact Nat.le_succ _
    ·have:b=s1.heap.objs.size:=by simpa using hb
     rw[this];exact af _
   exact I1.fpOk hb' (I1.hok.fresh hb')
  rcases q with⟨⟨xs,hq⟩,q⟩|⟨⟨xs,hq⟩,q⟩
  ·obtain⟨its,rv,pl,hz⟩:=I1.list hq
   refine call_enumerate_list pl.isList fun h' he hit hsz hk=>?_
   refine wpAny_pyIter_enum he ?_
   exact⟨_,[s1.heap.objs.size+1,s1.heap.objs.size],_,_,H1,rfl,I1.kept (t':=s1.toks) hk,qp a _ _ (aR (aG _)),⟨⟨_,he⟩,hit⟩,new,q⟩
  ·obtain⟨its,rv,pl,hz⟩:=I1.tuple hq
   refine oQ (show s1.heap.IsTuple a its.toArray from pl) fun he hit hk=>?_
   refine wpAny_pyIter_enum he ?_
   exact⟨_,[s1.heap.objs.size+1,s1.heap.objs.size],_,_,H1,rfl,I1.kept (t':=s1.toks) hk,nK a _ _ (aR (aG _)),⟨⟨_,he⟩,hit⟩,new,q⟩
end L2
namespace PySem
open Sem (wp)
open AutoSeq1 (wpAny_loadPart')
variable{c x y:Value}{qs:Array Value}{i1 i2 l t z:Addr}
section
variable{prog:Program}{w:World}{A:Around}{E:Value→Shared→Prop}{s:Shared}
theorem rm{TI TO:Addr}{k:Nat}{ps:Array Value}{d:Value}{Q:Value→Shared→Prop}(Z:ZipApart z TI TO i1 i2 t l)
  (gz:IsZip s.heap z TI TO .none)(gI:IsPair s.heap TI (.ref i1) (.ref i2))(gO:IsPair s.heap TO c d)(j1:s.heap.IsTupleIter i1 t k)(j2:s.heap.IsListIter i2 l k)(m1:s.heap.IsTuple t ps)(m2:s.heap.IsList l qs)(hx:ps[k]? =some x)(hy:qs[k]? =some y)
  (fin:∀g,IsZip g z TI TO (rawInt s.heap.objs.size)→IsPair g TO x y→g.IsTupleIter i1 t (k+1)→g.IsListIter i2 l (k+1)→IsPair g s.heap.objs.size x y→g.objs.size=s.heap.objs.size+1→
   (∀b o,b≠z→b≠TO→b≠i1→b≠i2→s.heap.get? b=some o→g.get? b=some o)→Q (.ref s.heap.objs.size) {s with heap:=g}):
  wpAny (model prog w) A (Builtin.«zip.__next__» ⟨[.ref z],[]⟩) (fun r u=>∃v,r=.done (.ret v)∧Q v u) E s:=by
 show wpAny _ _ (field (.ref z) 2>>=_) _ _ _
 refine aa (aH gz rfl (x:= .bool false) rfl ?_)
 show wpAny _ _ (field (.ref z) 3>>=_) _ _ _
 refine aa (aH gz rfl (x:= .ref TI) rfl ?_)
 refine aa (wpAny_seqItems gI rfl ?_)
 show wpAny _ _ (Builtin.SmallTypes.ownedTupleIsFree (.ref z)>>=_) _ _ _
 refine aa ?_
 unfold Builtin.SmallTypes.ownedTupleIsFree
 refine aa (aH gz rfl (x:= .none) rfl (ae ?_))
 simp only[if_true]
 refine aa (wpAny_rule (aa (aH gz rfl (x:= .ref TO) rfl ?_)))
 refine aa (aX gz (by simp) fun g1 z1 b1=>?_)
 replace z1:IsZip g1 z TI TO .ellipsis:=z1
 refine aa ?_
 simp only[List.zipIdx_cons,List.zipIdx_nil,List.forIn_cons,List.forIn_nil]
 refine aa (aa (wpAny_onRaise ?_))
 show wpAny _ _ (Builtin.SmallTypes.nextOf (.ref i1)>>=_) _ _ _
 have j1':g1.IsTupleIter i1 t k:=bn j1 fun o e=>b1.extBut _ _ Z.i1z e
 have m1':g1.IsTuple t ps:=fw m1 fun o e=>b1.extBut _ _ Z.l1z e
 refine aa (jq (s:={s with heap:=g1}) j1' m1' hx fun g2 j12 b2=>ae ?_)
 replace b2:Heap.SameBut i1 g1 g2:=b2
 have o2:IsPair g2 TO c d:=b2.extBut _ _ Z.TOi1 (b1.extBut _ _ Z.TOz gO)
 refine aa (wpAny_seqItems o2 rfl ?_)
 refine aa (wpAny_updateSeq_pair o2 fun g3 o3 b3=>?_)
 replace o3:IsPair g3 TO x d:=o3
 replace b3:Heap.SameBut TO g2 g3:=b3
 refine aa (wpAny_letGo (ae (aa (aa (wpAny_onRaise ?_)))))
 show wpAny _ _ (Builtin.SmallTypes.nextOf (.ref i2)>>=_) _ _ _
 have up3:∀b o,b≠z→b≠i1→b≠TO→s.heap.get? b=some o→g3.get? b=some o:=fun b o n1 n2 n3 e=>b3.extBut _ _ n3 (b2.extBut _ _ n2 (b1.extBut _ _ n1 e))
 refine aa (wpAny_nextOf_list_item (s:={s with heap:=g3}) (j2.at fun o e=>up3 i2 o Z.i2z Z.i12.symm Z.TOi2.symm e) (m2.at fun o e=>up3 l o Z.l2z Z.l2i1 Z.l2TO e) hy fun g4 j24 b4=>ae ?_)
 replace b4:Heap.SameBut i2 g3 g4:=b4
 have o4:IsPair g4 TO x d:=b4.extBut _ _ Z.TOi2 o3
 refine aa (wpAny_seqItems o4 rfl ?_)
 refine aa (wpAny_updateSeq_pair o4 fun g5 o5 b5=>?_)
 replace o5:IsPair g5 TO x y:=o5
 replace b5:Heap.SameBut TO g4 g5:=b5
 refine aa (wpAny_letGo (ae (ae (aa (wpAny_seqItems o5 rfl (aa (wpAny_newTuple ?_)))))))
 have sz5:g5.objs.size=s.heap.objs.size:=by rw[b5.1,b4.1,b3.1,b2.1,b1.1]
 have z5:IsZip g5 z TI TO .ellipsis:=b5.extBut _ _ Z.TOz.symm (b4.extBut _ _ Z.i2z.symm (b3.extBut _ _ Z.TOz.symm (b2.extBut _ _ Z.i1z.symm z1)))
 have up5:∀b o,b≠z→b≠TO→b≠i1→b≠i2→s.heap.get? b=some o→g5.get? b=some o:=fun b o n1 n2 n3 n4 e=>b5.extBut _ _ n2 (b4.extBut _ _ n4 (up3 b o n1 n3 n2 e))
 have j15:g5.IsTupleIter i1 t (k+1):=bn j12 fun o e=>b5.extBut _ _ Z.TOi1.symm (b4.extBut _ _ Z.i12 (b3.extBut _ _ Z.TOi1.symm e))
 have j25:g5.IsListIter i2 l (k+1):=j24.at fun o e=>b5.extBut _ _ Z.TOi2.symm e
 have ltz:z<g5.objs.size:=ai z5
 show wpAny _ _ (Builtin.SmallTypes.ownedTupleHandOut (.ref z) (.ref g5.objs.size)>>=_) _ _ _
 refine aa ?_
 unfold Builtin.SmallTypes.ownedTupleHandOut
 have z6:IsZip (g5.push {cls:= .type "tuple",data:= .seq #[x,y]}) z TI TO .ellipsis:=ac _ z5
 refine aa (aX z6 (by simp) fun g7 z7 b7=>?_)
 replace z7:IsZip g7 z TI TO (rawInt g5.objs.size):=z7
 refine aX z7 (by simp) fun g8 z8 b8=>?_
 replace z8:IsZip g8 z TI TO (rawInt g5.objs.size):=z8
 have up8:∀b o,b≠z→g5.get? b=some o→g8.get? b=some o:=fun b o n e=>b8.extBut _ _ n (b7.extBut _ _ n (ac _ e))
 have t8:IsPair g8 g5.objs.size x y:=b8.extBut _ _ (aR ltz) (b7.extBut _ _ (aR ltz) (aq _ rfl))
 have sz8:g8.objs.size=g5.objs.size+1:=by rw[b8.1,b7.1,Heap.size_push]
 rw[sz5] at z8 t8 sz8
 refine ae ⟨_,rfl,?_⟩
 show Q (.ref g5.objs.size) _
 rw[sz5]
 exact fin g8 z8 (up8 _ _ Z.TOz o5) (bn j15 fun o e=>up8 _ o Z.i1z e) (j25.at fun o e=>up8 _ o Z.i2z e) t8 sz8 fun b o n1 n2 n3 n4 e=>up8 b o n1 (up5 b o n1 n2 n3 n4 e)
theorem rj{TI TO:Addr}{k:Nat}{ps:Array Value}{d:Value}{Q:Fin→Shared→Prop}(hh:A.handled=none)(Z:ZipApart z TI TO i1 i2 t l)
  (gz:IsZip s.heap z TI TO .none)(gI:IsPair s.heap TI (.ref i1) (.ref i2))(gO:IsPair s.heap TO c d)(j1:s.heap.IsTupleIter i1 t k)(j2:s.heap.IsListIter i2 l k)(m1:s.heap.IsTuple t ps)(m2:s.heap.IsList l qs)(hend:ps[k]? =none∨qs[k]? =none)
  (fin:∀g e,(∀b o,b≠z→b≠TO→b≠i1→b≠i2→s.heap.get? b=some o→g.get? b=some o)→(∃o,g.get? e=some o∧o.cls=.type "StopIteration")→E (.ref e) {s with heap:=g}):
  wpAny (model prog w) A (Builtin.«zip.__next__» ⟨[.ref z],[]⟩) Q E s:=by
 show wpAny _ _ (field (.ref z) 2>>=_) _ _ _
 refine aa (aH gz rfl (x:= .bool false) rfl ?_)
 show wpAny _ _ (field (.ref z) 3>>=_) _ _ _
 refine aa (aH gz rfl (x:= .ref TI) rfl ?_)
 refine aa (wpAny_seqItems gI rfl ?_)
 show wpAny _ _ (Builtin.SmallTypes.ownedTupleIsFree (.ref z)>>=_) _ _ _
 refine aa ?_
 unfold Builtin.SmallTypes.ownedTupleIsFree
 refine aa (aH gz rfl (x:= .none) rfl (ae ?_))
 simp only[if_true]
 refine aa (wpAny_rule (aa (aH gz rfl (x:= .ref TO) rfl ?_)))
 refine aa (aX gz (by simp) fun g1 z1 b1=>?_)
 replace z1:IsZip g1 z TI TO .ellipsis:=z1
 refine aa ?_
 simp only[List.zipIdx_cons,List.zipIdx_nil,List.forIn_cons,List.forIn_nil]
 refine aa (aa (wpAny_onRaise ?_))
 show wpAny _ _ (Builtin.SmallTypes.nextOf (.ref i1)>>=_) _ _ _
 have j1':g1.IsTupleIter i1 t k:=bn j1 fun o e=>b1.extBut _ _ Z.i1z e
 have m1':g1.IsTuple t ps:=fw m1 fun o e=>b1.extBut _ _ Z.l1z e
 cases hx:ps[k]? with
 |none=>
  refine aa (k9 (s:={s with heap:=g1}) hh j1' m1' hx fun g2 e b2 he=>?_)
  replace b2:Heap.ExtBut i1 g1 g2:=b2
  obtain⟨oe,he1,he2⟩:=he
  have z2:IsZip g2 z TI TO .ellipsis:=b2 _ _ Z.i1z.symm z1
  have ne:e≠z:=fun q=>by subst q;rw[z2] at he1;cases he1;simp at he2
  exact aX z2 (by simp) fun g3 _ b3=>fin g3 e (fun b o n1 _ n3 _ q=>b3.extBut _ _ n1 (b2 _ _ n3 (b1.extBut _ _ n1 q))) ⟨oe,b3.extBut _ _ ne he1,he2⟩
 |some x=>
  have hy:qs[k]? =none:=by
   rcases hend with q|q
   ·rw[hx] at q;cases q
   ·exact q
  refine aa (jq (s:={s with heap:=g1}) j1' m1' hx fun g2 j12 b2=>ae ?_)
  replace b2:Heap.SameBut i1 g1 g2:=b2
  have o2:IsPair g2 TO c d:=b2.extBut _ _ Z.TOi1 (b1.extBut _ _ Z.TOz gO)
  refine aa (wpAny_seqItems o2 rfl ?_)
  refine aa (wpAny_updateSeq_pair o2 fun g3 o3 b3=>?_)
  replace b3:Heap.SameBut TO g2 g3:=b3
  refine aa (wpAny_letGo (ae (aa (aa (wpAny_onRaise ?_)))))
  show wpAny _ _ (Builtin.SmallTypes.nextOf (.ref i2)>>=_) _ _ _
  have up3:∀b o,b≠z→b≠i1→b≠TO→s.heap.get? b=some o→g3.get? b=some o:=fun b o n1 n2 n3 e=>b3.extBut _ _ n3 (b2.extBut _ _ n2 (b1.extBut _ _ n1 e))
  refine aa (wpAny_nextOf_list_end (s:={s with heap:=g3}) hh (j2.at fun o e=>up3 i2 o Z.i2z Z.i12.symm Z.TOi2.symm e) (m2.at fun o e=>up3 l o Z.l2z Z.l2i1 Z.l2TO e) hy fun g4 e b4 he=>?_)
  replace b4:Heap.ExtBut i2 g3 g4:=b4
  obtain⟨oe,he1,he2⟩:=he
  have z4:IsZip g4 z TI TO .ellipsis:=b4 _ _ Z.i2z.symm (b3.extBut _ _ Z.TOz.symm (b2.extBut _ _ Z.i1z.symm z1))
  have ne:e≠z:=fun q=>by subst q;rw[z4] at he1;cases he1;simp at he2
  exact aX z4 (by simp) fun g5 _ b5=>fin g5 e (fun b o n1 n2 n3 n4 q=>b5.extBut _ _ n1 (b4 _ _ n4 (up3 b o n1 n3 n2 q))) ⟨oe,b5.extBut _ _ ne he1,he2⟩
theorem rl{TI TO:Addr}{k:Nat}{ps:Array Value}{d:Value}{Q:Option Value→Shared→Prop}(Z:ZipApart z TI TO i1 i2 t l)
  (gz:IsZip s.heap z TI TO .none)(gI:IsPair s.heap TI (.ref i1) (.ref i2))(gO:IsPair s.heap TO c d)(j1:s.heap.IsTupleIter i1 t k)(j2:s.heap.IsListIter i2 l k)(m1:s.heap.IsTuple t ps)(m2:s.heap.IsList l qs)(hx:ps[k]? =some x)(hy:qs[k]? =some y)
  (fin:∀g,IsZip g z TI TO (rawInt s.heap.objs.size)→IsPair g TO x y→g.IsTupleIter i1 t (k+1)→g.IsListIter i2 l (k+1)→IsPair g s.heap.objs.size x y→g.objs.size=s.heap.objs.size+1→
   (∀b o,b≠z→b≠TO→b≠i1→b≠i2→s.heap.get? b=some o→g.get? b=some o)→Q (some (.ref s.heap.objs.size)) {s with heap:=g}):wpAny (model prog w) A (pyNext (.ref z)) Q E s:=by
 have ty:s.TypeIs (.ref z) "zip":=⟨_,gz,rfl⟩
 unfold pyNext
 exact aa (wpAny_attempt (wpAny_callSpecial?_slot (name:=Str.ofString "__next__") ty F.slot_zip_next (wpAny_call_entry F.slot_zip_next ty F.entry_zip_next
  (rm Z gz gI gO j1 j2 m1 m2 hx hy fun g a1 a2 a3 a4 a5 a6 a7=>ae (fin g a1 a2 a3 a4 a5 a6 a7)) (F.args_zip_next_1 _))))
theorem rn{TI TO:Addr}{k:Nat}{ps:Array Value}{d:Value}{Q:Option Value→Shared→Prop}(hh:A.handled=none)(Z:ZipApart z TI TO i1 i2 t l)
  (gz:IsZip s.heap z TI TO .none)(gI:IsPair s.heap TI (.ref i1) (.ref i2))(gO:IsPair s.heap TO c d)(j1:s.heap.IsTupleIter i1 t k)(j2:s.heap.IsListIter i2 l k)(m1:s.heap.IsTuple t ps)(m2:s.heap.IsList l qs)(hend:ps[k]? =none∨qs[k]? =none)
  (fin:∀g,(∀b o,b≠z→b≠TO→b≠i1→b≠i2→s.heap.get? b=some o→g.get? b=some o)→Q none {s with heap:=g}):wpAny (model prog w) A (pyNext (.ref z)) Q E s:=by
 have ty:s.TypeIs (.ref z) "zip":=⟨_,gz,rfl⟩
 unfold pyNext
 refine aa (wpAny_attempt (wpAny_callSpecial?_slot (name:=Str.ofString "__next__") ty F.slot_zip_next (wpAny_call_entry F.slot_zip_next ty F.entry_zip_next (rj hh Z gz gI gO j1 j2 m1 m2 hend fun g e hk he=>?_) (F.args_zip_next_1 _))))
 obtain⟨o,h1,h2⟩:=he
 exact aa (wpAny_isInstance (T:= "StopIteration") (b:=true) ⟨o,h1,h2⟩ isSubtype_stop (ae (fin _ hk)))
end
noncomputable abbrev zA(h:Heap)(t:Addr):Heap:=h.push {cls:= .type "tuple_iterator",data:= .fields #[.ref t,.int 0 0]}
noncomputable abbrev zB(h:Heap)(t l:Addr):Heap:=(zA h t).push {cls:= .type "list_iterator",data:= .fields #[.ref l,.int 0 0]}
noncomputable abbrev zC(h:Heap)(t l:Addr):Heap:=(zB h t l).push {cls:= .type "tuple",data:= .seq #[.ref h.objs.size,.ref (zA h t).objs.size]}
noncomputable abbrev zD(h:Heap)(t l:Addr):Heap:=(zC h t l).push {cls:= .type "tuple",data:= .seq #[.none,.none]}
noncomputable abbrev zE(h:Heap)(t l:Addr):Heap:=(zD h t l).push {cls:= .type "zip",data:= .fields #[.none,.bool false,.bool false,.ref (zB h t l).objs.size,.ref (zC h t l).objs.size]}
theorem qG(t l:Addr)(ps qs:Array Value):Meets (Builtin.«zip.__new__» ⟨[.type "zip",.ref t,.ref l],[]⟩) (fun _ R s=>s.heap.IsTuple t ps∧s.heap.IsList l qs∧R (.ok (.ret (.ref (zD s.heap t l).objs.size))) {s with heap:=zE s.heap t l}):=
 .of_wp fun prog w A R s h=>by
  obtain⟨hp,g,d,tk,os⟩:=s
  obtain⟨ht,hl,h⟩:=h
  have hsub:=sub_zip
  have hT:Heap.IsTuple (Shared.heap ⟨hp,g,d,tk,os⟩) t ps:=ht
  have hL:Heap.IsList (Shared.heap ⟨hp.push {cls:= .type "tuple_iterator",data:= .fields #[.ref t,.int 0 0]},g,d,tk,os⟩) l qs:=Heap.IsList.push hl _
  wp_walk using wpAny_pyIter_tuple hT,wpAny_pyIter_list hL
  exact⟨_,rfl,h⟩
theorem uz{prog:Program}{w:World}{A:Around}{E:Value→Shared→Prop}{s:Shared}{ps:Array Value}{Q:Value→Shared→Prop}(ht:s.heap.IsTuple t ps)(hl:s.heap.IsList l qs)
  (fin:∀g,IsZip g (s.heap.objs.size+4) (s.heap.objs.size+2) (s.heap.objs.size+3) .none→IsPair g (s.heap.objs.size+2) (.ref s.heap.objs.size) (.ref (s.heap.objs.size+1))→IsPair g (s.heap.objs.size+3) .none .none→
   g.IsTupleIter s.heap.objs.size t 0→g.IsListIter (s.heap.objs.size+1) l 0→(∀b o,s.heap.get? b=some o→g.get? b=some o)→Q (.ref (s.heap.objs.size+4)) {s with heap:=g}):
  wpAny (model prog w) A (call (.type "zip") [.ref t,.ref l]) Q E s:=by
 refine callType_new F.called_zip (by decide) (F.typeCall_zip_2 _ _) (F.newCall_zip_2 _ _) (fun obj=>F.args_object_init_3 obj _ _) F.entry_zip_new (qG t l ps qs) ⟨ht,hl,?_⟩
 have n1:(zA s.heap t).objs.size=s.heap.objs.size+1:=Heap.size_push ..
 have n2:(zB s.heap t l).objs.size=s.heap.objs.size+2:=by rw[Heap.size_push,n1]
 have n3:(zC s.heap t l).objs.size=s.heap.objs.size+3:=by rw[Heap.size_push,n2]
 have n4:(zD s.heap t l).objs.size=s.heap.objs.size+4:=by rw[Heap.size_push,n3]
 have c5:(zE s.heap t l).get? (zD s.heap t l).objs.size=some _:=aq _ rfl
 have c4:(zE s.heap t l).get? (zC s.heap t l).objs.size=some _:=ac _ (aq _ rfl)
 have c3:(zE s.heap t l).get? (zB s.heap t l).objs.size=some _:=ac _ (ac _ (aq _ rfl))
 have c2:(zE s.heap t l).get? (zA s.heap t).objs.size=some _:=ac _ (ac _ (ac _ (aq _ rfl)))
 have c1:(zE s.heap t l).get? s.heap.objs.size=some _:=ac _ (ac _ (ac _ (ac _ (aq _ rfl))))
 show _∧_
 rw[n2,n3,n4] at c5
 rw[n1,n2] at c3
 rw[n3] at c4
 rw[n1] at c2
 rw[n4]
 exact⟨⟨_,c5,rfl⟩,fin _ c5 c3 c4 ⟨_,c1,rfl,rfl⟩ ⟨_,c2,rfl,rfl⟩ fun b o q=>
  ac _ (ac _ (ac _ (ac _ (ac _ q))))⟩
end PySem
namespace L2
open PySem PySem.Spec PyProof.Rows
variable{a b i1 i2 t z:Addr}{elts:List Expr}
theorem Inv.turns{X:Cx}{pins:List (Addr×Obj)}{σ:St}{H:Hp}{s:Shared}{h':Heap}{t':Nat}{fp:List Addr}(I:Inv X pins σ H s)(hf:∀b∈fp,eQ X pins H b)
  (k:∀b o,b∉fp→s.heap.get? b=some o→h'.get? b=some o):Inv X pins σ H {s with heap:=h',toks:=t'}:=by
 have nit:∀b u,H b=some u→b∉fp:=fun b u e z=>by rw[(hf b z).1] at e;cases e
 refine I.step (g':=s.gens) (d':=s.drawn) (ch:=fp) (fun b hb=>?_) (fun b o _ _ hc e _=>k b o hc e) (fun b o _ _ hc e _=>⟨o.slots,k b o hc e⟩) (fun b o _ e n=>n)
  (fun b o hc e=>⟨o,k b o hc e⟩) (fun b ys e=>e) (fun b o u e=>e) (fun b ps e=>⟨#[],by rw[e];simp⟩) (fun m hm=>?_) (fun b u e=>?_) I.bare
 ·obtain⟨f0,f1,f2,f3,f4,f5⟩:=hf b hb
  exact⟨f3,f1,f4,f5⟩
 ·obtain⟨o,es,ep,ho,r⟩:=hm
  exact⟨o,es,ep,k _ o (fun z=>(hf _ z).2.1 rfl) ho,r⟩
 ·refine(I.hok b u e).stay (fun c v hc q=>k c v ?_ q) (fun c q=>q) fun c ys q=>q
  rcases hc with z|z
  ·rw[z];exact nit b u e
  ·exact nit c _ z
noncomputable def Cm(K:ao)(a b:Addr):It:=
 ⟨fun i H=>∃xs ys x y,fP K H a xs∧dz K H b ys∧xs[i]? =some x∧ys[i]? =some y,
  fun i H v H'=>∃p x y,v=.ref p∧H p=none∧H'=bm H p (.tup [x,y])∧(∀xs,fP K H a xs→xs[i]? =some x)∧∀ys,dz K H b ys→ys[i]? =some y,
  fun i H=>∃xs ys,fP K H a xs∧dz K H b ys∧(xs.length≤i∨ys.length≤i)⟩
noncomputable def zx(z TI TO i1 i2 a b:Addr)(i:Nat)(h:Heap):Prop:=IsZip h z TI TO .none∧IsPair h TI (.ref i1) (.ref i2)∧(∃c d,IsPair h TO c d)∧h.IsTupleIter i1 a i∧h.IsListIter i2 b i
theorem oX{TI TO:Addr}{i:Nat}{h:Heap}(q:zx z TI TO i1 i2 a b i h):∀x∈[z,TI,TO,i1,i2],∃o,h.get? x=some o∧∀v,o.data≠ .cell v:=by
 obtain⟨q1,q2,⟨c,d,q3⟩,⟨o4,q4,_,d4⟩,⟨o5,q5,_,d5⟩⟩:=q
 intro x hx
 simp only[List.mem_cons,List.not_mem_nil,or_false] at hx
 rcases hx with rfl|rfl|rfl|rfl|rfl
 ·exact⟨_,q1,fun v z=>by have z':Data.fields _=Data.cell v:=z;cases z'⟩
 ·exact⟨_,q2,fun v z=>by have z':Data.seq _ _=Data.cell v:=z;cases z'⟩
 ·exact⟨_,q3,fun v z=>by have z':Data.seq _ _=Data.cell v:=z;cases z'⟩
 ·exact⟨o4,q4,fun v z=>by rw[d4] at z;cases z⟩
 ·exact⟨o5,q5,fun v z=>by rw[d5] at z;cases z⟩
theorem rO{P:Program}{w:World}{K:ao}{k:Nat}{pos:Pos}{TI TO:Addr}(Z:ZipApart z TI TO i1 i2 a b):Turn P w K (.Tuple elts k pos) (Cm K a b) [z,TI,TO,i1,i2] z (zx z TI TO i1 i2 a b) where
 mem:=by simp
 obj:=fun i h st x hx=>oX st x hx
 keep:=fun i h h' ⟨q1,q2,⟨c,d,q3⟩,q4,q5⟩ kk=>⟨kk z (by simp) _ q1,kk TI (by simp) _ q2,⟨c,d,kk TO (by simp) _ q3⟩,bn q4 fun o q=>kk i1 (by simp) o q,q5.at fun o q=>kk i2 (by simp) o q⟩
 item:=by
  intro X hP hw hK hc i pins s σ H E I hf st hg
  subst hP hw hK
  have live:=oX st
  obtain⟨q1,q2,⟨c,d,q3⟩,q4,q5⟩:=st
  obtain⟨xs,ys,x,y,hq,hr,hx,hy⟩:=hg
  obtain⟨its,rv,p,_⟩:=I.tuple hq
  obtain⟨jts,rw',p',_⟩:=I.list hr
  obtain⟨u,hu,ru⟩:=rv.get hx
  obtain⟨v,hv,rv'⟩:=rw'.get hy
  refine rl Z q1 q2 q3 q4 q5 (show s.heap.IsTuple a its.toArray from p) p'.isList (x:=u) (y:=v) (by simpa using hu) (by simpa using hv) fun g a1 a2 a3 a4 a5 a6 a7=>?_
  refine⟨_,rfl,wpAny_letOwnedTupleGo_zip a1 fun h2 b1 b2=>?_⟩
  replace b2:Heap.SameBut z g h2:=b2
  have lt:∀{x:Addr},x∈[z,TI,TO,i1,i2]→x<s.heap.objs.size:=fun hx=>by obtain⟨o,e,_⟩:=live _ hx;exact ai e
  have ltz:z<s.heap.objs.size:=lt (by simp)
  have hn:H s.heap.objs.size=none:=I.hok.fresh (af _)
  have t2:IsPair h2 s.heap.objs.size u v:=b2.extBut _ _ (aR ltz) a5
  have I2:Inv X pins σ (bm H s.heap.objs.size (.tup [x,y])) {s with heap:=h2,toks:=s.toks}:=by
   refine I.turnLaid (fp:=[z,TI,TO,i1,i2]) hf (fun e o he q=>?_) (af _) ⟨(by show 2≤sizeLine;decide),[u,v],.cons ru (.cons rv' .nil),?_⟩
   ·simp only[List.mem_cons,List.not_mem_nil,or_false,not_or] at he
    exact b2.extBut _ _ he.1 (a7 e o he.1 he.2.2.1 he.2.2.2.1 he.2.2.2.2 q)
   ·exact⟨_,t2,rfl,_,rfl⟩
  refine⟨.ref s.heap.objs.size,_,I2,rfl,⟨_,x,y,rfl,hn,rfl,fun ys hy=>by rw[I.tuple_inj hy hq];exact hx,fun ys' hy'=>by rw[I.list_inj hy' hr];exact hy⟩,⟨b1,b2.extBut _ _ Z.TIz (a7 _ _ Z.TIz Z.TITO Z.TIi1 Z.TIi2 q2),⟨u,v,b2.extBut _ _ Z.TOz a2⟩,bn a3 fun o q=>b2.extBut _ _ Z.i1z q,a4.at fun o q=>b2.extBut _ _ Z.i2z q⟩,fun e he=>?_⟩
  rw[az (ak (lt he))]
  exact(hf e he).1
 done:=by
  intro X hP hw hK hc i pins s σ H E I hf st hg
  subst hP hw hK
  obtain⟨q1,q2,⟨c,d,q3⟩,q4,q5⟩:=st
  obtain⟨xs,ys,hq,hr,hx⟩:=hg
  obtain⟨its,rv,p,_⟩:=I.tuple hq
  obtain⟨jts,rw',p',_⟩:=I.list hr
  have l1:=rv.length
  have l2:=rw'.length
  refine rn (I.ok.hd hc) Z q1 q2 q3 q4 q5 (show s.heap.IsTuple a its.toArray from p) p'.isList (hx.imp (fun q=>by simp;omega) fun q=>by simp;omega) fun g hk=>⟨rfl,I.turns (t':=s.toks) (fp:=[z,TI,TO,i1,i2]) hf fun e o he q=>?_⟩
  simp only[List.mem_cons,List.not_mem_nil,or_false,not_or] at he
  exact hk e o he.1 he.2.2.1 he.2.2.2.1 he.2.2.2.2 q
 self:=fun _ _ _ _ _ st h=>wpAny_pyIter_zip st.1 h
noncomputable def B6(K:ao)(tl:TA):TI:=fun σ H R=>tl σ H fun vs H1=>∃a b,vs=[.ref a,.ref b]∧(∃xs,fP K H1 a xs)∧(∃ys,dz K H1 b ys)∧R (Cm K a b) H1
theorem ye{X:Cx}{k:Nat}{tp:Pos}{a b:Expr}{ta:TA}{p pos:Pos}(hg:Gl X "zip")(hm:X.mg "zip"=none)(ha:PA X [a,b] ta)(hs:starEach [a,b] X.env=(false,eval a X.env)::starEach [b] X.env)(hs2:starEach [b] X.env=[(false,eval b X.env)]):
  PI X (.Tuple elts k tp) (.Call (.Name "zip" p) [a,b] [] pos) (B6 X.K ta):=by
 intro pins s σ H R I h
 refine Call_ (eK I hg hm boot_zip (aW (bC (ha pos pins s σ H _ I h) fun us s1 ⟨vs,H1,I1,r1,q1⟩=>?_) hs (by rw[hs2];rfl)))
 obtain⟨a,b,e,⟨xs,hq⟩,⟨ys,hr⟩,q⟩:=q1
 subst e
 cases r1 with
 |cons r rr=>
  cases rr with
  |cons r' rr=>
   cases rr
   cases r
   cases r'
   obtain⟨its,rv,pt,_⟩:=I1.tuple hq
   obtain⟨jts,rw',pl,_⟩:=I1.list hr
   have pt:s1.heap.IsTuple a its.toArray:=pt
   refine uz pt pl.isList fun g c1 c2 c3 c4 c5 hk=>?_
   refine wpAny_pyIter_zip c1 ?_
   have la:a<s1.heap.objs.size:=by obtain⟨o,e,_⟩:=pt;exact ai e
   have lb:b<s1.heap.objs.size:=by obtain⟨o,e,_⟩:=pl.isList;exact ai e
   refine⟨_,[s1.heap.objs.size+4,s1.heap.objs.size+2,s1.heap.objs.size+3,s1.heap.objs.size,s1.heap.objs.size+1],_,_,H1,rfl,I1.kept (t':=s1.toks) hk,rO (PyProof.Rows.zipApart_new la lb),⟨c1,c2,⟨_,_,c3⟩,c4,c5⟩,fun e he=>?_,q⟩
   have he':s1.heap.objs.size≤e:=by
    simp only[List.mem_cons,List.not_mem_nil,or_false] at he
    rcases he with rfl|rfl|rfl|rfl|rfl<;>omega
   exact I1.fpOk he' (I1.hok.fresh he')
section
variable{prog:Program}{w:World}{A:Around}{E:Value→Shared→Prop}{s:Shared}
theorem kF{it t:Addr}{items:Array Value}(hne:t≠it):∀(n i:Nat)(s:Shared)(Q:List Value→Shared→Prop),s.heap.IsListIter it t i→s.heap.IsList t items→i+n≤items.size→
  (∀h',h'.IsListIter it t (i+n)→Heap.SameBut it s.heap h'→Q ((items.toList.drop i).take n) {s with heap:=h'})→wpAny (model prog w) A (draw (.ref it) n) Q E s
 |0,i,s,Q,hit,_,_,hQ=>by
  show wpAny _ _ (pure []) Q E s
  exact ae (by simpa using hQ s.heap hit (Heap.SameBut.refl ..))
 |n+1,i,s,Q,hit,ht,hle,hQ=>by
  have hlt:i<items.size:=by omega
  show wpAny _ _ (pyNext (.ref it)>>=_) Q E s
  refine aa (wpAny_pyNext_list_item hit ht (x:=items[i]) (by simp[hlt]) fun h₁ hit₁ hs₁=>?_)
  replace hs₁:Heap.SameBut it s.heap h₁:=hs₁
  refine aa (wpAny_holding (kF hne n (i+1) _ _ hit₁ (ht.at fun o e=>(hs₁.2 t hne).trans e) (by omega) fun h₂ hit₂ hs₂=>ae ?_))
  have hd:items.toList.drop i=items[i]::items.toList.drop (i+1):=by simp[List.drop_eq_getElem_cons,hlt]
  have:=hQ h₂ (by rw[show i+(n+1)=i+1+n by omega];exact hit₂) (hs₁.trans hs₂)
  rw[hd,List.take_succ_cons] at this
  exact this
theorem ip{items:Array Value}{Q:List Value→Shared→Prop}(hh:A.handled=none)(ht:s.heap.IsList t items)
  (hQ:∀h',Heap.ExtBut s.heap.objs.size s.heap h'→Q items.toList {s with heap:=h'}):wpAny (model prog w) A (unpackItems (.ref t) items.size none) Q E s:=by
 have hlt:t≠s.heap.objs.size:=by obtain⟨o,ho,_⟩:=ht;exact ak (ai ho)
 unfold unpackItems
 refine aa ?_
 ·unfold notIterableAtAll
  refine aa (wpAny_specialOf ht.typeIs slot_list_iter.lookup ?_)
  refine ae ?_
  simp only[Bool.false_eq_true,if_false]
  refine aa (wpAny_holding (wpAny_pyIter_list ht ?_))
  refine aa (wpAny_holding (kF hlt items.size 0 _ _ ⟨_,aq _ rfl,rfl,rfl⟩ (ht.at fun o e=>ac _ e) (by omega) fun h₁ hit₁ hs₁=>?_))
  have hall:List.take items.size (List.drop 0 items.toList)=items.toList:=by
   rw[List.drop_zero];exact List.take_of_length_le (by simp)
  rw[hall]
  rw[if_neg (by simp)]
  have ht₁:h₁.IsList t items:=ht.at fun o e=>(hs₁.2 t hlt).trans (ac _ e)
  refine aa (wpAny_holding (wpAny_pyNext_list_end hh hit₁ ht₁ (by simp) fun h₂ he₂=>?_))
  simp only[Option.isSome_none,Bool.false_eq_true,if_false]
  refine ae (hQ h₂ fun b o hb e=>he₂ b o hb (hs₁.extBut b o hb (ac _ e)))
theorem ie{env:Env}{x1}{pos:Pos}{items:Array Value}{Q:Unit→Shared→Prop}(hh:A.handled=none)(ht:s.heap.IsList t items)
  (hn:(assignEach elts env).length=items.size)(hstar:(assignEach elts env).findIdx? (·.1)=none)
  (h:∀h',Heap.ExtBut s.heap.objs.size s.heap h'→wpAny (model prog w) A (assignInOrder ((assignEach elts env).map (·.2)) items.toList) Q E {s with heap:=h'}):
  wpAny (model prog w) A (assign (.Tuple elts x1 pos) env (.ref t)) Q E s:=by
 rw[assign_Tuple]
 refine aa (wpAny_standAt ?_)
 unfold unpack
 rw[hn,hstar]
 exact aa (wpAny_holding (ip hh ht h))
end
section
variable{X:Cx}{pos:Pos}
noncomputable def AR(K:ao)(n:Nat)(t:uM):TG:=fun v σ H Q=>∃a xs,v=.ref a∧(dz K H a xs∨fP K H a xs)∧xs.length=n∧t xs σ H Q
theorem sP{es:List Expr}{k:Nat}{t:uM}{n:Nat}(hc:X.calm=true)(h:zw X es t)
  (hn:(assignEach es X.env).length=n)(hst:(assignEach es X.env).findIdx? (·.1)=none):PG X (.Tuple es k pos) (AR X.K n t):=by
 intro pins s σ H v u Q I r hw
 obtain⟨a,xs,e1,hq,hl,hw⟩:=hw
 subst e1
 cases r
 rcases hq with hq|hq
 ·obtain⟨its,rv,ht,hz⟩:=I.list hq
  refine ie (I.ok.hd hc) ht.isList (by simp[hn,←hl,rv.length]) hst fun h' hx=>?_
  have I1:Inv X pins σ H {s with heap:=h'}:=I.kept (t':=s.toks) fun b o e=>hx b o (ak (ai e)) e
  exact h pins _ σ H xs _ Q I1 (by simpa using rv) hw
 ·obtain⟨its,rv,ht,hz⟩:=I.tuple hq
  refine assign_Tuple_tuple (I.ok.hd hc) ht (by simp[hn,←hl,rv.length]) hst fun h' hx=>?_
  have I1:Inv X pins σ H {s with heap:=h'}:=I.kept (t':=s.toks) fun b o e=>hx b o (ak (ai e)) e
  exact h pins _ σ H xs _ Q I1 (by simpa using rv) hw
end
theorem mf{k:Key}:∀{xs:List (Key×V)}{p:Key×V},fH xs k=none→¬p.1=k→fH (xs++[p]) k=none
 |[],p,_,h=>by rw[List.nil_append,dR h];rfl
 |q::xs,p,h,hp=>by
  by_cases e:q.1=k
  ·rw[fR e] at h;cases h
  ·rw[dR e] at h
   rw[List.cons_append,dR e]
   exact mf h hp
theorem iN:∀(more kvs:List (Key×V)),(more.map (·.1)).Nodup→(∀k∈more.map (·.1),fH kvs k=none)→fV kvs more=kvs++more
 |[],kvs,_,_=>by show kvs=kvs++[];simp
 |p::r,kvs,hn,hd=>by
  rw[List.map_cons,List.nodup_cons] at hn
  show fV (putK kvs p.1 p.2) r=_
  rw[sF p.2 (hd p.1 (by simp)),iN r (kvs++[(p.1,p.2)]) hn.2 fun k hk=>?_]
  ·simp
  ·refine mf (hd k (by simp[List.mem_map] at hk ⊢;exact .inr hk)) fun e=>hn.1 (by rw[show p.1=k from e];exact hk)
end L2
namespace PySem
open Sem (wp)
open AutoSeq1 (wpAny_loadPart')
section
end
end PySem
namespace L2
open PySem PySem.Spec PyProof.Rows
theorem qm{acc:List Value}:∀(n k:Nat),acc.length=n→(∀(j:Nat)(v:Value),acc[j]? =some v→∃t,v=Value.int ((k+j:Nat):Int) t)→bj ((List.range' k n).map fun(i:Nat)=>V.int (i:Int)) acc:=by
 intro n
 induction n generalizing acc with
 |zero=>
  intro k hl _
  have:acc=[]:=List.length_eq_zero_iff.mp hl
  subst this
  exact .nil
 |succ n ih=>
  intro k hl h
  cases acc with
  |nil=>cases hl
  |cons u r=>
   obtain⟨t,e⟩:=h 0 u rfl
   rw[List.range'_succ,List.map_cons]
   refine .cons ⟨t,by simpa using e⟩ (ih (k+1) (by simpa using hl) fun j v q=>?_)
   obtain⟨t,e⟩:=h (j+1) v (by simpa using q)
   exact⟨t,by rw[e];congr 2;omega⟩
noncomputable def zX(ta:TE):TE:=fun σ H Q=>mj ta nM σ H fun vs H1=>∃j:Int,vs=[.int j]∧ -1000000≤j∧j≤1000000∧∀p,H1 p=none→Q (.ref p) (bm H1 p (.lst ((List.range j.toNat).map fun(i:Nat)=>V.int (i:Int))))
theorem v0{X:Cx}{a:Expr}{ta:TE}{p1 p2 q1 q2:Pos}(hc:X.calm=true)(hg:Gl X "list")(hm:X.mg "list"=none)(hg2:Gl X "range")(hm2:X.mg "range"=none)(ha:PE X a ta)(hs:starEach [a] X.env=[(false,eval a X.env)]):
  PE X (.Call (.Name "list" p1) [.Call (.Name "range" p2) [a] [] q2] [] q1) (zX ta):=by
 intro pins s σ H Q I h
 refine Call_ (eK I hg hm boot_list (aW ?_ rfl rfl))
 show wpAny _ _ (spliced ((false,eval (.Call (.Name "range" p2) [a] [] q2) X.env)::backTo q1 (starEach [] X.env))) _ _ s
 refine Calls.spliced_cons ?_
 refine Call_ (eK I hg2 hm2 boot_range (aW (bC ((bG ha dA hs) q2 pins s σ H _ I h) fun us s1 ⟨vs,H1,I1,r1,j,e,b1,b2,q⟩=>?_) hs rfl))
 subst e
 obtain⟨u,rfl,t,rfl⟩:=vals1 r1
 have sz:sizeLine=16777216:=sizeLine_eq
 refine call_range_1 ?_
 refine Calls.spliced_nil ?_
 have hn:Builtin.Range.rangeSize 0 j 1=((j.toNat:Nat):Int):=by rw[rangeSize_one];split<;>omega
 refine call_list_range (I.ok.hd hc) (IsRange.new ..) (small_one (by omega) (by omega) (by omega) (by omega)) hn (by omega) fun h' tk acc c hk hS hacc=>?_
 have hsz:(s1.heap.push {cls:= .type "range",data:= .fields #[.int 0 s1.toks,.int j t,.int 1 (s1.toks+1)]}).objs.size=s1.heap.objs.size+1:=Heap.size_push ..
 have hS':h'.get? (s1.heap.objs.size+1)=some {cls:= .type "list",dict:=none,data:= .seq acc c,slots:= #[]}:=by rw[←hsz];exact hS
 obtain⟨a1,a2⟩:=hacc
 have hv:bj ((List.range j.toNat).map fun(i:Nat)=>V.int (i:Int)) acc.toList:=by
  rw[List.range_eq_range']
  refine qm j.toNat 0 (by simpa using a1) fun k v e=>?_
  obtain⟨t',e'⟩:=a2 k v (by simpa using e)
  exact⟨t',by rw[e'];congr 1;simp⟩
 refine⟨.ref (s1.heap.objs.size+1),_,I1.laid (a:=s1.heap.objs.size+1) (o:= .lst ((List.range j.toNat).map fun(i:Nat)=>V.int (i:Int))) (t':=tk) (h':=h') (fun b o e=>?_) (Nat.le_succ _) ⟨by simp;omega,acc.toList,c,hv,?_⟩,?_,q _ (I1.hok.fresh (Nat.le_succ _))⟩
 ·exact hk b o (ac _ e)
 ·rw[hS']
 ·show Value.ref _=_
  rw[←hsz]
end L2
set_option maxHeartbeats 1000000
namespace Ev
open PySem PySem.W Builtin Builtin.ObjectAttr
variable{vs:Array Value}{base h:Heap}{L a e fI:Addr}{o oe:Obj}{Q:Unit→Shared→Prop}{outer:List Env}
section
variable{prog:Program}{w:World}{A:Around}{E:Value→Shared→Prop}{s:Shared}{K:Frag}{x C:Addr}{ox:Obj}{od:Option Obj}{name:Str}{expr fill:Bool}{Q:Value→Shared→Prop}{tk:Tok}
noncomputable def lP:List Value→Bool
 | .ref _::r=>lP r
 |l=>l==[.type "ValueError",.type "Exception",.type "BaseException",.type "object"]
theorem kA(self:Value):∀{l:List Value},lP l=true→refuseLoop self "__setattr__" l=pure ()
 | .ref c::r,e=>by rw[refuseLoop_ref];exact kA self e
 |[],e=>by cases e
 | .type n::r,e=>by rw[show Value.type n::r=[.type "ValueError",.type "Exception",.type "BaseException",.type "object"] from beq_iff_eq.mp e];exact F.store_ValueError.passes self
 | .none::r,e=>by cases(show Value.none::r=_ from beq_iff_eq.mp e)
 | .bool _::r,e=>by cases(show Value.bool _::r=_ from beq_iff_eq.mp e)
 | .int _ _::r,e=>by cases(show Value.int _ _::r=_ from beq_iff_eq.mp e)
 | .float _ _::r,e=>by cases(show Value.float _ _::r=_ from beq_iff_eq.mp e)
 | .str _ _::r,e=>by cases(show Value.str _ _::r=_ from beq_iff_eq.mp e)
 | .bytes _ _::r,e=>by cases(show Value.bytes _ _::r=_ from beq_iff_eq.mp e)
 | .builtin _::r,e=>by cases(show Value.builtin _::r=_ from beq_iff_eq.mp e)
 | .notImplemented::r,e=>by cases(show Value.notImplemented::r=_ from beq_iff_eq.mp e)
structure ECls(K:Frag)(C:Addr):Prop where
 ga:findIn K (.ref C) "__getattribute__"=some (some (.builtin "BaseException.__getattribute__"))
 gh:findIn K (.ref C) "__getattr__"=some none
 sa:findIn K (.ref C) "__setattr__"=some (some (.builtin "object.__setattr__"))
 base:mroIn K C (.type "BaseException")=some true
 obj:mroIn K C (.type "object")=some true
 hd:hasDictIn K C=true
 cl:findIn K (.ref C) "__class__"=some (some (.builtin "object.__class__"))
 cg:specialIn K (.builtin "object.__class__") "__get__"=some (some (.builtin "getset_descriptor.__get__"))
 ct:takesIn K (.builtin "object.__class__")=some true
 po:(clsIn K C).any (fun cd=>lP cd.mro)=true
theorem ud(e:ECls K C)(X:K.In s.heap)(I:InstAt s.heap x ox C od)
  (h:wpAny (model prog w) A.in1 (Builtin.«object.__getattribute__» ⟨[.ref x,.str name tk],[]⟩) (fun fin s'=>match fin with| .done (.ret v)=>wpAny (model prog w) A (handedOut v) Q E s'| .done _=>False| .again c=>c.quiet=true∧codeAny (model prog w) A c (fun r s'=>match r with| .ok (.ret v)=>wpAny (model prog w) A (handedOut v) Q E s'|_=>False) s') (fun _ _=>False) s):
  wpAny (model prog w) A (getAttrBy (.ref x) (.str name tk) fill expr) Q E s:=by
 obtain⟨hh,g,d,t,os⟩:=s
 have L0:=I.type (M:=model prog w)
 have L1:=looks_findIn (M:=model prog w) X e.ga
 have L2:=looks_findIn (M:=model prog w) X e.gh
 have f3:=F.attr_ValueError.ga.bind (.ref x)
 unfold getAttrBy
 refine wpAny_holding (aa (L0.at (aa (L1.at ?_))))
 show wpAny _ _ (if(onTheHeap (Value.ref C)&&Value.builtin "BaseException.__getattribute__"==Value.builtin "object.__getattribute__")=true then _ else _) _ _ _
 rw[show(onTheHeap (Value.ref C)&&Value.builtin "BaseException.__getattribute__"==Value.builtin "object.__getattribute__")=false by rw[show(Value.builtin "BaseException.__getattribute__"==Value.builtin "object.__getattribute__")=false by decide+kernel];rfl]
 rw[if_neg av]
 unfold getAttrByItsOwn
 refine aa ?_
 show wpAny _ _ (typeLookup (.ref C) "__getattr__") _ _ _
 refine L2.at ?_
 refine aa (wpAny_attempt (wpAny_holding ?_))
 unfold callGetattribute
 rw[show(expr&&onTheHeap (Value.builtin "BaseException.__getattribute__"))=false by cases expr<;>rfl,if_neg av]
 unfold boundAndCalled
 rw[f3]
 refine aa (ae (wpAny_call ?_))
 have hk:builtinKind "BaseException.__getattribute__"=some .slot:=by decide+kernel
 have hsp:splitId "BaseException.__getattribute__"=some ("BaseException","__getattribute__"):=by decide+kernel
 have sub:Looks (model prog w) hh (isInstance (.ref x) (.type "BaseException")) true:=L0.andThen (looks_mroIn X e.base)
 refine codeAny_call_builtin F.attr_ValueError.ga.plain F.entry_bexc_ga (check_slot (M:=model prog w) (s:=⟨hh,g,d,t,os⟩) (i:= "BaseException.__getattribute__") (owner:= "BaseException") hk hsp sub (F.args_bexc_ga (.ref x) (.str name tk)) ?_)
 refine aJ h (fun fin s' z=>?_) fun _ _ z=>z.elim
 cases fin with
 |done f=>
  cases f with
  |ret v=>exact z
  |_=>exact z.elim
 |again c=>
  refine⟨z.1,codeAny_mono z.2 fun r s2 z2=>?_⟩
  rcases r with e|(v|_|_|_)<;>first|exact z2|exact z2.elim
theorem wv{v:Value}(e:ECls K C)(X:K.In s.heap)(I:InstAt s.heap x ox C od)(hf:findObj K C od name=some (.value v))(hh:handedIn v=true)(h:Q v {s with toks:=s.toks+1}):
  wpAny (model prog w) A (getAttr (.ref x) name expr) Q E s:=by
 unfold getAttr
 refine aa (wpAny_mkText (ud (s:={s with toks:=s.toks+1}) e X I ?_))
 obtain⟨h0,g,d,t,os⟩:=s
 have L0:=I.type (M:=model prog w)
 have L1:=looks_find (M:=model prog w) X I hf
 unfold Builtin.«object.__getattribute__» slotArgs
 refine aa ?_
 refine ae ?_
 refine aa (ae (aa (L0.at (aa (L1.at ?_)))))
 refine ae ?_
 show wpAny _ _ (handedOut v) _ _ _
 rw[handedOut_of hh]
 exact ae h
theorem qS{Q:Option Value→Shared→Prop}(e:ECls K C)(X:K.In s.heap)(I:InstAt s.heap x ox C od)(h:Q (some (.ref C)) {s with toks:=s.toks+1}):wpAny (model prog w) A (getAttr? (.ref x) "__class__") Q E s:=by
 have hf:findObj K C od "__class__"=some (.bind (.builtin "getset_descriptor.__get__") (.builtin "object.__class__")):=by
  obtain⟨cd,hc,_⟩:=any_some e.hd
  unfold findObj
  rw[hc,Option.bind_some,e.cl,Option.bind_some]
  simp[e.cg,e.ct]
 unfold getAttr? getAttrBy?
 refine aa (wpAny_mkText (aa (wpAny_attempt (ud (s:={s with toks:=s.toks+1}) e X I ?_))))
 obtain⟨h0,g,d,t,os⟩:=s
 have L0:=I.type (M:=model prog w)
 have L1:=looks_find (M:=model prog w) X I hf
 unfold Builtin.«object.__getattribute__» slotArgs
 refine aa ?_
 refine ae ?_
 refine aa (ae (aa (L0.at (aa (L1.at ?_)))))
 show wpAny _ _ (holding [Value.builtin "object.__class__"] (call (.builtin "getset_descriptor.__get__") [.builtin "object.__class__",.ref x,.ref C])>>=ret) _ _ _
 refine aa (wpAny_holding (wpAny_call (class_get (s:=⟨h0,g,d,t+1,os⟩) X I e.obj (ae ?_))))
 show wpAny _ _ (handedOut (.ref C)) _ _ _
 exact ae (ae h)
variable{R:Result→Shared→Prop}{v:Value}
theorem p0(e:ECls K C)(X:K.In s.heap)(I:InstAt s.heap x ox C od)(ht:findIn K (.ref C) name=some none)
  (h:wpAny (model prog w) A.in1 (storeInOwnDict (.ref x) (.ref C) (.str name tk) name v false) (fun fin s'=>match fin with| .done f=>R (.ok f) s'| .again c'=>c'.quiet=true∧codeAny (model prog w) A c' R s') (fun e s'=>R (.error e) s') s):
  codeAny (model prog w) A (.call (.builtin "object.__setattr__") ⟨[.ref x,.str name tk,v],[]⟩) R s:=by
 have SF:=F.store_ValueError
 obtain⟨cd,hc,ho⟩:=any_some e.po
 have sub:Looks (model prog w) s.heap (isInstance (.ref x) (.type "object")) true:=I.type.andThen (looks_mroIn X e.obj)
 refine codeAny_call_builtin SF.slot.plain SF.entry (@check_slot (model prog w) _ _ s "object.__setattr__" "object" "__setattr__" (.ref x) [.str name tk,v] [] _ SF.kind SF.split sub (SF.args (.ref x) (.str name tk) v) ?_)
 have hm:Looks (model prog w) s.heap (mroOf (.ref C)) cd.mro:=(looks_clsIn X hc).andThen .now
 rw[osa_eq,refuse_eq]
 refine aa (aa (I.type.here (aa (hm.here ?_))))
 rw[kA _ ho]
 refine ae (aa (I.type.here (aa ((looks_findIn X ht).here (aa (ae ?_))))))
 exact h
theorem t7{Q:Unit→Shared→Prop}(e:ECls K C)(X:K.In s.heap)(hx:s.heap.get? x=some ox)(hc:ox.cls=.ref C)(hd:ox.dict=none)(hdt:ox.data=.fields vs)(ht:findIn K (.ref C) name=some none)
  (h:∀h',h'.Ns1 s.heap.objs.size (fun y=>if y=name then some v else none)→h'.get? x=some {ox with dict:=some s.heap.objs.size}→(∀b o,b≠x→s.heap.get? b=some o→h'.get? b=some o)→Q () {s with heap:=h',toks:=s.toks+2}):
  wpAny (model prog w) A (setAttr (.ref x) name v) Q E s:=by
 have I:InstAt s.heap x ox C none:=⟨hx,hc,by unfold notCls;rw[hdt],by rw[hd];trivial⟩
 refine set_plain X I e.sa (p0 (s:={s with toks:=s.toks+1}) e X I ht ?_)
 obtain⟨cd,hcd,hdd⟩:=any_some e.hd
 refine aa (ae (aa ?_))
 show wpAny _ _ (instanceDict x true) _ _ _
 unfold instanceDict
 refine aa (wpAny_loadPart hx ?_)
 rw[hc]
 refine aa (Looks.here (s:={s with toks:=s.toks+1}) (looks_clsIn X hcd) ?_)
 rw[hdd,hd]
 simp only[Bool.not_true,Bool.false_eq_true,if_false,typeHasDict,Bool.or_self]
 rw[hdt]
 have hx₁:(s.heap.push {cls:= .type "dict",data:= .dict #[]}).get? x=some ox:=ac _ hx
 have hne:x≠s.heap.objs.size:=ak (ai hx)
 refine aa (wpAny_alloc' (aa (wpAny_update' hx₁ ?_)))
 refine ae ?_
 have gd:((s.heap.push {cls:= .type "dict",data:= .dict #[]}).update x fun o=>{o with dict:=some s.heap.objs.size}).get? s.heap.objs.size=some {cls:= .type "dict",data:= .dict #[]}:=
  (Heap.get?_update_ne _ _ _ _ hne.symm).trans (Heap.get?_push_at rfl rfl)
 have nd:((s.heap.push {cls:= .type "dict",data:= .dict #[]}).update x fun o=>{o with dict:=some s.heap.objs.size}).Ns s.heap.objs.size (fun _=>none):=⟨_,#[],_,gd,rfl,fun e he=>absurd he (by simp),fun _=>rfl⟩
 show wpAny _ _ (storeInDict s.heap.objs.size (.str name s.toks) name v) _ _ _
 unfold storeInDict newKeyGuard
 refine aa (ae (aa (wpAny_nsSet1 (Heap.Ns1.of_empty nd) fun h' hn hs=>?_)))
 obtain⟨oD,eD,pD,gD,dD,cD⟩:=hn.count (Within.cons name v Within.nil)
 refine aa (wpAny_lookBehind gD (by rw[dD];exact pastItsLine_dict (aP cD (by rw[List.length_cons,List.length_nil,sizeLine_eq];omega))) ?_)
 refine ae (h h' hn ?_ fun b o hb q=>?_)
 ·refine(hs.2 x hne).trans (Heap.get?_update_self _ hx₁ ?_)
  obtain⟨a1,a2,a3,a4⟩:=ox
  cases hdt
  rfl
 ·exact(hs.2 b (ak (ai q))).trans ((Heap.get?_update_ne _ _ _ _ hb).trans (ac _ q))
theorem t6{Q:Unit→Shared→Prop}{dx:Addr}{mA:Str→Option Value}{ns:List Str}(e:ECls K C)(X:K.In s.heap)(hx:s.heap.get? x=some ox)(hc:ox.cls=.ref C)(hd:ox.dict=some dx)(hdt:ox.data=.fields vs)(hn:s.heap.Ns1 dx mA)(hw:Within mA ns)(hz:ns.length≤sizeLine)(ht:findIn K (.ref C) name=some none)
  (h:∀h',h'.Ns1 dx (fun y=>if y=name then some v else mA y)→Heap.SameBut dx s.heap h'→Q () {s with heap:=h',toks:=s.toks+2}):
  wpAny (model prog w) A (setAttr (.ref x) name v) Q E s:=by
 have I:InstAt s.heap x ox C (some (Classical.choose hn)):=⟨hx,hc,by unfold notCls;rw[hdt],by rw[hd];obtain⟨_,_,q,_⟩:=Classical.choose_spec hn;exact q⟩
 refine set_plain X I e.sa (p0 (s:={s with toks:=s.toks+1}) e X I ht ?_)
 obtain⟨cd,hcd,hdd⟩:=any_some e.hd
 refine aa (ae (aa ?_))
 show wpAny _ _ (instanceDict x true) _ _ _
 unfold instanceDict
 refine aa (wpAny_loadPart hx ?_)
 rw[hc]
 refine aa (Looks.here (s:={s with toks:=s.toks+1}) (looks_clsIn X hcd) ?_)
 rw[hdd,hd]
 refine ae ?_
 show wpAny _ _ (storeInDict dx (.str name s.toks) name v) _ _ _
 unfold storeInDict newKeyGuard
 refine aa (ae (aa (wpAny_nsSet1 (s:={s with toks:=s.toks+1}) hn fun h' hn' hs=>?_)))
 obtain⟨oD,eD,pD,gD,dD,cD⟩:=hn'.count (Within.cons name v hw)
 refine aa (wpAny_lookBehind gD (by rw[dD];exact pastItsLine_dict (aP cD (by rw[List.length_cons];omega))) ?_)
 exact ae (h h' hn' hs)
noncomputable def lc(K:Frag)(N:Addr):Bool:=match K.lookup N with
 |some ⟨_,_,.dict es _,_⟩=>es.toList.all fun y=>match y.key with| .str _ _=>true|_=>false
 |_=>false
theorem AI{N:Addr}{n:Str}(X:K.In h)(hs:lc K N=true)(hn:nsIn K N n=some none):∃m,h.Ns N m∧m n=none:=by
 unfold lc at hs
 unfold nsIn at hn
 split at hs
 ·rename_i c d es k sl q
  rw[q] at hn
  refine⟨nsFind es,⟨_,es,k,X _ _ q,rfl,fun y hy=>?_,fun _=>rfl⟩,?_⟩
  ·have:=List.all_eq_true.mp hs y (Array.mem_toList_iff.mpr hy)
   split at this
   ·rename_i a b z;exact⟨a,b,z⟩
   ·cases this
  ·dsimp only at hn
   split at hn
   ·cases hn
   ·rename_i z
    unfold nsFind findBy
    rw[←Array.find?_toList,z]
    rfl
 ·cases hs
noncomputable abbrev uW:List Value:=[.type "ValueError",.type "Exception",.type "BaseException",.type "object"]
structure EMk(K:Frag)(C:Addr):Prop where
 ob:∃(nm q:Str)(N S:Addr)(bs:List Value)(hdct:Bool)(sn:List Str) (sub:List Value)(ab:Bool)(col:Option Bool) (dd:Option Addr)(k0 k1 k2 k3 k5:Option Value)(c0:Value) (d0:Option Addr)(cd:ClassData)(sl:Array (Option Value)),
  K.lookup C=some (excClassObj nm q C N bs (.ref S::uW) hdct sn sub ab col dd k0 k1 k2 k3 k5 "ValueError.__new__")∧K.lookup S=some ⟨c0,d0,.cls cd,sl⟩∧lc K cd.ns=true∧nsIn K cd.ns "__init__"=some none
noncomputable abbrev dO(us:List Value):Obj:={cls:= .type "tuple",data:= .seq us.toArray}
noncomputable abbrev fg(C t:Addr):Obj:={cls:= .ref C,data:= .fields #[.ref t,.none,.none,.none,.bool false,.none]}
theorem j_{us:List Value}{Q:Fin→Shared→Prop}{g:Array GenState}{d:Drawn}{t:Nat}{os:OsState}(m:EMk K C)(X:K.In h)(hi:findIn K (.ref C) "__init__"=some (some (.ref fI)))(hf:typeIn K (.ref fI)=some (.type "function"))(hz:us.length≤sizeLine)
  (hq:wpAny (model prog w) A (call (.ref fI) (.ref (h.objs.size+1)::us)) (fun r s'=>r=.none∧Q (.done (.ret (.ref (h.objs.size+1)))) s') E ⟨(h.push (dO us)).push (fg C h.objs.size),g,d,t,os⟩):
  wpAny (model prog w) A (Builtin.«type.__call__» ⟨.ref C::us,[]⟩) Q E ⟨h,g,d,t,os⟩:=by
 obtain⟨nm,q,N,S,bs,hdct,sn,sub,ab,col,dd,k0,k1,k2,k3,k5,c0,d0,cd,sl,kC,kS,sd,ni⟩:=m.ob
 have hC:=X _ _ kC
 obtain⟨mS,nS,zS⟩:=AI X sd ni
 have T:OwnTail h uW (.ref S::uW):= .own (X _ _ kS) nS zS .base
 have FV:=F.excBase_ValueError
 repeat (first|with_reducible refine wpAny_loadPart_at hC ?_|with_reducible refine wpAny_madeBy_exc hC ?_|wp_step)
 refine codeAny_call_builtin_code (Code.quiet_builtin _ FV.quiet) (wpAny_check_new_subU FV FV.hasB T hC (codeAny_exc_new_subU FV FV.hasB FV T hC ?_ hz))
 show wpAny _ _ _ _ _ _
 have keep:∀b o,h.get? b=some o→((h.push (dO us)).push (fg C h.objs.size)).get? b=some o:=fun b o z=>ac _ (ac _ z)
 have gE:((h.push (dO us)).push (fg C h.objs.size)).get? (h.objs.size+1)=some (fg C h.objs.size):=by heap_get
 have X1:=X.keeps keep
 have cc:(Value.ref C:: .ref S::uW).contains (.ref C)=true:=by simp
 unfold isInstance
 repeat (first|with_reducible refine wpAny_loadPart_at gE ?_|(with_reducible refine wpAny_isSubtype_exc (keep _ _ hC) ?_;rw[cc])|wp_step)
 show wpAny _ _ (typeLookup (.ref C) _) _ _ _
 refine(looks_findIn X1 hi).at ?_
 refine wpAny_holding (aa ((bind_fn X1 (.ref (h.objs.size+1)) hf).at ?_))
 refine aa (aJ hq (fun r s' z=>?_) fun _ _ z=>z)
 obtain⟨rfl,z⟩:=z
 wp_walk
 exact z
theorem wu{us:List Value}(m:EMk K C)(X:K.In s.heap)(hi:findIn K (.ref C) "__init__"=some (some (.ref fI)))(hf:typeIn K (.ref fI)=some (.type "function"))(hz:us.length≤sizeLine)
  (hq:wpAny (model prog w) (A.under (.builtin "type.__call__" ⟨.ref C::us,[]⟩)) (call (.ref fI) (.ref (s.heap.objs.size+1)::us)) (fun r s'=>r=.none∧Q (.ref (s.heap.objs.size+1)) s') E {s with heap:=(s.heap.push (dO us)).push (fg C s.heap.objs.size)}):
  wpAny (model prog w) A (call (.ref C) us) Q E s:=by
 obtain⟨h,g,d,t,os⟩:=s
 have hob:=m.ob
 obtain⟨nm,q,N,S,bs,hdct,sn,sub,ab,col,dd,k0,k1,k2,k3,k5,c0,d0,cd,sl,kC,kS,sd,ni⟩:=m.ob
 have hC:=X _ _ kC
 have f1:=tc_lookup
 have f2:=tc_bind (.ref C)
 have hT:(⟨h,g,d,t,os⟩:Shared).TypeIs (.ref C) "type":=⟨_,hC,rfl⟩
 refine wpAny_call (codeAny_of_tree ?_)
 show wpAny _ _ (callAny (.ref C) _) _ _ _
 repeat (any_goals (first|assumption|with_reducible refine wpAny_loadPart_at hC ?_|wp_step))
 refine⟨rfl,codeAny_call_builtin_at (Code.quiet_builtin _ (by decide+kernel)) entry_typeCall (wpAny_check_type_call_sub hC (j_ m X hi hf hz ?_))⟩
 exact hq
theorem qR{y:Sem Value}{env:Env}{Q:Flow→Shared→Prop}(hh:A.handled=none)
  (h:wpAny (model prog w) A y (fun v s₁=>∃a D d vs sl,v=.ref a∧K.In s₁.heap∧EMk K D∧mroIn K D (.type "BaseException")=some true∧s₁.heap.get? a=some ⟨.ref D,d,.fields vs,sl⟩∧vs[1]? =some .none∧E (.ref a) s₁) E s):
  wpAny (model prog w) A (raiseStmt env (some y) none) Q E s:=by
 unfold raiseStmt
 refine aa (aJ h (fun v s₁ h₁=>?_) fun _ _ z=>z)
 obtain⟨a,D,d,vs,sl,rfl,X,m,mb,he,h1,hE⟩:=h₁
 obtain⟨hp,g,dr,tk,os⟩:=s₁
 obtain⟨nm,q,N,S,bs,hdct,sn,sub,ab,col,dd,k0,k1,k2,k3,k5,c0,d0,cd,sl0,kC,kS,sd,ni⟩:=m.ob
 have hC:=X _ _ kC
 have LB:=looks_mroIn (M:=model prog w) X mb
 repeat (first|with_reducible refine wpAny_loadPart_at he ?_|with_reducible refine wpAny_loadPart_at hC ?_|with_reducible refine LB.at ?_|with_reducible refine aH he rfl h1 ?_|wp_step)
 exact wpAny_raiseNew_none hh hE
structure ECat(K:Frag)(D:Addr):Prop where
 ob:∃d cd sl,K.lookup D=some ⟨.type "type",d,.cls cd,sl⟩
 base:mroIn K D (.type "BaseException")=some true
theorem m4{D:Addr}{Q:Bool→Shared→Prop}{M:Model}(X:K.In s.heap)(c:ECat K D)(ho:s.heap.get? a=some o)(hc:o.cls=.ref C)(hs:mroIn K C (.ref D)=some true)(h:Q true s):wpAny M A (excMatches (.ref a) (.ref D)) Q E s:=by
 obtain⟨hp,g,dr,tk,os⟩:=s
 obtain⟨d,cd,sl,kD⟩:=c.ob
 have hD:=X _ _ kD
 have f:=tc_notTuple
 have LB:=looks_mroIn (M:=M) X c.base
 have LS:=looks_mroIn (M:=M) X hs
 unfold excMatches
 repeat (first|(with_reducible refine wpAny_loadPart_at ho ?_;rw[hc])|with_reducible refine wpAny_loadPart_at hD ?_|with_reducible refine LB.at ?_|with_reducible refine LS.at ?_|wp_step)
 exact h
theorem oJ{D:Addr}{t:Expr}{n:Str}{b₀:Stmt}{suite:List Stmt}{pos:Pos}{rest:List ExceptHandler}{Q:Flow→Shared→Prop}{env:Env}(c:ECat K D)(hs:mroIn K C (.ref D)=some true)
  (h:wpAny (model prog w) (A.mark (some (.ref a))) (eval t env) (fun v s₁=>v=.ref D∧K.In s₁.heap∧(∃o,s₁.heap.get? a=some o∧o.cls=.ref C)∧
   wpAny (model prog w) (A.mark (some (.ref a))) (setFlight (.ref a) none) (fun _ s₂=>wpAny (model prog w) (A.mark (some (.ref a))) (storeName env n (.ref a)) (fun _ s₃=>
    wpAny (model prog w) (A.mark (some (.ref a))) (execs (b₀::suite) env) (fun f s₄=>wpAny (model prog w) A (do bindName env n .none;unbindBehindTheSuite env n pos) (fun _ s₅=>Q f s₅) E s₄) (fun _ _=>False) s₃) (fun _ _=>False) s₂) (fun _ _=>False) s₁) (fun _ _=>False) s):
  wpAny (model prog w) A (handleBy (.ref a) env (.ExceptHandler (some t) (some n) (b₀::suite) pos::rest)) Q E s:=by
 refine wpAny_handleBy_cons (codeAny_handlers_test (aJ h (fun v s₁ z=>?_) fun _ _ z=>z.elim)) (by intro z;cases z)
 obtain⟨rfl,X,⟨o,ho,hc⟩,k⟩:=z
 refine m4 X c ho hc hs (codeAny_handlers_suite_as ?_)
 refine aJ k (fun _ s₂ z=>aJ z (fun _ s₃ z=>aJ z (fun f s₄ z=>z) fun _ _ z=>z.elim) fun _ _ z=>z.elim) fun _ _ z=>z.elim
end
open PySem PySem.W
theorem iP{α:Type}(p:α→Bool):∀(l:List α)(i:Nat),(∀x,l[i]? =some x→p x=false)→(l.eraseIdx i).find? p=l.find? p
 |[],_,_=>rfl
 |x::l,0,h=>by
  have:p x=false:=h x rfl
  rw[List.eraseIdx_cons_zero,List.find?_cons,this]
 |x::l,i+1,h=>by
  rw[List.eraseIdx_cons_succ,List.find?_cons,List.find?_cons,iP p l i fun y hy=>h y (by simpa using hy)]
section
variable{M:Model}{A:Around}{E:Value→Shared→Prop}{s:Shared}{env:Env}
theorem j6{es:Array DictEntry}{name y:Str}{i:Nat}(hi:es.findIdx? (fun e=>e.key.isStr name)=some i)(hk:StrKeys es)(hy:y≠name):nsFind (es.eraseIdxIfInBounds i) y=nsFind es y:=by
 obtain⟨hlt,hp,_⟩:=Array.findIdx?_eq_some_iff_getElem.mp hi
 unfold nsFind findBy
 rw[←Array.find?_toList,←Array.find?_toList]
 have e:(es.eraseIdxIfInBounds i).toList=es.toList.eraseIdx i:=by
  unfold Array.eraseIdxIfInBounds
  rw[dif_pos hlt,Array.toList_eraseIdx]
 rw[e,iP]
 intro x hx
 have hx':es[i]=x:=by
  have:es.toList[i]? =some es[i]:=by simp[hlt]
  rw[this] at hx
  exact aj hx
 obtain⟨n,t,q⟩:=hk x (by rw[←hx'];exact Array.getElem_mem hlt)
 rw[hx',q] at hp
 rw[q]
 have hn:n=name:=by simpa[Value.isStr] using hp
 simp[Value.isStr,hn]
 exact fun z=>hy z.symm
theorem yA{m:Str→Option Value}{name:Str}{Q:Bool→Shared→Prop}(hn:s.heap.Ns a m)(hs:(m name).isSome=true)
  (hQ:∀h' m',h'.Ns a m'→(∀y,y≠name→m' y=m y)→Heap.SameBut a s.heap h'→Q true {s with heap:=h'}):wpAny M A (nsDel a name) Q E s:=by
 obtain⟨o,es,ep,ho,hd,hk,hm⟩:=id hn
 have hfound:∃i,es.findIdx? (fun e=>e.key.isStr name)=some i:=by
  cases q:es.findIdx? (fun e=>e.key.isStr name) with
  |some i=>exact⟨i,rfl⟩
  |none=>
   rw[←hm name] at hs
   unfold nsFind at hs
   rw[findBy_of_findIdx?,q] at hs
   cases hs
 obtain⟨i,hi⟩:=hfound
 obtain⟨hlt,hp,_⟩:=Array.findIdx?_eq_some_iff_getElem.mp hi
 have hall:(es.any fun e=>e.key.isStr name)=true:=Array.any_eq_true.mpr ⟨i,hlt,hp⟩
 have hhas:nsHas name o=pure true:=by
  rw[nsHas_eq]
  unfold nsHasByArray
  rw[hd]
  dsimp only
  rw[hall]
  rfl
 unfold nsDel
 refine aa (wpAny_loadPart ho ?_)
 rw[hhas]
 refine aa (ae (aa (wpAny_updatePart ho (ae ?_))))
 obtain⟨cl,d,dt,sl⟩:=o
 cases hd
 refine hQ _ (nsFind (es.eraseIdxIfInBounds i)) ⟨⟨cl,d,.dict (es.eraseIdxIfInBounds i) (ep+1),sl⟩,_,ep+1,?_,rfl,hk.erase i,fun _=>rfl⟩ (fun y hy=>?_) (Heap.SameBut.update ..)
 ·rw[Heap.get?_update_self _ ho (by simp only[Obj.dropName_eq,Obj.dropNameByArray,hi]<;>rfl)]
  simp only[Obj.dropName_eq,Obj.dropNameByArray,hi]
 ·rw[j6 hi hk hy,hm y]
theorem ko{n:Str}{pos:Pos}{m:Str→Option Value}(hl:env.kindOf n=some .local)(hn:s.heap.Ns env.locals m)
  (hp:(env.scope.kind== .class||(env.scope.kind== .module&&env.locals !=env.globals))=false)
  (h:∀h' m',h'.Ns env.locals m'→(∀y,y≠n→m' y=m y)→Heap.SameBut env.locals s.heap h'→Q () {s with heap:=h',toks:=s.toks+1}):
  wpAny M A (do bindName env n .none;unbindBehindTheSuite env n pos) Q E s:=by
 refine aa (wpAny_bindName (wpAny_storeName_local hl hn (fun h1 hn1 hs1=>?_) hp))
 unfold unbindBehindTheSuite
 refine wpAny_onRaise ?_
 unfold unbindName
 refine aa (wpAny_point (aa ?_))
 unfold deleteName
 simp only[hl,hp]
 rw[if_neg (by decide)]
 refine aa (yA hn1 (by simp) fun h2 m2 hn2 k2 hs2=>?_)
 simp only[Bool.not_true,Bool.false_eq_true,if_false]
 exact ae (wpAny_point (h h2 m2 hn2 (fun y hy=>by rw[k2 y hy,if_neg hy]) (hs1.trans hs2)))
end
open PySem
section
variable{M:Model}{A:Around}{E:Value→Shared→Prop}{s:Shared}
noncomputable abbrev B7(l:List Env):List Addr:=l.filterMap (·.frame)
structure Noted(l:List Env)(e T:Addr)(oe:Obj)(fl:Value)(h h':Heap):Prop where
 at_:h'.get? e=some (oe.mapFields (·.setIfInBounds 1 (.ref T)))
 new:h.objs.size≤T
 tr:∃oT ts,h'.get? T=some oT∧oT.data=.fields ts∧ts[3]? =some fl
 keep:∀b o,b∉B7 l→b≠e→h.get? b=some o→h'.get? b=some o
 slot:∀b o,b≠e→h.get? b=some o→∃sl,h'.get? b=some {o with slots:=sl}
theorem mE{env:Env}{head:Value}{hadNext:Bool}
  (hfr:A.frames=some (env::outer))(hl:s.heap.FunFrames base (env::outer))(hf:env.frame=some L)(he:s.heap.get? e=some oe)(hd:oe.data=.fields vs)(hsz:1<vs.size)
  (h:∀h' T,Noted (env::outer) e T oe (rawInt L) s.heap h'→Q () {s with heap:=h'}):
  wpAny M A (do let a ←frameOf env;let pl ←entryPlaceOf L hadNext;let b ←EntryCells.newEntry head a .none (rawInt L) .none pl;setField (.ref e) 1 b) Q E s:=by
 have ne:e∉B7 (env::outer):=fun hm=>by
  obtain⟨_,o,ho,hnf⟩:=hl.mem hm
  rw[he] at ho
  cases ho
  exact hnf vs hd
 refine aa (wpAny_frameOf_fun hfr hl hf fun h1 hs1=>aa (wpAny_entryPlaceOf fun pl hpl=>?_))
 unfold EntryCells.newEntry newFields
 refine aa (wpAny_newObj_type ?_ (hpl.sizeOk5 _ _ _ _ _))
 have he1:h1.get? e=some oe:=(hs1.2.1 e ne).trans he
 have he2:=ac (h:=h1) {cls:= .type "traceback",dict:=none,data:= .fields ([head,.ref L,.none,rawInt L,.none]++(if pl.isEmpty then List.replicate 6 Value.none else pl)).toArray} he1
 have hTe:h1.objs.size≠e:=aR (ai he1)
 refine wpAny_setField he2 hd hsz (h _ h1.objs.size ⟨?_,Nat.le_of_eq hs1.1.symm,?_,fun b o hb hbe hh=>?_,fun b o hbe hh=>?_⟩)
 ·exact Heap.get?_update_self _ he2 (Obj.isFreed_of_fields (Obj.data_mapFields hd _))
 ·refine⟨_,_,(Heap.get?_update_other _ _ hTe.symm).trans (aq h1 rfl),rfl,?_⟩
  first|(simp;done)|(rcases hpl with rfl|⟨_,_,_,_,_,_,_,rfl⟩<;>simp)
 ·rw[Heap.get?_update_other _ _ (Ne.symm hbe)]
  exact ac _ ((hs1.2.1 b hb).trans hh)
 ·obtain⟨sl,q⟩:=hs1.2.2 b o hh
  exact⟨sl,(Heap.get?_update_other _ _ (Ne.symm hbe)).trans (ac _ q)⟩
noncomputable def Cq(n:Nat)(e:Addr)(oe:Obj)(h:Heap):Prop:=
 ∃vs,oe.data=.fields vs∧1<vs.size∧(vs[1]? =some .none∨∃T oT ts,vs[1]? =some (.ref T)∧n≤T∧T≠e∧h.get? T=some oT∧oT.data=.fields ts∧ts[3]? =some .none)
theorem mq{ts:Array Value}{i:Nat}{v:Value}(hd:o.data=.fields ts)(h:ts[i]? =some v):o.mapFields (·.setIfInBounds i v)=o:=by
 obtain⟨c,d,dt,sl⟩:=o
 cases hd
 have:ts.setIfInBounds i v=ts:=by
  apply Array.ext
  ·simp
  ·intro j h1 h2
   rw[Array.getElem_setIfInBounds]
   split
   ·rename_i hj
    subst hj
    obtain⟨_,q⟩:=Array.getElem?_eq_some_iff.mp h
    exact q.symm
   ·rfl
 show Obj.mk c d (.fields (ts.setIfInBounds i v)) sl=_
 rw[this]
theorem mZ{env:Env}{n:Nat}
  (hfr:A.frames=some (env::outer))(hl:s.heap.FunFrames base (env::outer))(hf:env.frame=some L)(he:s.heap.get? e=some oe)(hy:Cq n e oe s.heap)
  (h:∀h' T,Noted (env::outer) e T oe (rawInt L) s.heap h'→Q () {s with heap:=h'}):wpAny M A (noteFrame (.ref e) env) Q E s:=by
 obtain⟨vs,hd,hsz,hv⟩:=hy
 unfold noteFrame
 simp only[hf]
 rcases hv with h1|⟨T,oT,ts,h1,hnT,hTe,hT,hdT,h3⟩
 ·refine aa (aH he hd h1 ?_)
  rw[if_neg (by decide)]
  exact mE hfr hl hf he hd hsz h
 ·refine aa (aH he hd h1 ?_)
  rw[if_pos (show(Value.ref T !=Value.none)=true from by simp)]
  refine aa (aH hT hdT h3 ?_)
  rw[if_neg (show ¬((Value.none==rawInt L)=true) from by simp[rawInt])]
  refine aa (wpAny_setField hT hdT (Array.getElem?_eq_some_iff.mp h3).1 ?_)
  have sameT:(s.heap.update T (Obj.mapFields (·.setIfInBounds 3 Value.none))).get? T=some oT:=by
   rw[Heap.get?_update_self _ hT (Obj.isFreed_of_fields (Obj.data_mapFields hdT _))]
   exact congrArg some (mq hdT h3)
  have same:∀b o,s.heap.get? b=some o→(s.heap.update T (Obj.mapFields (·.setIfInBounds 3 Value.none))).get? b=some o:=fun b o q=>by
   by_cases hb:b=T
   ·subst hb;rw[sameT,←hT,q]
   ·exact(Heap.get?_update_other _ _ (Ne.symm hb)).trans q
  refine mE (s:={s with heap:=s.heap.update T (Obj.mapFields (·.setIfInBounds 3 Value.none))}) hfr (hl.of_keeps fun b o q _=>⟨o,same b o q,rfl⟩) hf (same e oe he) hd hsz fun h' T' z=>h h' T' ⟨z.at_,?_,z.tr,fun b o hb hbe q=>z.keep b o hb hbe (same b o q),fun b o hbe q=>z.slot b o hbe (same b o q)⟩
  have:=z.new
  simpa using this
theorem jM{l:List Env}{T:Addr}{fl:Value}(hd:oe.data=.fields vs)(hsz:1<vs.size)(he:h.get? e=some oe)(z:Noted l e T oe fl h s.heap)
  (hQ:∀h',Noted l e T oe .none h h'→Q () {s with heap:=h'}):wpAny M A (setFlight (.ref e) none) Q E s:=by
 obtain⟨oT,ts,hT,hdT,h3⟩:=z.tr
 have hTe:T≠e:=fun q=>by subst q;exact absurd (am (ai he) z.new) (bg _)
 have hd3:=Obj.data_mapFields hd (·.setIfInBounds 1 (Value.ref T))
 unfold setFlight
 refine aa (aH z.at_ hd3 (x:= .ref T) (by simp[hsz]) ?_)
 rw[if_pos (show(Value.ref T !=Value.none)=true from by simp)]
 have hs3:3<ts.size:=(Array.getElem?_eq_some_iff.mp h3).1
 have nT:∀b o,h.get? b=some o→b≠T:=fun b o q w=>by subst w;exact absurd (am (ai q) z.new) (bg _)
 refine wpAny_setField hT hdT hs3 (hQ _ ⟨(Heap.get?_update_other _ _ hTe).trans z.at_,z.new,⟨_,_,Heap.get?_update_self _ hT (Obj.isFreed_of_fields (Obj.data_mapFields hdT _)),Obj.data_mapFields hdT _,by simp[hs3]⟩,fun b o hb hbe q=>?_,fun b o hbe q=>?_⟩)
 ·exact(Heap.get?_update_other _ _ (Ne.symm (nT b o q))).trans (z.keep b o hb hbe q)
 ·obtain⟨sl,w⟩:=z.slot b o hbe q
  exact⟨sl,(Heap.get?_update_other _ _ (Ne.symm (nT b o q))).trans w⟩
theorem qO{env:Env}{n:Nat}
  (hfr:A.frames=some (env::outer))(hl:s.heap.FunFrames base (env::outer))(hf:env.frame=some L)(he:s.heap.get? e=some oe)(hy:Cq n e oe s.heap)
  (h:∀h' T,Noted (env::outer) e T oe .none s.heap h'→Q () {s with heap:=h'}):wpAny M A (leaving env (.ref e)) Q E s:=by
 unfold leaving
 refine aa (mZ hfr hl hf he hy fun h1 T z=>?_)
 obtain⟨vs,hd,hsz,_⟩:=hy
 exact jM (s:={s with heap:=h1}) hd hsz he z fun h2 z2=>h h2 T z2
end
end Ev
set_option maxHeartbeats 4000000
namespace PySem
open Sem (wp)
open AutoSeq1 (wpAny_loadPart')
variable{Q:Option Value→Shared→Prop}{a e it l:Addr}
namespace F
theorem m6:entryFor table "enumerate.__getattribute__"=some Builtin.«object.__getattribute__»:=
 entryFor_alias (id':= "object.__getattribute__") (by kernel_rfl) (by first|rfl|decide+kernel) (by decide+kernel) (by kernel_rfl)
theorem ow:typeLookup (.type "enumerate") "keys"=pure none:=by rw[typeLookup_type,builtinLookup_eq_fast];kernel_rfl
theorem tG:typeLookup (.type "enumerate") "__getattr__"=pure none:=by rw[typeLookup_type,builtinLookup_eq_fast];kernel_rfl
theorem cK:plainId "dict.update.loop"=true:=by decide+kernel
theorem f_:entryFor table "dict.update.loop"=some Builtin.«dict.update.loop»:=entryFor_of_fast (by kernel_rfl)
end F
noncomputable abbrev rg(h:Heap)(e it:Addr)(i:Int):Prop:=∃f0 f1 old,(f0=Value.none∨∃a t,f0=Value.int a t)∧
 h.get? e=some {cls:= .type "enumerate",dict:=none,data:= .fields #[f0,f1,.ref it,rawInt i,.none,old],slots:= #[]}
section
variable{prog:Program}{w:World}{A:Around}{E:Value→Shared→Prop}{s:Shared}
theorem uh(a:Addr)(fs:Array Value)(u:Tok):
  Meets (Builtin.«object.__getattribute__» ⟨[.ref a,.str "keys" u],[]⟩) (fun A R s=>s.heap.get? a=some {cls:= .type "enumerate",dict:=none,data:= .fields fs,slots:= #[]}∧raisesAttr (.ref a) "keys" A R s):=
 Meets.of_wp fun prog w A R s hs=>by
  obtain⟨hp,g,d,tk,os⟩:=s
  obtain⟨hx,hs⟩:=hs
  have hT:(⟨hp,g,d,tk,os⟩:Shared).TypeIs (.ref a) "enumerate":=⟨_,hx,rfl⟩
  have f4:=F.ow
  unfold Builtin.«object.__getattribute__»
  repeat (any_goals (first|assumption|wp_step))
  exact wpAny_raiseAttrError hs.1 hs.2 (attrMsg_fits (by decide+kernel) (by size_fits))
theorem wz{fs:Array Value}(hx:s.heap.get? a=some {cls:= .type "enumerate",dict:=none,data:= .fields fs,slots:= #[]})(hA:A.handled=none)
  (h:∀h' tk,(∀b o,s.heap.get? b=some o→h'.get? b=some o)→Q none {s with heap:=h',toks:=tk}):wpAny (model prog w) A (getAttr? (.ref a) "keys") Q E s:=by
 obtain⟨hp,g,d,tk,os⟩:=s
 have hT:∀tk',(⟨hp,g,d,tk',os⟩:Shared).TypeIs (.ref a) "enumerate":=fun _=>⟨_,hx,rfl⟩
 have f1:=sub_AttributeError
 have f3:=F.slot_enumerate_getattribute.lookup
 have f4:=F.slot_enumerate_getattribute.bind (.ref a)
 have f5:=F.tG
 unfold getAttr? getAttrBy? getAttrBy
 repeat (any_goals (first|assumption|exact hT _|((with_reducible show wpAny _ _ (call (Value.builtin "enumerate.__getattribute__") _ _) _ _ _);refine call_meets F.slot_enumerate_getattribute (hT _) F.m6 (F.args_enumerate_getattribute_2 _ _) (uh a fs _) ⟨hx,hA,fun h' tk' e hx'=>?_⟩)|wp_step))
 obtain⟨t',u',he⟩:=hx'.there
 show wpAny _ _ (getattributeRaised _ _ _ _ _ _ _) _ _ _
 unfold getattributeRaised
 repeat (any_goals (first|assumption|wp_step))
 exact h _ _ hx'.keeps
theorem gS{Q:Option Obj→Shared→Prop}(h:Q (s.heap.get? a) s):wpAny (model prog w) A (loadIfAlive a) Q E s:=fun _ _ _=>h
theorem wy{i:Nat}{items:Array Value}{x:Value}{Q:Value→Shared→Prop}
  (he:rg s.heap e it i)(hit:s.heap.IsListIter it l i)(hl:s.heap.IsList l items)(hx:items[i]? =some x)(hne:e≠it)
  (hQ:∀h',rg h' e it ((i:Int)+1)→h'.IsListIter it l (i+1)→
   h'.get? s.heap.objs.size=some {cls:= .type "tuple",data:= .seq #[.int i s.toks,x]}→
   (∀b o,b≠e→b≠it→s.heap.get? b=some o→h'.get? b=some o)→Q (.ref s.heap.objs.size) {s with heap:=h',toks:=s.toks+1}):
  wpAny (model prog w) A (Builtin.«enumerate.__next__» ⟨[.ref e],[]⟩) (fun fin s'=>∃v,fin=.done (.ret v)∧Q v s') E s:=by
 obtain⟨hp,g,d,tk,os⟩:=s
 obtain⟨f0,f1,old,hf,he⟩:=he
 show wpAny _ _ (field (.ref e) 2>>=_) _ _ _
 refine aa (aH he rfl (x:= .ref it) rfl ?_)
 refine aa (wpAny_nextOf_list_item hit hl hx fun h₁ hit₁ hs₁=>?_)
 replace hs₁:Heap.SameBut it hp h₁:=hs₁
 have he₁:=(hs₁.2 e hne).trans he
 show wpAny _ _ (field (.ref e) 3>>=_) _ _ ⟨h₁,g,d,tk,os⟩
 refine aa (aH he₁ rfl (x:=rawInt i) rfl ?_)
 show wpAny _ _ (field (.ref e) 4>>=_) _ _ ⟨h₁,g,d,tk,os⟩
 refine aa (aH he₁ rfl (x:= .none) rfl ?_)
 show wpAny _ _ (mkInt i>>=_) _ _ ⟨h₁,g,d,tk,os⟩
 refine aa (wpAny_mkInt ?_)
 show wpAny _ _ (setField (.ref e) 3 (rawInt ((i:Int)+1))>>=_) _ _ ⟨h₁,g,d,tk+1,os⟩
 refine aa (aX he₁ (by simp) fun h₂ he₂ hs₂=>?_)
 replace hs₂:Heap.SameBut e h₁ h₂:=hs₂
 replace he₂:h₂.get? e=some {cls:= .type "enumerate",dict:=none,data:= .fields #[f0,f1,.ref it,rawInt ((i:Int)+1),.none,old],slots:= #[]}:=he₂
 show wpAny _ _ (setField (.ref e) 4 .none>>=_) _ _ ⟨h₂,g,d,tk+1,os⟩
 refine aa (aX he₂ (by simp) fun h₃ he₃ hs₃=>?_)
 replace hs₃:Heap.SameBut e h₂ h₃:=hs₃
 replace he₃:h₃.get? e=some {cls:= .type "enumerate",dict:=none,data:= .fields #[f0,f1,.ref it,rawInt ((i:Int)+1),.none,old],slots:= #[]}:=he₃
 show wpAny _ _ (newTuple [.int i tk,x]>>=_) _ _ ⟨h₃,g,d,tk+1,os⟩
 refine aa (wpAny_newTuple ?_)
 have he₄:(h₃.push {cls:= .type "tuple",data:= .seq #[.int i tk,x]}).get? e=some {cls:= .type "enumerate",dict:=none,data:= .fields #[f0,f1,.ref it,rawInt ((i:Int)+1),.none,old],slots:= #[]}:=ac _ he₃
 generalize hh₄:h₃.push {cls:= .type "tuple",data:= .seq #[.int i tk,x]}=h₄ at he₄
 have hsz:h₃.objs.size=hp.objs.size:=by rw[hs₃.1,hs₂.1,hs₁.1]
 have hel:e<hp.objs.size:=ai he
 have ht₄:h₄.get? hp.objs.size=some {cls:= .type "tuple",data:= .seq #[.int i tk,x]}:=by rw[←hh₄,←hsz];exact aq _ rfl
 have hk₄:∀b o,b≠e→b≠it→hp.get? b=some o→h₄.get? b=some o:=fun b o hbe hbi hb=>by
  rw[←hh₄];exact ac _ (hs₃.extBut b o hbe (hs₂.extBut b o hbe (hs₁.extBut b o hbi hb)))
 have hit₄:h₄.IsListIter it l (i+1):=by
  rw[←hh₄];obtain⟨o,ho,r⟩:=(hit₁.extBut hs₂.extBut (Ne.symm hne)).extBut hs₃.extBut (Ne.symm hne);exact⟨o,ac _ ho,r⟩
 show wpAny _ _ (Builtin.SmallTypes.ownedTupleIsFree (.ref e)>>=_) _ _ ⟨h₄,g,d,tk+1,os⟩
 rw[hsz]
 clear hh₄ he₃ hs₃ he₂ hs₂ he₁ hs₁ hit₁ hsz h₃ h₂ h₁
 have free:wpAny (model prog w) A (do
   rule "enumerate.__next__.owned-tuple-again"
   let old ←field (.ref e) 5
   setField (.ref e) 5 x
   Builtin.SmallTypes.ownedTupleHandOut (.ref e) (.ref hp.objs.size)
   letGo [old] [.ref hp.objs.size]
   ret (.ref hp.objs.size)) (fun fin s'=>∃v,fin=.done (.ret v)∧Q v s') E ⟨h₄,g,d,tk+1,os⟩:=by
  refine aa (wpAny_rule ?_)
  refine aa (aH he₄ rfl (x:=old) rfl ?_)
  refine aa (aX he₄ (by simp) fun h₅ he₅ hs₅=>?_)
  replace hs₅:Heap.SameBut e h₄ h₅:=hs₅
  refine aa ?_
  unfold Builtin.SmallTypes.ownedTupleHandOut
  refine aa (aX he₅ (by simp) fun h₆ he₆ hs₆=>?_)
  replace hs₆:Heap.SameBut e h₅ h₆:=hs₆
  refine aX he₆ (by simp) fun h₇ he₇ hs₇=>?_
  replace hs₇:Heap.SameBut e h₆ h₇:=hs₇
  refine aa (wpAny_letGo (ae ⟨_,rfl,hQ h₇ ⟨_,_,_,.inr ⟨_,_,rfl⟩,he₇⟩ ?_ ?_ ?_⟩))
  ·exact((hit₄.extBut hs₅.extBut (Ne.symm hne)).extBut hs₆.extBut (Ne.symm hne)).extBut hs₇.extBut (Ne.symm hne)
  ·exact hs₇.extBut _ _ (aR hel) (hs₆.extBut _ _ (aR hel) (hs₅.extBut _ _ (aR hel) ht₄))
  ·exact fun b o hbe hbi hb=>hs₇.extBut b o hbe (hs₆.extBut b o hbe (hs₅.extBut b o hbe (hk₄ b o hbe hbi hb)))
 refine aa ?_
 unfold Builtin.SmallTypes.ownedTupleIsFree
 rcases hf with rfl|⟨a,t,rfl⟩
 ·refine aa (aH he₄ rfl (x:= .none) rfl (ae ?_))
  simp only[if_true]
  exact free
 ·refine aa (aH he₄ rfl (x:= .int a t) rfl ?_)
  refine aa (gS ?_)
  cases hq:h₄.get? a.toNat with
  |none=>
   simp only[Option.isNone_none,if_true]
   refine ae ?_
   simp only[if_true]
   exact free
  |some o=>
   simp only[Option.isNone_some,Bool.false_eq_true,if_false]
   refine aa (aH he₄ rfl (x:=f1) rfl ?_)
   refine wpAny_ite_split (fun _=>?_) (fun _=>?_)
   ·refine aa (aX he₄ (by simp) fun h₅ he₅ hs₅=>?_)
    replace hs₅:Heap.SameBut e h₄ h₅:=hs₅
    refine ae ?_
    simp only[Bool.false_eq_true,if_false]
    refine ae ⟨_,rfl,hQ h₅ ⟨_,_,_,.inr ⟨_,_,rfl⟩,he₅⟩ (hit₄.extBut hs₅.extBut (Ne.symm hne)) (hs₅.extBut _ _ (aR hel) ht₄) fun b o hbe hbi hb=>hs₅.extBut b o hbe (hk₄ b o hbe hbi hb)⟩
   ·refine ae ?_
    simp only[Bool.false_eq_true,if_false]
    exact ae ⟨_,rfl,hQ h₄ ⟨_,_,_,.inr ⟨_,_,rfl⟩,he₄⟩ hit₄ ht₄ hk₄⟩
theorem qV{i:Nat}{items:Array Value}{x:Value}
  (he:rg s.heap e it i)(hit:s.heap.IsListIter it l i)(hl:s.heap.IsList l items)(hx:items[i]? =some x)(hne:e≠it)
  (hQ:∀h',rg h' e it ((i:Int)+1)→h'.IsListIter it l (i+1)→
   h'.get? s.heap.objs.size=some {cls:= .type "tuple",data:= .seq #[.int i s.toks,x]}→
   (∀b o,b≠e→b≠it→s.heap.get? b=some o→h'.get? b=some o)→Q (some (.ref s.heap.objs.size)) {s with heap:=h',toks:=s.toks+1}):
  wpAny (model prog w) A (pyNext (.ref e)) Q E s:=by
 have hT:s.TypeIs (.ref e) "enumerate":=by obtain⟨_,_,_,_,he⟩:=he;exact⟨_,he,rfl⟩
 unfold pyNext
 exact aa (wpAny_attempt (wpAny_callSpecial?_slot (name:=Str.ofString "__next__") hT F.slot_enumerate_next
  (wpAny_call_entry F.slot_enumerate_next hT F.entry_enumerate_next
   (wy he hit hl hx hne fun h' a b c k=>ae (hQ h' a b c k)) (F.args_enumerate_next_1 _))))
theorem ug{i:Nat}{items:Array Value}(hh:A.handled=none)
  (he:rg s.heap e it i)(hit:s.heap.IsListIter it l i)(hl:s.heap.IsList l items)(hx:items[i]? =none)
  (hQ:∀h',Heap.ExtBut it s.heap h'→Q none {s with heap:=h'}):wpAny (model prog w) A (pyNext (.ref e)) Q E s:=by
 obtain⟨_,_,_,_,he⟩:=he
 have hT:s.TypeIs (.ref e) "enumerate":=⟨_,he,rfl⟩
 unfold pyNext
 refine aa (wpAny_attempt (wpAny_callSpecial?_slot (name:=Str.ofString "__next__") hT F.slot_enumerate_next
  (wpAny_call_entry F.slot_enumerate_next hT F.entry_enumerate_next ?_ (F.args_enumerate_next_1 _))))
 show wpAny _ _ (field (.ref e) 2>>=_) _ _ _
 refine aa (aH he rfl (x:= .ref it) rfl ?_)
 refine aa (wpAny_nextOf_list_end hh hit hl hx fun h' x he' hx'=>?_)
 obtain⟨o,ho,hc⟩:=hx'
 refine aa (wpAny_isInstance (T:= "StopIteration") (b:=true) ⟨o,ho,hc⟩ isSubtype_stop ?_)
 exact ae (hQ _ he')
theorem rM{K:Type}[DecidableEq K]{knd:KeyKind prog w K}{key:Nat→K}(hkey:∀(j:Nat)(t:Tok),knd.is (key j) (.int j t)=true)(hinj:∀i j,key i=key j→i=j){R:Result→Shared→Prop}(hh:A.handled=none){d:Addr}(hne:e≠it)(hle:l≠e)(hli:l≠it)(hde:d≠e)(hdi:d≠it)(hdl:d≠l)(items:Array Value)(hsz:items.size≤sizeLine):
  ∀(k i:Nat)(s:Shared),items.size - i=k→i≤items.size→rg s.heap e it i→s.heap.IsListIter it l i→s.heap.IsList l items→s.heap.DictOf knd d ((items.toList.take i).zipIdx.map fun p=>(key p.2,p.1))→
  (∀h' tk,h'.DictOf knd d (items.toList.zipIdx.map fun p=>(key p.2,p.1))→(∀b o,b≠d→b≠e→b≠it→s.heap.get? b=some o→h'.get? b=some o)→R (.ok (.ret .none)) {s with heap:=h',toks:=tk})→
  codeAny (model prog w) A (.builtin "dict.update.loop" ⟨[.ref d,.ref e,rawInt i,.none],[]⟩) R s:=by
 intro k
 induction k with
 |zero=>
  intro i s hk hi he hit hl hd hR
  have hin:i=items.size:=by omega
  subst hin
  refine codeAny_builtin F.f_ ?_
  rw[Around.under_plainId F.cK _]
  show wpAny _ A.in1 (pyNext (.ref e)>>=_) _ _ s
  refine aa (ug hh he hit hl (by simp) fun h' eb=>?_)
  show wpAny _ _ (Builtin.Dict.addKeywords d []>>=_) _ _ _
  refine aa (ae (ae ?_))
  refine hR h' s.toks ?_ fun b o h1 h2 h3 q=>eb b o h3 q
  have:items.toList.take items.size=items.toList:=by rw[←Array.length_toList,List.take_length]
  rw[this] at hd
  exact hd.at fun o q=>eb d o hdi q
 |succ k ih=>
  intro i s hk hi he hit hl hd hR
  have hlt:i<items.size:=by omega
  refine codeAny_builtin F.f_ ?_
  rw[Around.under_plainId F.cK _]
  show wpAny _ A.in1 (pyNext (.ref e)>>=_) _ _ s
  refine aa (qV he hit hl (x:=items[i]) (by simp[hlt]) hne fun h1 he1 hit1 ht1 hk1=>?_)
  refine aa ?_
  refine wpAny_holding ?_
  refine aa (wpAny_tryCatch ?_)
  unfold Builtin.Dict.pairItems
  refine aa (wpAny_typeOf (T:= "tuple") ⟨_,ht1,rfl⟩ ?_)
  rw[if_pos (by decide)]
  refine aa (wpAny_seqItems ht1 rfl (ae ?_))
  show wpAny _ _ (holding [.int i s.toks,items[i]] (dictSet d (.int i s.toks) items[i])) _ _ _
  have hd1:h1.DictOf knd d ((items.toList.take i).zipIdx.map fun p=>(key p.2,p.1)):=hd.at fun o q=>hk1 d o hde hdi q
  refine wpAny_holding (wpAny_dictSet_pairs (s:={s with heap:=h1,toks:=s.toks+1}) (hkey i s.toks) hd1 (fun h2 hd2 hs2=>?_) (by simp;omega))
  replace hs2:Heap.SameBut d h1 h2:=hs2
  refine ae ⟨plainId_quiet F.cK _,?_⟩
  have e1:((i+1:Nat):Int)=(i:Int)+1:=by omega
  have hst:stored ((items.toList.take i).zipIdx.map fun p=>(key p.2,p.1)) (key i) items[i]=(items.toList.take (i+1)).zipIdx.map fun p=>(key p.2,p.1):=by
   have hlen:(items.toList.take i).length=i:=by simp;omega
   have ht:items.toList.take (i+1)=items.toList.take i++[items[i]]:=by
    rw[List.take_succ,Array.getElem?_toList,Array.getElem?_eq_getElem hlt];rfl
   unfold stored
   rw[if_neg ?_,ht,List.zipIdx_append,List.map_append,hlen]
   ·simp
   ·intro hc
    obtain⟨q,hq,hq2⟩:=List.any_eq_true.mp hc
    obtain⟨p,hp,rfl⟩:=List.mem_map.mp hq
    have hp2:=List.mem_zipIdx hp
    have:=hinj _ _ (of_decide_eq_true hq2)
    omega
  rw[hst] at hd2
  have:=ih (i+1) {s with heap:=h2,toks:=s.toks+1+1} (by omega) (by omega) (by
   obtain⟨f0,f1,old,hf,he1⟩:=he1
   exact⟨f0,f1,old,hf,by rw[e1];exact(hs2.2 e (Ne.symm hde)).trans he1⟩) (hit1.at fun o q=>(hs2.2 it (Ne.symm hdi)).trans q) ((hl.at fun o q=>hk1 l o hle hli q).at fun o q=>(hs2.2 l (Ne.symm hdl)).trans q) hd2
   (fun h' tk a b=>hR h' tk a fun c o n1 n2 n3 q=>b c o n1 n2 n3 ((hs2.2 c n1).trans (hk1 c o n2 n3 q)))
  rw[e1] at this
  exact this
theorem lX{K:Type}[DecidableEq K]{knd:KeyKind prog w K}{key:Nat→K}(hkey:∀(j:Nat)(t:Tok),knd.is (key j) (.int j t)=true)(hinj:∀i j,key i=key j→i=j){Q:Value→Shared→Prop}(hh:A.handled=none){items:Array Value}(he:IsEnum s.heap e it 0 .none)(hit:s.heap.IsListIter it l 0)(hl:s.heap.IsList l items)(hne:e≠it)(hle:l≠e)(hli:l≠it)(hsz:items.size≤sizeLine)
  (hQ:∀h' tk,h'.DictOf knd s.heap.objs.size (items.toList.zipIdx.map fun p=>(key p.2,p.1))→(∀b o,b≠e→b≠it→s.heap.get? b=some o→h'.get? b=some o)→Q (.ref s.heap.objs.size) {s with heap:=h',toks:=tk}):
  wpAny (model prog w) A (call (.type "dict") [.ref e]) Q E s:=by
 refine callType_codes (Q₁:=fun obj s₁=>obj=.ref s.heap.objs.size∧s₁={s with heap:=s.heap.push {cls:= .type "dict",data:= .dict #[]}}) F.kt_called_dict (F.kt_typeCall_dict_1 _) F.entry_dict_init (kt_code_dict_new _ ⟨rfl,rfl⟩) ?_
 rintro obj s₁ ⟨rfl,rfl⟩
 have hnew:(s.heap.push {cls:= .type "dict",data:= .dict #[]}).DictOf knd s.heap.objs.size []:=Heap.DictOf.new s.heap
 have he':IsEnum (s.heap.push {cls:= .type "dict",data:= .dict #[]}) e it 0 .none:=ac _ he
 have n1:s.heap.objs.size≠e:=aR (ai he)
 have n2:s.heap.objs.size≠it:=by obtain⟨_,ho,_⟩:=hit;exact aR (ai ho)
 have n3:s.heap.objs.size≠l:=by obtain⟨_,ho,_⟩:=hl;exact aR (ai ho)
 refine⟨hnew.typeIs,F.args_dict_init_2 _ _,?_⟩
 unfold Builtin.«dict.__init__»
 refine aa ?_
 unfold Builtin.Dict.selfAndRest
 refine aa (wpAny_notOrdered_dict hnew.typeIs ?_)
 show wpAny _ _ (pure (s.heap.objs.size,[Value.ref e])) _ _ _
 refine ae ?_
 show wpAny _ _ (Builtin.Dict.updateFrom "dict.__init__" s.heap.objs.size (.ref e) [] .none) _ _ _
 unfold Builtin.Dict.updateFrom
 refine aa (wpAny_typeOf (T:= "enumerate") ⟨_,he',rfl⟩ ?_)
 rw[if_pos (by decide)]
 refine aa (wz he' hh fun h1 tk1 k1=>?_)
 simp only[Option.isNone_none,if_true]
 refine aa (wpAny_rule ?_)
 refine aa (wpAny_pyIter_enum (k1 _ _ he') ?_)
 refine ae ⟨plainId_quiet F.cK _,?_⟩
 have k2:∀b o,s.heap.get? b=some o→h1.get? b=some o:=fun b o q=>k1 b o (ac _ q)
 refine rM (A:=A.in1) hkey hinj hh hne hle hli n1 n2 n3 items hsz items.size 0 {s with heap:=h1,toks:=tk1} (by omega) (by omega) ⟨_,_,_,.inl rfl,k2 _ _ he⟩ (hit.at fun o q=>k2 it o q) (hl.at fun o q=>k2 l o q) (by show h1.DictOf knd s.heap.objs.size _;simpa using hnew.at (h':=h1) fun o q=>k1 _ o q) fun h' tk a b=>?_
 exact⟨rfl,hQ h' tk a fun c o m1 m2 q=>b c o (fun z=>by rw[z] at q;rw[Heap.get?_none_of_le (af _)] at q;cases q) m1 m2 (k2 c o q)⟩
end
end PySem
namespace L2
open PySem PySem.Spec PyProof.Rows
theorem pU:∀{xs:List V}{us:List Value}(k:Nat),bj xs us→KV ((xs.zipIdx k).map fun q=>((Sum.inl (q.2:Int):Key),q.1)) ((us.zipIdx k).map fun q=>((Sum.inl (q.2:Int):Key),q.1))
 |_,_,k,.nil=>.nil
 |_,_,k,.cons r t=>.cons ⟨rfl,r⟩ (pU (k+1) t)
noncomputable def BJ(K:ao)(ta:TE):TE:=fun σ H Q=>mj ta nM σ H fun vs H1=>∃a xs,vs=[.ref a]∧dz K H1 a xs∧∀p,H1 p=none→Q (.ref p) (bm H1 p (.dK (xs.zipIdx.map fun q=>((Sum.inl (q.2:Int):Key),q.1))))
theorem sU{X:Cx}{a:Expr}{ta:TE}{p1 p2 q1 q2:Pos}(hc:X.calm=true)(hg:Gl X "dict")(hm:X.mg "dict"=none)(hg2:Gl X "enumerate")(hm2:X.mg "enumerate"=none)(ha:PE X a ta)(hs:starEach [a] X.env=[(false,eval a X.env)]):
  PE X (.Call (.Name "dict" p1) [.Call (.Name "enumerate" p2) [a] [] q2] [] q1) (BJ X.K ta):=by
 intro pins s σ H Q I h
 refine Call_ (eK I hg hm boot_dict (aW ?_ rfl rfl))
 show wpAny _ _ (spliced ((false,eval (.Call (.Name "enumerate" p2) [a] [] q2) X.env)::backTo q1 (starEach [] X.env))) _ _ s
 refine Calls.spliced_cons ?_
 refine Call_ (eK I hg2 hm2 boot_enumerate (aW (bC ((bG ha dA hs) q2 pins s σ H _ I h) fun us s1 ⟨vs,H1,I1,r1,b,xs,e,hq,q⟩=>?_) hs rfl))
 subst e
 obtain⟨u,rfl,ru⟩:=vals1 r1
 cases(show u=Value.ref b from ru)
 obtain⟨its,rv,pl,hz⟩:=I1.list hq
 refine call_enumerate_list pl.isList fun h' he hit hsz hk=>?_
 refine Calls.spliced_nil ?_
 have hsz':h'.objs.size=s1.heap.objs.size+2:=hsz
 have hb:b<s1.heap.objs.size:=by obtain⟨o,ho,_⟩:=pl.isList;exact ai ho
 refine lX (s:={s1 with heap:=h'}) (knd:=bH X.prog X.w) (key:=fun j=>Sum.inl (j:Int)) (fun j t=>iM ..) (fun i j e=>Int.ofNat.inj (Sum.inl.inj e)) (I.ok.hd hc) he hit (pl.isList.at fun o z=>hk _ _ z) (aR (aG _)) (ak (Nat.lt_succ_of_lt hb)) (ak hb) (by have:=rv.length;simp;omega) fun h2 tk dd hk2=>?_
 replace dd:h2.DictOf (bH X.prog X.w) h'.objs.size _:=dd
 have hk3:∀c o,s1.heap.get? c=some o→h2.get? c=some o:=fun c o z=>by
  have hcs:=ai z
  exact hk2 c o (ak (Nat.lt_succ_of_lt hcs)) (ak hcs) (hk c o z)
 have hle:s1.heap.objs.size≤h'.objs.size:=by omega
 have big:=I1.big
 refine⟨.ref h'.objs.size,_,I1.laid (a:=h'.objs.size) (o:= .dK (xs.zipIdx.map fun q=>((Sum.inl (q.2:Int):Key),q.1))) (t':=tk) (h':=h2) hk3 hle (lS ?_ ?_ (pU 0 rv) (by simpa using dd)),rfl,q _ (I1.hok.fresh hle)⟩
 ·have:=rv.length
  simp at hz ⊢
  omega
 ·exact beq_eq_false_iff_ne.mpr (Ne.symm (ak (am big hle)))
end L2
namespace Ev
open PySem PySem.Spec PyProof.Rows L2
variable{vs xs ys:List V}{H H':Hp}{i i1 i2 j m m' m0 n tk:Nat}{ι ι' ι0 ι1:Nat→Addr}{v vx y:V}{f n1 n2 qual t x:Str}{X:Cx}{w:World}{P prog:Program}{A:Around}{N cs ts:List Str}{base:Heap}{mg:Str→Option Value}{us:List Value}{Q:VK}{sp:Sp}{args es ifs r:List Expr}{a b c e elt iter o:Expr}{ap cp hp1 hp2 p p3 p4 pos pt1 pt2 spos:Pos}{u ux uy:Value}{E:Value→Shared→Prop}{pins:List (Addr×Obj)}{C l:Addr}{b1 b2:Stmt}{su1 su2:List Stmt}{s:Shared}{σ:L2.St}{α β:Type}{J:It}{op':CmpOp}{scope:Scope}{RR:It→Hp→Prop}{is:List Nat}{Xw:Addr→L2.St→Hp→Prop}{hi lo:Option Int}
inductive D where
 |non|bl (b:Bool)|int (i:Int)|str (x:Str)|tup (xs:List D)|fl (xs:List D)|ref (n:Nat)
 deriving Inhabited
inductive O where
 |lst (xs:List D)|dct (kvs:List (Key×D))|err (x:Str) (d:Option Nat)(t:Bool)|edc (fs:List (Str×D))|ins (c:Str)(fs:List (Str×D))
noncomputable abbrev aS:=List O
inductive R(α:Type) where
 |ok (a:α)(st:aS)
 |bad
noncomputable abbrev M(α:Type):=aS→R α
noncomputable def ret{α:Type}(a:α):M α:=fun st=>.ok a st
noncomputable def ba{α β:Type}(m:M α)(f:α→M β):M β:=fun st=>match m st with
 | .ok a st'=>f a st'
 | .bad=>.bad
noncomputable def stuck{α:Type}:M α:=fun _=>.bad
noncomputable def dU{α:Type}(o:Option α):M α:=fun st=>match o with
 |some a=>.ok a st
 |none=>.bad
noncomputable def items:O→Option (List D)
 | .lst xs=>some xs
 |_=>none
inductive Sh where
 |sc (v:V)|t (xs:List D)|l (xs:List D)|d
noncomputable def shape(st:aS):D→Option Sh
 | .non=>some (.sc .non)
 | .bl b=>some (.sc (.bl b))
 | .int i=>some (.sc (.int i))
 | .str x=>some (.sc (.str x))
 | .tup xs=>some (.t xs)
 | .fl xs=>some (.l xs)
 | .ref n=>match st[n]? with
  |some (.lst xs)=>some (.l xs)
  |some (.dct _)=>some .d
  |_=>none
noncomputable def cW(f:D→D→Option Bool):List D→List D→Option Bool
 |[],[]=>some true
 |[],_::_=>some false
 |_::_,[]=>some false
 |a::as,b::bs=>match f a b,cW f as bs with
  |some x,some y=>some (x&&y)
  |_,_=>none
noncomputable def j3(f:D→D→Option Bool)(a b:D):Option Bool:=match a,b with
 | .ref i,.ref j=>if i=j then some true else f a b
 |_,_=>f a b
noncomputable def cY(n:Nat)(st:aS)(a b:D):Option Bool:=match n with
 |0=>none
 |n+1=>match shape st a,shape st b with
  |some (.sc x),some (.sc y)=>some (oO x y)
  |some (.t xs),some (.t ys)=>cW (j3 (cY n st)) xs ys
  |some (.l xs),some (.l ys)=>cW (j3 (cY n st)) xs ys
  |some .d,some (.l _)=>some false
  |some .d,some _=>none
  |some _,some .d=>none
  |some _,some _=>some false
  |_,_=>none
noncomputable def uN(K:ao)(H:Hp)(a:Addr)(xs:List V):Prop:=
 (∃o,H a=some (.frz o (.lst xs)))∨
  ∃(o:Obj)(its:Array Value)(n:Nat),K.lookup a=some o∧o.cls=.type "list" ∧o.dict=none∧o.data=.seq its n∧its.size≤sizeLine∧bj xs its.toList
theorem uN.sql{K:ao}{a:Addr}(h:uN K H a xs):dz K H a xs:=by
 rcases h with h|h
 ·exact .inl (.inr h)
 ·exact .inr h
mutual
inductive VRel(K:ao)(H:Hp)(ι:Nat→Addr)(m:Nat):D→V→Prop where
 |non:VRel K H ι m .non .non
 |bl (b:Bool):VRel K H ι m (.bl b) (.bl b)
 |int (i:Int):VRel K H ι m (.int i) (.int i)
 |str (x:Str):VRel K H ι m (.str x) (.str x)
 |tup {a:Addr}{ds:List D}{xs:List V}(h:fP K H a xs)(r:VRels K H ι m ds xs):VRel K H ι m (.tup ds) (.ref a)
 |fl {a:Addr}{ds:List D}{xs:List V}(h:uN K H a xs)(r:VRels K H ι m ds xs):VRel K H ι m (.fl ds) (.ref a)
 |ref {n:Nat}(h:n<m):VRel K H ι m (.ref n) (.ref (ι n))
inductive VRels(K:ao)(H:Hp)(ι:Nat→Addr)(m:Nat):List D→List V→Prop where
 |nil:VRels K H ι m [] []
 |cons {d:D}{v:V}{ds:List D}{vs:List V}(h:VRel K H ι m d v)(t:VRels K H ι m ds vs):VRels K H ι m (d::ds) (v::vs)
end
structure Ext0(H H':Hp)(ι ι':Nat→Addr)(m m':Nat):Prop where
 le:m≤m'
 ad:∀n,n<m→ι' n=ι n
 tp:∀b xs,H b=some (.tup xs)→H' b=some (.tup xs)
 fz:∀b o u,H b=some (.frz o u)→H' b=some (.frz o u)
structure Ext(H H':Hp)(ι ι':Nat→Addr)(m m':Nat):Prop extends Ext0 H H' ι ι' m m' where
 fr:∀b o,H b=some o→(∀n,n<m→ι n≠b)→H' b=some o∧∀n,n<m'→ι' n≠b
theorem Ext.refl(H:Hp)(ι:Nat→Addr)(m:Nat):Ext H H ι ι m m:=⟨⟨af _,fun _ _=>rfl,fun _ _ h=>h,fun _ _ _ h=>h⟩,fun _ _ h k=>⟨h,k⟩⟩
theorem Ext.trans{H1 H2:Hp}{ι2:Nat→Addr}{m1 m2:Nat}(a:Ext H H1 ι ι1 m m1)(b:Ext H1 H2 ι1 ι2 m1 m2):Ext H H2 ι ι2 m m2:=
 ⟨⟨aP a.le b.le,fun n hn=>(b.ad n (am hn a.le)).trans (a.ad n hn),fun c xs e=>b.tp c xs (a.tp c xs e),fun c o u e=>b.fz c o u (a.fz c o u e)⟩,fun c o e k=>by
  obtain⟨e1,k1⟩:=a.fr c o e k
  exact b.fr c o e1 k1⟩
theorem fP.ext{K:ao}{a:Addr}(e:Ext0 H H' ι ι' m m')(h:fP K H a xs):fP K H' a xs:=by
 rcases h with(h|⟨o,h⟩)|h
 ·exact .inl (.inl (e.tp _ _ h))
 ·exact .inl (.inr ⟨o,e.fz _ _ _ h⟩)
 ·exact .inr h
theorem uN.ext{K:ao}{a:Addr}(e:Ext0 H H' ι ι' m m')(h:uN K H a xs):uN K H' a xs:=by
 rcases h with⟨o,h⟩|h
 ·exact .inl ⟨o,e.fz _ _ _ h⟩
 ·exact .inr h
mutual
theorem VRel.ext0{K:ao}(e:Ext0 H H' ι ι' m m'):∀{d:D}{v:V},VRel K H ι m d v→VRel K H' ι' m' d v
 |_,_,.non=>.non
 |_,_,.bl b=>.bl b
 |_,_,.int i=>.int i
 |_,_,.str x=>.str x
 |_,_,.tup h r=>.tup (fP.ext e h) (VRels.ext0 e r)
 |_,_,.fl h r=>.fl (uN.ext e h) (VRels.ext0 e r)
 |_,_,.ref (n:=n) h=>by rw[←e.ad n h];exact .ref (am h e.le)
theorem VRels.ext0{K:ao}(e:Ext0 H H' ι ι' m m'):∀{ds:List D}{vs:List V},VRels K H ι m ds vs→VRels K H' ι' m' ds vs
 |_,_,.nil=>.nil
 |_,_,.cons h t=>.cons (VRel.ext0 e h) (VRels.ext0 e t)
end
theorem VRel.ext{K:ao}{d:D}(h:VRel K H ι m d v)(e:Ext H H' ι ι' m m'):VRel K H' ι' m' d v:=VRel.ext0 e.toExt0 h
theorem VRels.ext{K:ao}{d:List D}{v:List V}(h:VRels K H ι m d v)(e:Ext H H' ι ι' m m'):VRels K H' ι' m' d v:=VRels.ext0 e.toExt0 h
section
variable{K:ao}{H:Hp}{ι:Nat→Addr}{m:Nat}
theorem VRels.length:∀{ds:List D}{vs:List V},VRels K H ι m ds vs→ds.length=vs.length
 |_,_,.nil=>rfl
 |_,_,.cons _ t=>by rw[List.length_cons,List.length_cons,t.length]
theorem VRels.get:∀{ds:List D}{vs:List V}{i:Nat}{d:D},VRels K H ι m ds vs→ds[i]? =some d→∃v,vs[i]? =some v∧VRel K H ι m d v
 |_,_,_,_,.nil,e=>by simp at e
 |_,_,0,_,.cons r _,e=>by simp at e;subst e;exact⟨_,rfl,r⟩
 |_,_,i+1,d,.cons _ t,e=>by
  obtain⟨v,h1,h2⟩:=t.get (i:=i) (d:=d) (by simpa using e)
  exact⟨v,by simpa using h1,h2⟩
theorem VRels.append:∀{ds es:List D}{vs ws:List V},VRels K H ι m ds vs→VRels K H ι m es ws→VRels K H ι m (ds++es) (vs++ws)
 |_,_,_,_,.nil,s=>s
 |_,_,_,_,.cons r t,s=>.cons r (t.append s)
theorem VRels.take:∀{ds:List D}{vs:List V}(n:Nat),VRels K H ι m ds vs→VRels K H ι m (ds.take n) (vs.take n)
 |_,_,0,_=>.nil
 |_,_,_+1,.nil=>.nil
 |_,_,n+1,.cons r t=>.cons r (t.take n)
theorem VRels.drop:∀{ds:List D}{vs:List V}(n:Nat),VRels K H ι m ds vs→VRels K H ι m (ds.drop n) (vs.drop n)
 |_,_,0,h=>h
 |_,_,_+1,.nil=>.nil
 |_,_,n+1,.cons _ t=>t.drop n
end
inductive DRels(K:ao)(H:Hp)(ι:Nat→Addr)(m:Nat):List (Key×D)→List (Key×V)→Prop where
 |nil:DRels K H ι m [] []
 |cons {k:Key}{d:D}{v:V}{ds:List (Key×D)}{vs:List (Key×V)}(h:VRel K H ι m d v)(t:DRels K H ι m ds vs):DRels K H ι m ((k,d)::ds) ((k,v)::vs)
theorem DRels.ext0{K:ao}(e:Ext0 H H' ι ι' m m'){ds:List (Key×D)}{vs:List (Key×V)}(h:DRels K H ι m ds vs):DRels K H' ι' m' ds vs:=by
 induction h with
 |nil=>exact .nil
 |cons h t ih=>exact .cons (VRel.ext0 e h) ih
theorem DRels.ext{K:ao}{ds:List (Key×D)}{vs:List (Key×V)}(h:DRels K H ι m ds vs)(e:Ext H H' ι ι' m m'):DRels K H' ι' m' ds vs:=h.ext0 e.toExt0
theorem DRels.length{K:ao}{ds:List (Key×D)}{vs:List (Key×V)}(h:DRels K H ι m ds vs):ds.length=vs.length:=by
 induction h with
 |nil=>rfl
 |cons h t ih=>rw[List.length_cons,List.length_cons,ih]
theorem DRels.append{K:ao}{ds es:List (Key×D)}{vs ws:List (Key×V)}(h:DRels K H ι m ds vs)(k:DRels K H ι m es ws):DRels K H ι m (ds++es) (vs++ws):=by
 induction h with
 |nil=>exact k
 |cons h t ih=>exact .cons h ih
noncomputable def bN(a C:Addr)(d:Option Addr)(t:Bool):HO:= .ext fun h=>∃o vs,h.get? a=some o∧o.cls=.ref C∧o.dict=d∧o.data=.fields vs∧vs.size=6∧(t=false→vs[1]? =some .none)
noncomputable def kU(a:Addr)(fs:List (Str×V)):HO:= .ext fun h=>∃mA,h.Ns1 a mA∧(∀f,eO (fs.lookup f) (mA f))∧PySem.Within mA (fs.map (·.1))
inductive FRels(K:ao)(H:Hp)(ι:Nat→Addr)(m:Nat):List (Str×D)→List (Str×V)→Prop where
 |nil:FRels K H ι m [] []
 |cons {k:Str}{d:D}{v:V}{ds:List (Str×D)}{vs:List (Str×V)}(h:VRel K H ι m d v)(t:FRels K H ι m ds vs):FRels K H ι m ((k,d)::ds) ((k,v)::vs)
theorem FRels.ext0{K:ao}(e:Ext0 H H' ι ι' m m'){ds:List (Str×D)}{vs:List (Str×V)}(h:FRels K H ι m ds vs):FRels K H' ι' m' ds vs:=by
 induction h with
 |nil=>exact .nil
 |cons h t ih=>exact .cons (VRel.ext0 e h) ih
theorem FRels.look{K:ao}{ds:List (Str×D)}{vs:List (Str×V)}(h:FRels K H ι m ds vs){d:D}(e:ds.lookup f=some d):∃v,vs.lookup f=some v∧VRel K H ι m d v:=by
 induction h with
 |nil=>cases e
 | @cons k d' v ds vs h t ih=>
  rw[List.lookup_cons] at e ⊢
  cases q:f==k with
  |true=>rw[q] at e;cases e;exact⟨v,rfl,h⟩
  |false=>rw[q] at e;exact ih e
noncomputable def putD(f:Str)(d:D):List (Str×D)→List (Str×D)
 |[]=>[(f,d)]
 |(g,x)::r=>if g=f then(g,d)::r else(g,x)::putD f d r
theorem FRels.put{K:ao}{d:D}(q:VRel K H ι m d v){ds:List (Str×D)}{vs:List (Str×V)}(h:FRels K H ι m ds vs):FRels K H ι m (putD f d ds) (cJ f v vs):=by
 induction h with
 |nil=>exact .cons q .nil
 | @cons k d' v' ds vs h t ih=>
  unfold putD cJ
  by_cases e:k=f
  ·rw[if_pos e,if_pos e];exact .cons q t
  ·rw[if_neg e,if_neg e];exact .cons h ih
theorem FRels.length{K:ao}{ds:List (Str×D)}{vs:List (Str×V)}(h:FRels K H ι m ds vs):ds.length=vs.length:=by
 induction h with
 |nil=>rfl
 |cons h t ih=>rw[List.length_cons,List.length_cons,ih]
noncomputable def ny(K:ao)(H:Hp)(ι:Nat→Addr)(m:Nat)(a:Addr):O→Prop
 | .lst ds=>∃xs,H a=some (.lst xs)∧VRels K H ι m ds xs
 | .dct kvs=>∃vs,H a=some (.dK vs)∧DRels K H ι m kvs vs
 | .err x d t=>∃C,PySem.W.nsIn K mainGlobals x=some (some (.ref C))∧H a=some (bN a C (d.map ι) t)∧∀j,d=some j→j<m
 | .edc fs=>∃vs,H a=some (kU a vs)∧FRels K H ι m fs vs∧fs.length≤900
 | .ins x fs=>∃C dx vs,PySem.W.nsIn K mainGlobals x=some (some (.ref C))∧H a=some (.ins C dx vs)∧FRels K H ι m fs vs∧fs.length≤900
theorem ny.move{K:ao}{a:Addr}{o:O}(h:ny K H ι m a o)(E:Ext0 H H' ι ι' m m')(ha:H' a=H a):ny K H' ι' m' a o:=by
 cases o with
 |lst ds=>obtain⟨xs,h1,h2⟩:=h;exact⟨xs,ha.trans h1,VRels.ext0 E h2⟩
 |dct ds=>obtain⟨xs,h1,h2⟩:=h;exact⟨xs,ha.trans h1,h2.ext0 E⟩
 |err x d t=>
  obtain⟨C,h0,h1,h2⟩:=h
  refine⟨C,h0,?_,fun j e=>am (h2 j e) E.le⟩
  rw[ha,h1]
  cases d with
  |none=>rfl
  |some j=>rw[Option.map_some,Option.map_some,E.ad j (h2 j rfl)]
 |edc fs=>obtain⟨xs,h1,h2,h3⟩:=h;exact⟨xs,ha.trans h1,h2.ext0 E,h3⟩
 |ins x fs=>obtain⟨C,dx,xs,h0,h1,h2,h3⟩:=h;exact⟨C,dx,xs,h0,ha.trans h1,h2.ext0 E,h3⟩
theorem ny.there{K:ao}{a:Addr}{o:O}(h:ny K H ι m a o):∃u,H a=some u∧(∀xs,u≠ .tup xs)∧∀ob w,u≠ .frz ob w:=by
 cases o with
 |lst ds=>obtain⟨xs,h1,h2⟩:=h;exact⟨_,h1,(fun _ z=>by cases z),(fun _ _ z=>by cases z)⟩
 |dct ds=>obtain⟨xs,h1,h2⟩:=h;exact⟨_,h1,(fun _ z=>by cases z),(fun _ _ z=>by cases z)⟩
 |err x d t=>obtain⟨C,h0,h1,h2⟩:=h;exact⟨_,h1,(fun _ z=>by unfold bN at z;cases z),(fun _ _ z=>by unfold bN at z;cases z)⟩
 |edc fs=>obtain⟨xs,h1,h2⟩:=h;exact⟨_,h1,(fun _ z=>by unfold kU at z;cases z),(fun _ _ z=>by unfold kU at z;cases z)⟩
 |ins x fs=>obtain⟨C,dx,xs,h0,h1,h2⟩:=h;exact⟨_,h1,(fun _ z=>by cases z),(fun _ _ z=>by cases z)⟩
structure Sim(K:ao)(H:Hp)(ι:Nat→Addr)(st:aS):Prop where
 inj:∀i j,i<st.length→j<st.length→ι i=ι j→i=j
 ob:∀n o,st[n]? =some o→ny K H ι st.length (ι n) o
theorem Sim.laid{K:ao}{st:aS}(S:Sim K H ι st){p:Addr}(hp:H p=none){ho:HO}{o:O}
  (hr:∀ι',(∀n,n<st.length→ι' n=ι n)→ι' st.length=p→ny K (bm H p ho) ι' (st.length+1) p o):
  ∃ι',Ext H (bm H p ho) ι ι' st.length (st.length+1)∧ι' st.length=p∧Sim K (bm H p ho) ι' (st++[o]):=by
 have hK:∀n o,st[n]? =some o→ι n≠p:=fun n o e=>by
  have q:=S.ob n o e
  obtain⟨u,h1,_⟩:=q.there
  exact aw h1 hp
 have E:Ext H (bm H p ho) ι (fun n=>if n=st.length then p else ι n) st.length (st.length+1):=⟨⟨Nat.le_succ _,fun n hn=>by simp[Nat.ne_of_lt hn],fun b xs e=>by rw[az (aw e hp)];exact e,fun b ob u e=>by rw[az (aw e hp)];exact e⟩,fun b ob e k=>by
  refine⟨by rw[az (aw e hp)];exact e,fun n hn=>?_⟩
  by_cases hn':n=st.length
  ·rw[if_pos hn'];exact(aw e hp).symm
  ·rw[if_neg hn'];exact k n (by omega)⟩
 refine⟨fun n=>if n=st.length then p else ι n,E,by simp,?_⟩
 have lt:∀{n},n<st.length→∃o,st[n]? =some o:=fun{n} hn=>⟨st[n],by simp[hn]⟩
 refine⟨fun i j hi hj e=>?_,fun n ob e=>?_⟩
 ·rw[aO,List.length_singleton] at hi hj
  by_cases hi':i=st.length
  ·by_cases hj':j=st.length
   ·omega
   ·have q:p=ι j:=by simpa[hi',hj'] using e
    obtain⟨ob,eo⟩:=lt (show j<st.length by omega)
    exact absurd q.symm (hK j ob eo)
  ·by_cases hj':j=st.length
   ·have q:ι i=p:=by simpa[hi',hj'] using e
    obtain⟨ob,eo⟩:=lt (show i<st.length by omega)
    exact absurd q (hK i ob eo)
   ·exact S.inj i j (by omega) (by omega) (by simpa[hi',hj'] using e)
 ·rw[aO,List.length_singleton]
  by_cases hn:n=st.length
  ·subst hn
   rw[aQ (af _),Nat.sub_self] at e
   have e':o=ob:=by simpa using e
   subst e'
   have:=hr (fun n=>if n=st.length then p else ι n) (fun n hn=>by simp[Nat.ne_of_lt hn]) (by simp)
   simpa using this
  ·have hlt:n<st.length:=by
    have:=(aA e).1
    rw[aO,List.length_singleton] at this
    omega
   rw[aN hlt] at e
   have old:=S.ob n ob e
   have hne:ι n≠p:=hK n ob e
   have hι:(if n=st.length then p else ι n)=ι n:=by rw[if_neg hn]
   rw[hι]
   exact old.move E.toExt0 (az hne)
theorem Sim.write{K:ao}{st:aS}(S:Sim K H ι st){ds es:List D}(e:st[n]? =some (.lst ds))(r:VRels K H ι st.length es ys):
  Ext H (bm H (ι n) (.lst ys)) ι ι st.length st.length∧Sim K (bm H (ι n) (.lst ys)) ι (st.set n (.lst es)):=by
 obtain⟨xs,h1,h2⟩:=S.ob n _ e
 have hn:n<st.length:=(aA e).1
 have E:Ext H (bm H (ι n) (.lst ys)) ι ι st.length st.length:=by
  refine⟨⟨af _,fun _ _=>rfl,fun b zs q=>?_,fun b o u q=>?_⟩,fun b o q k=>⟨by rw[az (k n hn).symm];exact q,k⟩⟩
  ·rw[az (dW q h1 (by intro z;cases z))];exact q
  ·rw[az (dW q h1 (by intro z;cases z))];exact q
 refine⟨E,fun i j hi hj=>S.inj i j (by simpa using hi) (by simpa using hj),fun k o q=>?_⟩
 rw[aF]
 by_cases hk:k=n
 ·subst hk
  rw[aV hn] at q
  cases q
  exact⟨ys,bd,r.ext E⟩
 ·rw[ah (Ne.symm hk)] at q
  have hk':k<st.length:=(aA q).1
  have hne:ι k≠ι n:=fun z=>hk (S.inj k n hk' hn z)
  have old:=S.ob k o q
  exact old.move E.toExt0 (az hne)
theorem Sim.add{K:ao}{st:aS}(S:Sim K H ι st){p:Addr}{ds:List D}(hp:H p=some (.lst ys))(ap:∀n,n<st.length→ι n≠p)(r:VRels K H ι st.length ds ys):
  ∃ι',(∀n,n<st.length→ι' n=ι n)∧ι' st.length=p∧Sim K H ι' (st++[.lst ds]):=by
 have up:Ext0 H H ι (fun n=>if n=st.length then p else ι n) st.length (st.length+1):=⟨Nat.le_succ _,fun n hn=>by simp[Nat.ne_of_lt hn],fun _ _ e=>e,fun _ _ _ e=>e⟩
 refine⟨fun n=>if n=st.length then p else ι n,fun n hn=>by simp[Nat.ne_of_lt hn],by simp,⟨fun i j hi hj e=>?_,fun n ob e=>?_⟩⟩
 ·rw[aO,List.length_singleton] at hi hj
  by_cases hi':i=st.length
  ·by_cases hj':j=st.length
   ·omega
   ·exact absurd (show ι j=p by simpa[hi',hj'] using e.symm) (ap j (by omega))
  ·by_cases hj':j=st.length
   ·exact absurd (show ι i=p by simpa[hi',hj'] using e) (ap i (by omega))
   ·exact S.inj i j (by omega) (by omega) (by simpa[hi',hj'] using e)
 ·rw[aO,List.length_singleton]
  by_cases hn:n=st.length
  ·subst hn
   rw[aQ (af _),Nat.sub_self] at e
   have e':O.lst ds=ob:=by simpa using e
   subst e'
   refine⟨ys,?_,VRels.ext0 up r⟩
   simpa using hp
  ·have hlt:n<st.length:=by
    have:=(aA e).1
    rw[aO,List.length_singleton] at this
    omega
   rw[aN hlt] at e
   have old:=S.ob n ob e
   have hι:(if n=st.length then p else ι n)=ι n:=by rw[if_neg hn]
   rw[hι]
   exact old.move up rfl
theorem Sim.writeD{K:ao}{st:aS}(S:Sim K H ι st){kvs kvs':List (Key×D)}{ys:List (Key×V)}(e:st[n]? =some (.dct kvs))(r:DRels K H ι st.length kvs' ys):
  Ext H (bm H (ι n) (.dK ys)) ι ι st.length st.length∧Sim K (bm H (ι n) (.dK ys)) ι (st.set n (.dct kvs')):=by
 obtain⟨xs,h1,h2⟩:=S.ob n _ e
 have hn:n<st.length:=(aA e).1
 have E:Ext H (bm H (ι n) (.dK ys)) ι ι st.length st.length:=by
  refine⟨⟨af _,fun _ _=>rfl,fun b zs q=>?_,fun b o u q=>?_⟩,fun b o q k=>⟨by rw[az (k n hn).symm];exact q,k⟩⟩
  ·rw[az (dW q h1 (by intro z;cases z))];exact q
  ·rw[az (dW q h1 (by intro z;cases z))];exact q
 refine⟨E,fun i j hi hj=>S.inj i j (by simpa using hi) (by simpa using hj),fun k o q=>?_⟩
 rw[aF]
 by_cases hk:k=n
 ·subst hk
  rw[aV hn] at q
  cases q
  exact⟨ys,bd,r.ext E⟩
 ·rw[ah (Ne.symm hk)] at q
  have hk':k<st.length:=(aA q).1
  have hne:ι k≠ι n:=fun z=>hk (S.inj k n hk' hn z)
  have old:=S.ob k o q
  exact old.move E.toExt0 (az hne)
theorem Sim.addD{K:ao}{st:aS}(S:Sim K H ι st){p:Addr}{ys:List (Key×V)}{ds:List (Key×D)}(hp:H p=some (.dK ys))(ap:∀n,n<st.length→ι n≠p)(r:DRels K H ι st.length ds ys):
  ∃ι',(∀n,n<st.length→ι' n=ι n)∧ι' st.length=p∧Sim K H ι' (st++[.dct ds]):=by
 have up:Ext0 H H ι (fun n=>if n=st.length then p else ι n) st.length (st.length+1):=⟨Nat.le_succ _,fun n hn=>by simp[Nat.ne_of_lt hn],fun _ _ e=>e,fun _ _ _ e=>e⟩
 refine⟨fun n=>if n=st.length then p else ι n,fun n hn=>by simp[Nat.ne_of_lt hn],by simp,⟨fun i j hi hj e=>?_,fun n ob e=>?_⟩⟩
 ·rw[aO,List.length_singleton] at hi hj
  by_cases hi':i=st.length
  ·by_cases hj':j=st.length
   ·omega
   ·exact absurd (show ι j=p by simpa[hi',hj'] using e.symm) (ap j (by omega))
  ·by_cases hj':j=st.length
   ·exact absurd (show ι i=p by simpa[hi',hj'] using e) (ap i (by omega))
   ·exact S.inj i j (by omega) (by omega) (by simpa[hi',hj'] using e)
 ·rw[aO,List.length_singleton]
  by_cases hn:n=st.length
  ·subst hn
   rw[aQ (af _),Nat.sub_self] at e
   have e':O.dct ds=ob:=by simpa using e
   subst e'
   refine⟨ys,?_,r.ext0 up⟩
   simpa using hp
  ·have hlt:n<st.length:=by
    have:=(aA e).1
    rw[aO,List.length_singleton] at this
    omega
   rw[aN hlt] at e
   have old:=S.ob n ob e
   have hι:(if n=st.length then p else ι n)=ι n:=by rw[if_neg hn]
   rw[hι]
   exact old.move up rfl
section
variable{P:Program}{w:World}{H:Hp}{h:Heap}{a C:Addr}{d:Option Addr}{t:Bool}{fs:List (Str×V)}
theorem cV(hok:ge P w H h)(e:H a=some (bN a C d t)):∃o vs,h.get? a=some o∧o.cls=.ref C∧o.dict=d∧o.data=.fields vs∧vs.size=6∧(t=false→vs[1]? =some .none):=
 (show bx P w H h a (bN a C d t) from hok a _ e).1
theorem je{o:Obj}{vs:Array Value}(h1:h.get? a=some o)(h2:o.cls=.ref C)(h3:o.dict=d)(h4:o.data=.fields vs)(h5:vs.size=6)(h6:t=false→vs[1]? =some .none):bx P w H h a (bN a C d t):=
 ⟨⟨o,vs,h1,h2,h3,h4,h5,h6⟩,⟨o,h1⟩,fun _ _ ⟨o,vs,q,r⟩ k=>⟨o,vs,k o q,r⟩⟩
theorem kT(hok:ge P w H h)(e:H a=some (kU a fs)):∃mA,h.Ns1 a mA∧(∀f,eO (fs.lookup f) (mA f))∧PySem.Within mA (fs.map (·.1)):=(show bx P w H h a (kU a fs) from hok a _ e).1
theorem ro{mA:Str→Option Value}(n:h.Ns1 a mA)(r:∀f,eO (fs.lookup f) (mA f))(wi:PySem.Within mA (fs.map (·.1))):bx P w H h a (kU a fs):=
 ⟨⟨mA,n,r,wi⟩,let⟨o,_,_,e,_⟩:=n;⟨o,e⟩,fun _ _ ⟨mA,n,r⟩ k=>⟨mA,n.at k,r⟩⟩
end
noncomputable def ke(n:Nat)(H:Hp)(a:Addr)(h:Heap):Prop:=∃oe vs,h.get? a=some oe∧oe.data=.fields vs∧
 (vs[1]? =some .none∨∃T oT ts,vs[1]? =some (.ref T)∧n≤T∧T≠a∧H T=none∧h.get? T=some oT∧oT.data=.fields ts∧ts[3]? =some .none)
theorem ke.mono{n':Nat}{a:Addr}{h:Heap}(x:ke n H a h)(k:n'≤n):ke n' H a h:=by
 obtain⟨oe,vs,h1,h2,q⟩:=x
 refine⟨oe,vs,h1,h2,?_⟩
 rcases q with q|⟨T,oT,ts,q1,q2,q3⟩
 ·exact .inl q
 ·exact .inr ⟨T,oT,ts,q1,aP k q2,q3⟩
noncomputable def ji(P:Program)(w:World):uK:=fun outer H s E e s'=>∃a C d H',e=.ref a∧s'.os=s.os∧AllBare s'.gens∧Un (eX outer) [] H H' s.heap s'.heap∧ge P w H' s'.heap∧
 s.heap.objs.size≤a∧H' a=some (bN a C d true)∧ke s.heap.objs.size H' a s'.heap∧E (.ref a) none H'
theorem sX:jZ (ji P w) X E0:=fun _ _ _ _ _ _ _ ⟨_,_,_,_,_,_,_,_,_,_,_,_,z⟩=>z.elim
noncomputable def dP(X:Cx)(Ex:Addr→L2.St→Hp→Prop):Prop:=∀(pins:List (Addr×Obj))(σ:L2.St)(H:Hp)(s:Shared)(a C:Addr)(d:Option Addr),
 Inv X pins σ H s→H a=some (bN a C d true)→X.s₀.heap.objs.size≤a→ke X.s₀.heap.objs.size H a s.heap→Ex a σ H→X.xe (.ref a) s
noncomputable abbrev nz:Addr→L2.St→Hp→Prop:=fun _ _ _=>False
theorem dP.no:dP X nz:=fun _ _ _ _ _ _ _ _ _ _ _ z=>z.elim
section
variable{X:Cx}{pins:List (Addr×Obj)}{σ:L2.St}{H:Hp}{s:Shared}{a C:Addr}{d:Option Addr}{h':Heap}{Ex:Addr→L2.St→Hp→Prop}
theorem _root_.L2.Inv.mark(I:Inv X pins σ H s)(e:H a=some (bN a C d false)):Inv X pins σ (bm H a (bN a C d true)) s:=by
 obtain⟨o,vs,g1,g2,g3,g4,g5,_⟩:=cV I.hok e
 exact I.write (x:=a) (e:=a) (h':=s.heap) (t':=s.toks) (o:=bN a C d true) (by rw[e];exact True.intro) (.inl rfl) (fun b u _ q=>q) ⟨o,g1⟩ (je g1 g2 g3 g4 g5 (fun z=>nomatch z))
theorem gN{b x:Addr}{t:Bool}(e:H a=some (bN a C d t))(e':H b=some (.own x)):b≠a:=fun z=>by
 subst z
 rw[e] at e'
 unfold bN at e'
 cases e'
theorem _root_.L2.Inv.noted{T:Addr}{oe:Obj}{fl:Value}(I:Inv X pins σ H s)(e:H a=some (bN a C d true))(ho:s.heap.get? a=some oe)(z:Noted X.stack a T oe fl s.heap h'):Inv X pins σ H {s with heap:=h'}:=by
 obtain⟨o,vs,g1,g2,g3,g4,g5,_⟩:=cV I.hok e
 rw[ho] at g1
 cases g1
 have na:∀b,H b=none→b≠a:=fun b n q=>by subst q;rw[e] at n;cases n
 have nf:∀b u,H b=some u→b∉B7 X.stack:=fun b u q hb=>by rw[I.stkFree b hb] at q;cases q
 refine I.step (g':=s.gens) (t':=s.toks) (d':=s.drawn) (ch:=[]) (fun _ z=>nomatch z) (fun b ob hL hb _ q n=>z.keep b ob (fun m=>(List.mem_cons.mp (I.stkSub b m)).elim hL hb) (na b n) q)
  (fun b ob _ _ _ q n=>z.slot b ob (na b n) q) (fun b ob _ q n=>n) (fun b ob _ q=>?_) (fun _ _ q=>q) (fun _ _ _ q=>q) (fun b ps q=>⟨#[],by rw[q];simp⟩) (fun m hm=>?_) (fun b u eb=>?_) I.bare
 ·by_cases hb:b=a
  ·subst hb;exact⟨_,z.at_⟩
  ·obtain⟨sl,q'⟩:=z.slot b ob hb q
   exact⟨_,q'⟩
 ·obtain⟨ob,es,ep,ho,r⟩:=hm
  obtain⟨sl,q⟩:=z.slot _ ob (na _ I.free) ho
  exact⟨_,es,ep,q,r⟩
 ·by_cases hb:b=a
  ·subst hb
   rw[e] at eb
   cases eb
   refine je (vs:=vs.setIfInBounds 1 (.ref T)) z.at_ ((Obj.cls_mapFields _ _).trans g2) ?_ (Obj.data_mapFields g4 _) (by simpa using g5) (fun z=>nomatch z)
   obtain⟨c0,d0,t0,s0⟩:=oe
   cases g4
   exact g3
  ·refine(I.hok b u eb).stay (fun c v hc q=>?_) (fun _ q=>q) fun _ _ q=>q
   rcases hc with rfl|hc
   ·exact z.keep c v (nf c _ eb) hb q
   ·exact z.keep c v (nf c _ hc) (gN e hc) q
theorem ke.of_noted{T:Addr}{oe:Obj}{vs:Array Value}(I:Inv X pins σ H s)(ho:s.heap.get? a=some oe)(hd:oe.data=.fields vs)(hz:1<vs.size)(z:Noted X.stack a T oe .none s.heap h')(hn:n≤s.heap.objs.size):ke n H a h':=by
 obtain⟨oT,ts,t1,t2,t3⟩:=z.tr
 refine⟨_,_,z.at_,Obj.data_mapFields hd _,.inr ⟨T,oT,ts,by simp[hz],aP hn z.new,fun q=>?_,I.hok.fresh z.new,t1,t2,t3⟩⟩
 subst q
 exact absurd (am (ai ho) z.new) (bg _)
theorem ke.fly{oe:Obj}{vs:Array Value}(hy:ke n H a s.heap)(ho:s.heap.get? a=some oe)(hd:oe.data=.fields vs)(hz:1<vs.size):Cq n a oe s.heap:=by
 obtain⟨o2,v2,h1,h2,q⟩:=hy
 rw[ho] at h1
 cases h1
 rw[hd] at h2
 cases h2
 refine⟨vs,hd,hz,?_⟩
 rcases q with q|⟨T,oT,ts,q1,q2,q3,q4,q5⟩
 ·exact .inl q
 ·exact .inr ⟨T,oT,ts,q1,q2,q3,q5⟩
theorem ql{K:ao}{sc:Scope}{f:Addr}{cd:Value}{outer:List Env}{s0:Shared}{H0:Hp}{E:XK}:
  dP (m9 (ji P w) P w K mg base N qual sc f cd A outer s0 H0 E) (fun a _ H'=>E (.ref a) none H'):=by
 intro pins σ H s a C d I e ha hy q
 obtain⟨o,vs,g1,g2,g3,g4,g5,_⟩:=cV I.hok e
 have hz:1<vs.size:=by omega
 refine qO (L:=(envOfC qual sc s0.heap.objs.size f cd).locals) (outer:=outer) (base:=base) I.ok.frames I.stack rfl g1 (hy.fly g1 g4 hz) fun h' T z=>?_
 have I2:=I.noted e g1 z
 exact⟨a,C,d,H,rfl,I2.os,I2.bare,I2.base,I2.hok,ha,e,ke.of_noted I g1 g4 hz z I.sz,q⟩
theorem i_{k:Nat}{f:Addr}{fd:FuncData}{ps:List Str}(F:FnOk X.prog X.w X.K X.mg X.base (ji X.prog X.w) k f fd ps sp)(hr:Room k X.A)(hb:Binds X.K fd ps [])(hx:dP X Ex)
  (I:Inv X pins σ H s)(r:bj vs us)(h:sp vs H Q (fun v _ H1=>∃a,v=.ref a∧Ex a σ H1)):wpAny (model X.prog X.w) X.A (call (.ref f) us) (EP X pins σ Q) X.xe s:=by
 have hl:(us++[]).length=ps.length:=by rw[List.append_nil,←r.length];exact F.len _ _ _ _ h
 refine wpAny_call (codeAny_mono (F.run X.A X.stack s H ⟨us,[]⟩ us vs Q _ hr I.env0 (by have:=hb s us I.kIn hl;rwa [List.append_nil] at this) r h) fun r s' hq=>?_)
 cases r with
 |error e=>
  obtain⟨a,C,d,H',rfl,os,bare,un,hok,ha,e,hy,b,hb,ex⟩:=hq
  cases hb
  have I':Inv X pins σ H' s':=I.call' (ch:=[]) os un hok bare (fun _ z=>nomatch z)
  exact hx pins σ H' s' a C d I' e (aP I.sz ha) (hy.mono I.sz) ex
 |ok fl=>
  cases fl with
  |ret u=>exact I.after hq
  |next=>exact False.elim hq
  |brk=>exact False.elim hq
  |cont=>exact False.elim hq
noncomputable def xt(sp:Sp)(Ex:Addr→L2.St→Hp→Prop)(t:TA):TE:=fun σ H Q=>t σ H fun vs H1=>sp vs H1 Q (fun v _ H2=>∃a,v=.ref a∧Ex a σ H2)
theorem sW{k:Nat}{f:Addr}{fd:FuncData}{ps:List Str}{t:TA}(F:FnOk X.prog X.w X.K X.mg X.base (ji X.prog X.w) k f fd ps sp)(hr:Room k X.A)(hg:Gl X x)(hm:X.mg x=some (.ref f))(hk:PySem.W.keepIn X.K (.ref f)=true)(hb:Binds X.K fd ps [])(hx:dP X Ex)
  (ha:PA X (e::es) t)(hdb:(x==("__debug__":Str))=false) (he:starEach (e::es) X.env=(false,eval e X.env)::starEach es X.env)(hpl:(backTo pos (starEach es X.env)).any (·.1)=false):
  PE X (.Call (.Name x p) (e::es) [] pos) (xt sp Ex t):=by
 intro pins s σ H Q I h
 refine wpAny_Call_Name_kw (dG I hg hm ?_ hdb)
 refine PySem.W.callWith_K (h₀:=X.base) I.ok.mod.kin hk (bC (ha pos pins s σ H _ I h) fun us s1 ⟨vs,H1,I1,r,q⟩=>⟨I1.kIn,?_⟩) he hpl
 exact i_ F hr hb hx I1 r q
theorem kj{k:Nat}{f:Addr}{fd:FuncData}{ps:List Str}(m:EMk X.K C)(hi:PySem.W.findIn X.K (.ref C) "__init__"=some (some (.ref f)))(hf:PySem.W.isFn X.K (.ref f)=true)
  (F:FnOk X.prog X.w X.K X.mg X.base (ji X.prog X.w) k f fd ps sp)(hr:Room (k+1) X.A)(hb:Binds X.K fd ps [])(I:Inv X pins σ H s)(r:bj vs us)(hz:us.length≤sizeLine)
  (h:∀x,H x=none→X.s₀.heap.objs.size≤x→sp (.ref x::vs) (bm H x (bN x C none false)) (fun v H2=>v=.non∧Q (.ref x) H2) E0):
  wpAny (model X.prog X.w) X.A (call (.ref C) us) (EP X pins σ Q) X.xe s:=by
 have e1:(s.heap.push (dO us)).objs.size=s.heap.objs.size+1:=Heap.size_push _ _
 have I1:Inv X pins σ H {s with heap:=s.heap.push (dO us)}:=I.kept (t':=s.toks) fun b u q=>ac _ q
 have hn:=I1.hok.fresh (a:=s.heap.objs.size+1) (Nat.le_of_eq e1)
 have gE:((s.heap.push (dO us)).push (fg C s.heap.objs.size)).get? (s.heap.objs.size+1)=some (fg C s.heap.objs.size):=by
  have:=aq (s.heap.push (dO us)) (o:=fg C s.heap.objs.size) rfl
  rwa [e1] at this
 have I2:Inv X pins σ (bm H (s.heap.objs.size+1) (bN (s.heap.objs.size+1) C none false)) {s with heap:=(s.heap.push (dO us)).push (fg C s.heap.objs.size)}:=
  I1.laid (a:=s.heap.objs.size+1) (t':=s.toks) (fun b u q=>ac _ q) (Nat.le_of_eq e1) (je gE rfl rfl rfl rfl (fun _=>rfl))
 have hq:=h (s.heap.objs.size+1) hn (aP I.sz (Nat.le_succ _))
 have r2:bj (V.ref (s.heap.objs.size+1)::vs) (Value.ref (s.heap.objs.size+1)::us):= .cons rfl r
 have hl:(Value.ref (s.heap.objs.size+1)::us++[]).length=ps.length:=by
  have e:=r2.length
  rw[F.len _ _ _ _ hq] at e
  rw[List.append_nil]
  exact e.symm
 refine wu m I.kIn hi (beq_iff_eq.mp hf) hz (wpAny_call (codeAny_mono (F.run _ X.stack _ _ ⟨Value.ref (s.heap.objs.size+1)::us,[]⟩ (Value.ref (s.heap.objs.size+1)::us) _ _ E0 (hr.make C us [])
  (I2.env0.make C us []) (by have:=hb _ (Value.ref (s.heap.objs.size+1)::us) I2.kIn hl;rwa [List.append_nil] at this) r2 hq) fun r s' hq'=>?_))
 cases r with
 |error e=>exact(sX (X:=X) pins σ _ _ e s' I2 hq')
 |ok fl=>
  cases fl with
  |ret u=>
   obtain⟨v,H',I3,rv,ev,q3⟩:=I2.after hq'
   subst ev
   exact⟨rv,⟨V.ref (s.heap.objs.size+1),H',I3,rfl,q3⟩⟩
  |next=>exact False.elim hq'
  |brk=>exact False.elim hq'
  |cont=>exact False.elim hq'
noncomputable def RQ(X:Cx)(C:Addr)(Ex:Addr→L2.St→Hp→Prop)(σ:L2.St):VK:=fun v H2=>∃x d,v=.ref x∧X.s₀.heap.objs.size≤x∧H2 x=some (bN x C d false)∧Ex x σ (bm H2 x (bN x C d true))
noncomputable def rS(X:Cx)(C:Addr)(sp:Sp)(Ex:Addr→L2.St→Hp→Prop)(t:TA):TS:=fun _ σ H=>t σ H fun vs H1=>vs.length≤1000∧∀x,H1 x=none→X.s₀.heap.objs.size≤x→
 sp (.ref x::vs) (bm H1 x (bN x C none false)) (fun v H2=>v=.non∧RQ X C Ex σ (.ref x) H2) E0
theorem mw{Q:Flow→Shared→Prop}(hh:X.A.handled=none)(m:EMk X.K C)(mb:PySem.W.mroIn X.K C (.type "BaseException")=some true)(hx:dP X Ex)
  (h:wpAny (model X.prog X.w) X.A (eval e X.env) (EP X pins σ (RQ X C Ex σ)) X.xe s):
  wpAny (model X.prog X.w) X.A (exec (.Raise (some e) none pos) X.env) Q X.xe s:=by
 rw[arm_exec_Raise]
 refine aa (wpAny_standAt (qR (K:=X.K) hh (aa (aJ h (fun v s1 q=>aa (wpAny_standAt (ae ?_))) fun _ _ z=>z))))
 obtain⟨u,H2,I2,ru,x,d,rfl,hz,e2,ex⟩:=q
 cases ru
 obtain⟨o,vs,g1,g2,g3,g4,g5,g6⟩:=cV I2.hok e2
 have I3:=I2.mark e2
 obtain⟨c0,d0,t0,s0⟩:=o
 cases g2
 cases g4
 exact⟨x,C,d0,vs,s0,rfl,I2.kIn,m,mb,g1,g6 rfl,hx pins σ _ s1 x C d I3 bd hz ⟨_,vs,g1,rfl,.inl (g6 rfl)⟩ ex⟩
theorem sL{k:Nat}{f:Addr}{fd:FuncData}{ps:List Str}{t:TA}(m:EMk X.K C)(mb:PySem.W.mroIn X.K C (.type "BaseException")=some true)(hkp:PySem.W.keepIn X.K (.ref C)=true)(hi:PySem.W.findIn X.K (.ref C) "__init__"=some (some (.ref f)))(hf:PySem.W.isFn X.K (.ref f)=true)
  (F:FnOk X.prog X.w X.K X.mg X.base (ji X.prog X.w) k f fd ps sp)(hr:Room (k+1) X.A)(hg:Gl X x)(hm:X.mg x=some (.ref C))(hb:Binds X.K fd ps [])(hx:dP X Ex)
  (ha:PA X (e::es) t)(hdb:(x==("__debug__":Str))=false) (he:starEach (e::es) X.env=(false,eval e X.env)::starEach es X.env)(hpl:(backTo cp (starEach es X.env)).any (·.1)=false):
  PS X (.Raise (some (.Call (.Name x p) (e::es) [] cp)) none pos) (rS X C sp Ex t):=by
 intro pins s σ H D I h
 refine mw (pins:=pins) (σ:=σ) hr.hd m mb hx (wpAny_Call_Name_kw (dG I hg hm ?_ hdb))
 refine PySem.W.callWith_K (h₀:=X.base) I.ok.mod.kin hkp (bC (ha cp pins s σ H _ I h) fun us s1 ⟨vs,H1,I1,r,q⟩=>⟨I1.kIn,?_⟩) he hpl
 exact kj m hi hf F hr hb I1 r (by show us.length≤sizeLine;rw[←r.length];exact aP q.1 (by decide)) q.2
theorem qy{k:Nat}{f:Addr}{fd:FuncData}{ps:List Str}(m:EMk X.K C)(mb:PySem.W.mroIn X.K C (.type "BaseException")=some true)(hkp:PySem.W.keepIn X.K (.ref C)=true)(hi:PySem.W.findIn X.K (.ref C) "__init__"=some (some (.ref f)))(hf:PySem.W.isFn X.K (.ref f)=true)
  (F:FnOk X.prog X.w X.K X.mg X.base (ji X.prog X.w) k f fd ps sp)(hr:Room (k+1) X.A)(hg:Gl X x)(hm:X.mg x=some (.ref C))(hb:Binds X.K fd ps [])(hx:dP X Ex)(hdb:(x==("__debug__":Str))=false):
  PS X (.Raise (some (.Call (.Name x p) [] [] cp)) none pos) (rS X C sp Ex nM):=by
 intro pins s σ H D I h
 refine mw (pins:=pins) (σ:=σ) hr.hd m mb hx (wpAny_Call_Name_kw (dG I hg hm ?_ hdb))
 exact PySem.W.callWith_K0 I.kIn hkp (kj (us:=[]) (vs:=[]) m hi hf F hr hb I .nil (Nat.zero_le _) h.2)
end
section
variable{X:Cx}{pins:List (Addr×Obj)}{σ:L2.St}{H:Hp}{s:Shared}{a C:Addr}{d:Option Addr}{h':Heap}{f:Str}{e o value:Expr}{ta tv:TE}{pos pos':Pos}
theorem sZ{f g:Str}(r:RelV y u):eO (([(f,y)]:List (Str×V)).lookup g) (if g=f then some u else none):=by
 by_cases h:g=f
 ·have hb:(g==f)=true:=beq_iff_eq.mpr h
  simp only[List.lookup,hb,if_pos h]
  exact r
 ·have hb:(g==f)=false:=beq_eq_false_iff_ne.mpr h
  simp only[List.lookup,hb,if_neg h]
  exact True.intro
noncomputable def Aq(K:ao)(ta tv:TE)(f:Str):TS:=fun D σ H=>tv σ H fun y H1=>ta σ H1 fun x H2=>∃a C t,x=.ref a∧ECls K C∧PySem.W.findIn K (.ref C) f=some none∧
 ((H2 a=some (bN a C none t)∧∀dx,H2 dx=none→dx≠a→D.nx σ (bm (bm H2 dx (kU dx [(f,y)])) a (bN a C (some dx) t)))∨
  ∃dx fs,H2 a=some (bN a C (some dx) t)∧H2 dx=some (kU dx fs)∧dx≠a∧fs.length≤900∧D.nx σ (bm H2 dx (kU dx (cJ f y fs))))
theorem vW(ha:PE X o ta)(hv:PE X value tv)(hs:swapsWith value (some (.Attribute o f pos')) pos.line X.env=pure false):PS X (.Assign [.Attribute o f pos'] value pos) (Aq X.K ta tv f):=by
 intro pins s σ H D I h
 refine plainObj_wpAny_Assign_Attribute (bC (hv pins s σ H _ I h) fun u s1 ⟨y,H1,I1,ry,q⟩=>bC (ha pins s1 σ H1 _ I1 q) fun ov s2 ⟨x,H2,I2,rx,a,C,t,ex,ec,na,q2⟩=>?_) hs
 subst ex
 obtain rfl:ov=Value.ref a:=rx
 rcases q2 with⟨e1,q2⟩|⟨dx,fs,e1,e2,ne,hz,q2⟩
 ·obtain⟨ob,vs,g1,g2,g3,g4,g5,g6⟩:=cV I2.hok e1
  refine t7 ec I2.kIn g1 g2 g3 g4 na fun h' n1 gx k=>?_
  have hf:H2 s2.heap.objs.size=none:=I2.hok.fresh (af _)
  have hne:s2.heap.objs.size≠a:=fun z=>by rw[←z,hf] at e1;cases e1
  refine⟨σ,_,?_,q2 _ hf hne⟩
  have nn:∀b,H2 b=none→b≠a:=fun b n z=>by subst z;rw[e1] at n;cases n
  have ol:∀b v,s2.heap.get? b=some v→b≠s2.heap.objs.size:=fun b v z=>ak (ai z)
  have mv:∀b u,H2 b=some u→b≠s2.heap.objs.size:=fun b u z=>aw z hf
  have dif:∀b u,H2 b=some u→(∀C d t,u≠bN a C d t)→b≠a:=fun b u z w q=>by subst q;rw[e1] at z;cases z;exact w _ _ _ rfl
  refine I2.un (t':=s2.toks+2) (h':=h') ⟨fun b v z n _ _=>k b v (nn b n) z,fun b v z n _ _=>⟨v.slots,k b v (nn b n) z⟩,fun b v z n _=>?_,fun b v z _=>?_,fun b xs z=>?_,fun b v xs z=>?_,fun b ps z=>⟨#[],?_⟩⟩ fun b u z=>?_
  ·rw[az (nn b n),az (ol b v z)];exact n
  ·by_cases hb:b=a
   ·subst hb;exact⟨_,gx⟩
   ·exact⟨v,k b v hb z⟩
  ·rw[az (dif b _ z (fun _ _ _ q=>by unfold bN at q;cases q)),az (mv b _ z)];exact z
  ·rw[az (dif b _ z (fun _ _ _ q=>by unfold bN at q;cases q)),az (mv b _ z)];exact z
  ·rw[az (dif b _ z (fun _ _ _ q=>by unfold bN at q;cases q)),az (mv b _ z),z];simp
  ·by_cases hb:b=a
   ·subst hb
    rw[bd] at z
    cases z
    exact je gx g2 rfl g4 g5 g6
   ·rw[az hb] at z
    by_cases hd:b=s2.heap.objs.size
    ·subst hd
     rw[bd] at z
     cases z
     exact ro n1 (fun g=>sZ ry) (fun g hg=>by
      by_cases w:g=f
      ·simp[w]
      ·exact absurd (if_neg w) hg)
    ·rw[az hd] at z
     refine(I2.hok b u z).stay (fun c v hc r=>?_) (fun c r=>?_) fun c xs r=>?_
     ·rcases hc with rfl|hc
      ·exact k c v hb r
      ·exact k c v (gN e1 hc) r
     ·rw[az (gN e1 r),az (mv c _ r)];exact r
     ·rw[az (dif c _ r (fun _ _ _ q=>by unfold bN at q;cases q)),az (mv c _ r)];exact r
 ·obtain⟨ob,vs,g1,g2,g3,g4,g5,g6⟩:=cV I2.hok e1
  obtain⟨mA,n,r,wi⟩:=kT I2.hok e2
  refine t6 ec I2.kIn g1 g2 g3 g4 n wi (by rw[List.length_map,sizeLine_eq];omega) na fun h' n' sb=>?_
  refine⟨σ,_,?_,q2⟩
  refine I2.write (x:=dx) (e:=dx) (t':=s2.toks+2) (h':=h') (by rw[e2];exact True.intro) (.inl rfl) (fun b q hb z=>(sb.2 b hb).trans z) (let⟨o,_,_,z,_⟩:=n';⟨o,z⟩) (ro n' (fun g=>?_) fun g hg=>?_)
  ·rw[fW]
   by_cases q:g=f
   ·rw[if_pos q,if_pos q];exact ry
   ·rw[if_neg q,if_neg q];exact r g
  ·by_cases q:g=f
   ·rw[q];exact(eU f y fs).1
   ·refine(eU f y fs).2 g (wi g fun z=>hg ?_)
    show(if g=f then some u else mA g)=none
    rw[if_neg q];exact z
noncomputable def zY(K:ao)(ta:TE)(f:Str):TE:=fun σ H Q=>ta σ H fun x H1=>∃a C dx fs t v,x=.ref a∧H1 a=some (bN a C (some dx) t)∧H1 dx=some (kU dx fs)∧ECls K C∧PySem.W.findIn K (.ref C) f=some none∧fs.lookup f=some v∧Q v H1
theorem v4(he:PE X e ta)(hb:attributeBase e f X.env (eval e X.env)=eval e X.env):PE X (.Attribute e f pos) (zY X.K ta f):=by
 intro pins s σ H Q I h
 refine qg hb (bC (he pins s σ H _ I h) fun u s1 hp=>?_)
 obtain⟨x,H1,I1,rx,a,C,dx,fs,t,v,ex,e1,e2,ec,na,l,q⟩:=hp
 subst ex
 obtain rfl:u=Value.ref a:=rx
 obtain⟨ob,vs,g1,g2,g3,g4,g5,g6⟩:=cV I1.hok e1
 obtain⟨mA,n,r,wi⟩:=kT I1.hok e2
 obtain⟨od,ho,hl⟩:=iC n
 have J:PySem.W.InstAt s1.heap a ob C (some od):=⟨g1,g2,by unfold PySem.W.notCls;rw[g4],by rw[g3];exact ho⟩
 obtain⟨u',hu,ru⟩:=eO.some_of (v:=v) (o:=mA f) (by rw[←l];exact r f)
 exact wv ec I1.kIn J (PySem.W.findObj_own ec.hd na rfl (by rw[hl,hu])) (kx ru) ⟨v,H1,I1.tok _,ru,q⟩
theorem tK{K:ao}{x C:Addr}(e:ECls K C):PySem.W.KitX K (.ref x) (.ref C) (fun h=>∃ox od,PySem.W.InstAt h x ox C od) where
 ty:=fun _ _ _ ⟨_,_,I⟩=>I.type
 it:=fun M h K0 _=>by
  obtain⟨cd,hc,_⟩:=PySem.W.any_some e.hd
  unfold PySem.W.clsIn at hc
  split at hc
  ·rename_i z
   intro A Q E s k q
   unfold isType loadHead
   exact aa (wpAny_loadPart (k _ _ (K0 _ _ z)) (ae q))
  ·cases hc
 ne:=fun h tp dd its n sl K0 ht=>by
  obtain⟨cd,hc,_⟩:=PySem.W.any_some e.hd
  refine Bool.eq_false_iff.mpr fun q=>?_
  have q:C=tp:=Value.ref.inj (beq_iff_eq.mp q)
  subst q
  unfold PySem.W.clsIn at hc
  split at hc
  ·rename_i z
   have:=(K0 _ _ z).symm.trans ht
   cases this
  ·cases hc
 ca:=fun K0 ⟨_,_,I⟩ k=>qS e K0 I k
theorem t_{t:Bool}(I:Inv X pins σ H s)(e:H a=some (bN a C d t))(hd:∀dx,d=some dx→∃fs,H dx=some (kU dx fs)):∃ox od,PySem.W.InstAt s.heap a ox C od:=by
 obtain⟨ob,vs,g1,g2,g3,g4,g5,g6⟩:=cV I.hok e
 cases d with
 |none=>exact⟨ob,none,g1,g2,by unfold PySem.W.notCls;rw[g4],by rw[g3];trivial⟩
 |some dx=>
  obtain⟨fs,e2⟩:=hd dx rfl
  obtain⟨mA,n,r,wi⟩:=kT I.hok e2
  obtain⟨od,ho,hl⟩:=iC n
  exact⟨ob,some od,g1,g2,by unfold PySem.W.notCls;rw[g4],by rw[g3];exact ho⟩
noncomputable def BY(K:ao):List V→Hp→VK→Prop:=fun xs H Q=>∃a C d t v c b,xs=[.ref a,v]∧H a=some (bN a C d t)∧(∀dx,d=some dx→∃fs,H dx=some (kU dx fs))∧ECls K C∧(∀u,RelV v u→u=c)∧PySem.W.kitOne K (.ref C) c=some b∧Q (.bl b) H
theorem np:fG X (.builtin "isinstance") (BY X.K):=by
 intro pins s σ H xs us Q I r ⟨a,C,d,t,v,c,b,ex,e,hd,ec,hv,hk,q⟩
 subst ex
 cases r with
 |cons r1 r2=>
  cases r2 with
  |cons r2 r3=>
   cases r3
   cases r1
   cases hv _ r2
   exact PySem.W.kia_one (tK ec) I.kIn (t_ I e hd) hk (fun z=>nomatch z) fun tk=>⟨.bl b,H,I.tok tk,rfl,q⟩
noncomputable abbrev jT(X:Cx)(pins:List (Addr×Obj))(E:Value→Shared→Prop):Cx:={X with pn:=X.pn++pins,xe:=E}
noncomputable abbrev cA(X:Cx)(a:Addr):Cx:={X with A:=X.A.mark (some (.ref a)),calm:=false,xe:=fun _ _=>False}
theorem wm(I:Inv X pins σ H s):Inv (jT X pins E) [] σ H s:=
 ⟨⟨I.ok.mod,I.ok.kind,I.ok.glob,I.ok.blt,I.ok.above,I.ok.inj,I.ok.has,I.ok.cab,I.ok.hd,I.ok.frames,I.ok.stk,I.ok.exf,I.ok.bs,I.ok.bsz,I.ok.noex,I.ok.exfs,I.ok.funs,I.ok.frf⟩,I.os,I.bare,I.base,I.loc,I.cell,I.free,I.freeC,(fun p hp=>I.pin p (by simpa using hp)),I.hok,I.len⟩
theorem eV{pins':List (Addr×Obj)}(I:Inv (jT X pins E) pins' σ H s):Inv X pins σ H s:=
 ⟨⟨I.ok.mod,I.ok.kind,I.ok.glob,I.ok.blt,I.ok.above,I.ok.inj,I.ok.has,I.ok.cab,I.ok.hd,I.ok.frames,I.ok.stk,I.ok.exf,I.ok.bs,I.ok.bsz,I.ok.noex,I.ok.exfs,I.ok.funs,I.ok.frf⟩,I.os,I.bare,I.base,I.loc,I.cell,I.free,I.freeC,(fun p hp=>I.pin p (List.mem_append_left _ hp)),I.hok,I.len⟩
theorem iE(I:Inv X pins σ H s):Inv (cA X a) pins σ H s:=
 ⟨⟨I.ok.mod,I.ok.kind,I.ok.glob,I.ok.blt,I.ok.above,I.ok.inj,I.ok.has,I.ok.cab,(fun z=>nomatch z),I.ok.frames,I.ok.stk,I.ok.exf,I.ok.bs,I.ok.bsz,I.ok.noex,I.ok.exfs,I.ok.funs,I.ok.frf⟩,I.os,I.bare,I.base,I.loc,I.cell,I.free,I.freeC,I.pin,I.hok,I.len⟩
theorem iO(hd:X.calm=true→X.A.handled=none)(I:Inv (cA X a) pins σ H s):Inv X pins σ H s:=
 ⟨⟨I.ok.mod,I.ok.kind,I.ok.glob,I.ok.blt,I.ok.above,I.ok.inj,I.ok.has,I.ok.cab,hd,I.ok.frames,I.ok.stk,I.ok.exf,I.ok.bs,I.ok.bsz,I.ok.noex,I.ok.exfs,I.ok.funs,I.ok.frf⟩,I.os,I.bare,I.base,I.loc,I.cell,I.free,I.freeC,I.pin,I.hok,I.len⟩
theorem mM{m m':Str→Option Value}(I:Inv X pins σ H s)(hN:X.N.Nodup)(hi:X.N[i]? =some x)(hk:X.env.kindOf x=some .local)(hn:s.heap.Ns X.env.locals m)(hn':h'.Ns X.env.locals m')(hm:∀y,y≠x→m' y=m y)(sb:Heap.SameBut X.env.locals s.heap h')(t:Nat):
  Inv X pins (σ.set i none) H {s with heap:=h',toks:=t}:=by
 obtain⟨m0,hn0,hl⟩:=I.loc
 have e0:m0=m:=by
  obtain⟨o1,es1,ep1,a1,a2,_,a4⟩:=hn0
  obtain⟨o2,es2,ep2,b1,b2,_,b4⟩:=hn
  rw[a1] at b1
  cases b1
  rw[a2] at b2
  cases b2
  funext y
  rw[←a4 y,←b4 y]
 subst e0
 have keepL:∀b ob,b≠X.env.locals→s.heap.get? b=some ob→h'.get? b=some ob:=fun b ob hb z=>(sb.2 b hb).trans z
 have ltL:∀b ob,X.s₀.heap.get? b=some ob→b≠X.env.locals:=fun b ob z=>ak (am (ai z) I.ok.above)
 refine⟨I.ok,I.os,I.bare,⟨fun b ob z n hb hx=>keepL b ob (ltL b ob z) (I.base.keep b ob z n hb hx),fun b ob z n hb hx=>?_,I.base.free,fun b ob z hx=>?_,I.base.tups,I.base.frzs,I.base.tbls⟩,⟨m',hn',fun j y v e1 e2 e3=>?_⟩,fun y c z=>?_,I.free,I.freeC,fun p hp=>?_,fun b u z=>?_,by simpa using I.len⟩
 ·obtain⟨sl,q⟩:=I.base.slot b ob z n hb hx
  exact⟨sl,keepL b _ (ltL b ob z) q⟩
 ·obtain⟨o',q⟩:=I.base.there b ob z hx
  exact⟨o',keepL b _ (ltL b ob z) q⟩
 ·have hj:j≠i:=fun w=>by
   subst w
   by_cases hlt:j<σ.length
   ·rw[aV hlt] at e2;cases e2
   ·rw[List.getElem?_eq_none (by simpa using hlt)] at e2;cases e2
  rw[ah (Ne.symm hj)] at e2
  obtain⟨u,r,q⟩:=hl j y v e1 e2 e3
  refine⟨u,r,?_⟩
  have hy:y≠x:=fun w=>hj (jz hN e1 (w▸hi))
  rcases q with⟨k1,k2⟩|⟨k1,c,k2,k3⟩
  ·exact .inl ⟨k1,by rw[hm y hy];exact k2⟩
  ·exact .inr ⟨k1,c,k2,k3.sameBut sb (I.cne y c k2)⟩
 ·obtain⟨v,q⟩:=I.cell y c z
  exact⟨v,q.sameBut sb (I.cne y c z)⟩
 ·obtain⟨q1,q2,q3,q4⟩:=I.pin p hp
  exact⟨keepL _ _ q3 q1,q2,q3,q4⟩
 ·refine(I.hok b u z).stay (fun c v hc r=>keepL c v (fun w=>?_) r) (fun _ q=>q) fun _ _ q=>q
  subst w
  rcases hc with w|w
  ·rw[←w,I.free] at z;cases z
  ·rw[I.free] at w;cases w
end
section
end
open PySem PySem.W
section
variable{prog:Program}{w:World}{A:Around}{E:Value→Shared→Prop}{s:Shared}{K:Frag}{C:Addr}
theorem oI{a D:Addr}{Q:Bool→Shared→Prop}{o:Obj}{M:Model}(X:K.In s.heap)(c:ECat K D)(ho:s.heap.get? a=some o)(hc:o.cls=.ref C)(hs:mroIn K C (.ref D)=some false)(h:Q false s):wpAny M A (excMatches (.ref a) (.ref D)) Q E s:=by
 obtain⟨hp,g,dr,tk,os⟩:=s
 obtain⟨d,cd,sl,kD⟩:=c.ob
 have hD:=X _ _ kD
 have f:=tc_notTuple
 have LB:=looks_mroIn (M:=M) X c.base
 have LS:=looks_mroIn (M:=M) X hs
 unfold excMatches
 repeat (first|(with_reducible refine wpAny_loadPart_at ho ?_;rw[hc])|with_reducible refine wpAny_loadPart_at hD ?_|with_reducible refine LB.at ?_|with_reducible refine LS.at ?_|wp_step)
 exact h
theorem t9{a D:Addr}{t:Expr}{n:Option Str}{suite:List Stmt}{rest:List ExceptHandler}{Q:Flow→Shared→Prop}{env:Env}(c:ECat K D)(hs:mroIn K C (.ref D)=some false)
  (h:wpAny (model prog w) (A.mark (some (.ref a))) (eval t env) (fun v s₁=>v=.ref D∧K.In s₁.heap∧(∃o,s₁.heap.get? a=some o∧o.cls=.ref C)∧wpAny (model prog w) A (handleBy (.ref a) env rest) Q E s₁) (fun _ _=>False) s):
  wpAny (model prog w) A (handleBy (.ref a) env (.ExceptHandler (some t) n suite pos::rest)) Q E s:=by
 refine wpAny_handleBy_cons (codeAny_handlers_test (aJ h (fun v s₁ z=>?_) fun _ _ z=>z.elim)) (by intro z;cases z)
 obtain⟨rfl,X,⟨o,ho,hc⟩,k⟩:=z
 exact oI X c ho hc hs k
end
section
variable{X:Cx}
theorem pS{suite:List Stmt}{b₀:Stmt}{n:Str}{D a T:Addr}{d:Option Addr}{o:Obj}{vs:Array Value}{pt hp:Pos}{rest:List ExceptHandler}{ts:TS}{σ1:L2.St}{H1:Hp}{s1:Shared}{h3:Heap}{Dn:Ends}(c:ECat X.K D)(hsub:PySem.W.mroIn X.K C (.ref D)=some true)(hg:Gl X t)(hm:X.mg t=some (.ref D))(hdb:(t==("__debug__":Str))=false)
  (hN:X.N.Nodup)(hi:X.N[i]? =some n)(hk:X.env.scope.names.lookup n=some .local)(hfn:X.fn n=true)(hst:X.stack=X.env::X.outer∧X.env.frame=some X.env.locals)(hs:∀a,PSs (cA X a) (b₀::suite) ts)
  (I0:Inv X pins σ1 H1 s1)(e:H1 a=some (bN a C d true))(g1:s1.heap.get? a=some o)(g2:o.cls=.ref C)(g4:o.data=.fields vs)(hz:1<vs.size)(z3:Noted (X.env::X.outer) a T o .none s1.heap h3)
  (q:ts {nx:=fun σ2 H2=>Dn.nx (σ2.set i none) H2,rt:=Dn.rt} (σ1.set i (some (.ref a))) H1):
  wpAny (model X.prog X.w) X.A (handleBy (.ref a) X.env (.ExceptHandler (some (.Name t pt)) (some n) (b₀::suite) hp::rest)) (SP X pins Dn) X.xe {s1 with heap:=h3}:=by
 have hcls:(X.env.scope.kind== .class||(X.env.scope.kind== .module&&X.env.locals !=X.env.globals))=false:=by rw[I0.ok.kind];rfl
 have I3:Inv X pins σ1 H1 {s1 with heap:=h3}:=I0.noted e g1 (by rw[hst.1];exact z3)
 refine oJ c hsub (dG (X:=cA X a) (iE I3) hg hm ⟨rfl,I3.kIn,⟨_,z3.at_,(Obj.cls_mapFields _ _).trans g2⟩,?_⟩ hdb)
 refine jM (s:={s1 with heap:=h3}) g4 hz g1 z3 fun h4 z4=>?_
 have I4:Inv (cA X a) pins σ1 H1 {s1 with heap:=h4}:=iE (I0.noted e g1 (by rw[hst.1];exact z4))
 refine gT (X:=cA X a) I4 hN hi (.inl hk) (v:= .ref a) rfl (fun s5 I5=>?_) (.inl hfn)
 refine aJ (hs a pins s5 _ H1 _ I5 q) (fun f s6 z=>?_) (fun _ _ z=>z)
 cases f with
 |next=>
  obtain⟨σ6,H6,I6,q6⟩:=z
  obtain⟨m,hn,_⟩:=I6.loc
  exact ko hk hn hcls fun h7 m7 hn7 k7 sb=>⟨σ6.set i none,H6,mM (iO I0.ok.hd I6) hN hi hk hn hn7 k7 sb _,q6⟩
 |brk=>obtain⟨_,_,_,q6⟩:=z;exact q6.elim
 |cont=>obtain⟨_,_,_,q6⟩:=z;exact q6.elim
 |ret u=>
  obtain⟨v,σ6,H6,I6,r6,q6⟩:=z
  obtain⟨m,hn,_⟩:=I6.loc
  exact ko hk hn hcls fun h7 m7 hn7 k7 sb=>⟨v,σ6.set i none,H6,mM (iO I0.ok.hd I6) hN hi hk hn hn7 k7 sb _,r6,q6⟩
noncomputable def yV(K:ao)(D1 D2:Addr)(i1 i2:Nat)(t1 t2:TS)(Dn:Ends):Addr→L2.St→Hp→Prop:=fun a σ1 H1=>
 ∃C d,H1 a=some (bN a C d true)∧((PySem.W.mroIn K C (.ref D1)=some true∧t1 {nx:=fun σ2 H2=>Dn.nx (σ2.set i1 none) H2,rt:=Dn.rt} (σ1.set i1 (some (.ref a))) H1)∨
  (PySem.W.mroIn K C (.ref D1)=some false∧PySem.W.mroIn K C (.ref D2)=some true∧t2 {nx:=fun σ2 H2=>Dn.nx (σ2.set i2 none) H2,rt:=Dn.rt} (σ1.set i2 (some (.ref a))) H1))
noncomputable def zR(K:ao)(D1 D2:Addr)(i1 i2:Nat)(tb:(Addr→L2.St→Hp→Prop)→TS)(t1 t2:TS):TS:=fun Dn σ H=>tb (yV K D1 D2 i1 i2 t1 t2 Dn) Dn σ H
theorem sK{body:List Stmt}{c1 c2:Str}{D1 D2:Addr}{tb:(Addr→L2.St→Hp→Prop)→TS}{t1 t2:TS}(k1:ECat X.K D1)(k2:ECat X.K D2)(hg1:Gl X c1)(hm1:X.mg c1=some (.ref D1))(hd1:(c1==("__debug__":Str))=false)(hg2:Gl X c2)(hm2:X.mg c2=some (.ref D2))(hd2:(c2==("__debug__":Str))=false)
  (hN:X.N.Nodup)(hi1:X.N[i1]? =some n1)(hk1:X.env.scope.names.lookup n1=some .local)(hf1:X.fn n1=true)(hi2:X.N[i2]? =some n2)(hk2:X.env.scope.names.lookup n2=some .local)(hf2:X.fn n2=true)(hst:X.stack=X.env::X.outer∧X.env.frame=some X.env.locals)
  (hb:∀pins E Ex',PassesOwn (model X.prog X.w) X.A X.env E→dP (jT X pins E) Ex'→PSs (jT X pins E) body (tb Ex'))(hs1:∀a,PSs (cA X a) (b1::su1) t1)(hs2:∀a,PSs (cA X a) (b2::su2) t2):
  PS X (.Try body [.ExceptHandler (some (.Name c1 pt1)) (some n1) (b1::su1) hp1,.ExceptHandler (some (.Name c2 pt2)) (some n2) (b2::su2) hp2] [] [] pos) (zR X.K D1 D2 i1 i2 tb t1 t2):=by
 intro pins s σ H Dn I h
 refine wpAny_Try_except ?_
 refine aJ (hb pins _ _ PassesOwn.looking ?_ [] s σ H Dn (wm I) h) (fun f s1 q=>?_) (fun _ _ z=>z)
 rotate_left
 ·cases f with
  |next=>obtain⟨σ1,H1,I1,q⟩:=q;exact ae ⟨σ1,H1,eV I1,q⟩
  |brk=>obtain⟨σ1,H1,I1,q⟩:=q;exact⟨σ1,H1,eV I1,q⟩
  |cont=>obtain⟨σ1,H1,I1,q⟩:=q;exact⟨σ1,H1,eV I1,q⟩
  |ret u=>obtain⟨v,σ1,H1,I1,r,q⟩:=q;exact⟨v,σ1,H1,eV I1,r,q⟩
 ·intro pins2 σ1 H1 s1 a _ _ I1 _ ha hy ⟨C,d,e,q⟩
  have I0:Inv X pins σ1 H1 s1:=eV I1
  obtain⟨o,vs,g1,g2,g3,g4,g5,_⟩:=cV I0.hok e
  have hz:1<vs.size:=by omega
  have hfr:X.A.frames=some (X.env::X.outer):=by rw[I0.ok.frames,hst.1]
  have hfl:s1.heap.FunFrames X.base (X.env::X.outer):=by rw[←hst.1];exact I0.stack
  refine mZ hfr hfl hst.2 g1 (hy.fly g1 g4 hz) fun h2 T z2=>jM (s:={s1 with heap:=h2}) g4 hz g1 z2 fun h3 z3=>?_
  rcases q with⟨hsub,q⟩|⟨hno,hsub,q⟩
  ·exact pS (s1:=s1) k1 hsub hg1 hm1 hd1 hN hi1 hk1 hf1 hst hs1 I0 e g1 g2 g4 hz z3 q
  ·have I3:Inv X pins σ1 H1 {s1 with heap:=h3}:=I0.noted e g1 (by rw[hst.1];exact z3)
   exact t9 k1 hno (dG (X:=cA X a) (iE I3) hg1 hm1 ⟨rfl,I3.kIn,⟨_,z3.at_,(Obj.cls_mapFields _ _).trans g2⟩,pS (s1:=s1) k2 hsub hg2 hm2 hd2 hN hi2 hk2 hf2 hst hs2 I0 e g1 g2 g4 hz z3 q⟩ hd1)
end
theorem jC{name:Str}{apos:Pos}{env:Env}{Q:Value→Shared→Prop}
  (hbase:attributeBase o name env (eval o env)=eval o env)
  (hfew:methodCallForm (args.length+([]:List Keyword).length) (backTo pos (starEach args env)) (backToKw pos (keywordEach [] env))=true)
  (hline:(apos.endLine==pos.line)=true)
  (h:wpAny (model prog w) A (eval o env) (fun ov s₁=>∀pl,wpAny (model prog w) A (getMethod ov name pl) (fun fx s₂=>wpAny (model prog w) A (callWith pos fx.1 fx.2 (backTo pos (starEach args env)) (backToKw pos (keywordEach [] env))) Q E s₂) E s₁) E s):
  wpAny (model prog w) A (eval (.Call (.Attribute o name apos) args [] pos) env) Q E s:=by
 rw[arm_eval_Call,hbase]
 refine aa (aJ h (fun ov s₁ h₁=>?_) fun _ _ e=>e)
 refine aa (wpAny_standAt ?_)
 have hpos:methodCallPos true o env apos pos=pure pos:=by unfold methodCallPos;simp[hline]
 unfold methodCall
 rw[hfew]
 refine aa (wpAny_holding (aJ (h₁ _) (fun fx s2 h2=>?_) fun _ _ e=>e))
 exact aa (wpAny_of_eq hpos h2)
noncomputable def rT(X:Cx)(m:Str)(ta:TE)(t:TA):TE:=fun σ H Q=>ta σ H fun x H1=>∃a C dx fs f k fd ps sp,x=.ref a∧H1 a=some (.ins C dx fs)∧fs.lookup m=none∧Cls X.K C∧Meth X.K C m f∧
 FnOk X.prog X.w X.K X.mg X.base (ji X.prog X.w) k f fd ps sp∧Room k X.A∧Binds X.K fd ps []∧t σ H1 fun vs H2=>∀E:XK,sp (.ref a::vs) H2 Q E
section
variable{X:Cx}{m:Str}{o e:Expr}{es:List Expr}{ta:TE}{t:TA}{apos pos:Pos}
theorem sS(he:PE X o ta)(hbase:attributeBase o m X.env (eval o X.env)=eval o X.env)(hline:(apos.endLine==pos.line)=true)
  (hfew:methodCallForm ((e::es).length+([]:List Keyword).length) (backTo pos (starEach (e::es) X.env)) (backToKw pos (keywordEach [] X.env))=true)(ha:PA X (e::es) t)
  (hst:starEach (e::es) X.env=(false,eval e X.env)::starEach es X.env)(hpl:(backTo pos (starEach es X.env)).any (·.1)=false):PE X (.Call (.Attribute o m apos) (e::es) [] pos) (rT X m ta t):=by
 intro pins s σ H Q I h
 refine jC hbase hfew hline (bC (he pins s σ H _ I h) fun u s1 hp pl=>?_)
 obtain⟨x,H1,I1,rx,a,C,dx,fs,f,k,fd,ps,sp,ex,ea,l,c,hm,F,hr,hb,q⟩:=hp
 subst ex
 obtain rfl:u=Value.ref a:=rx
 refine jK I1 ea c hm l ?_
 refine PySem.W.callWith_K (first:=[.ref a]) (h₀:=X.base) I.ok.mod.kin hm.kp (bC (ha pos pins s1 σ H1 _ I1 q) fun us s2 ⟨vs,H2,I2,r,q2⟩=>⟨I2.kIn,?_⟩) hst hpl
 exact i_ (us:= .ref a::us) (vs:= .ref a::vs) (Ex:=nz) F hr hb dP.no I2 (.cons rfl r) (q2 _)
theorem qC(he:PE X o ta)(hbase:attributeBase o m X.env (eval o X.env)=eval o X.env)(hline:(apos.endLine==pos.line)=true):PE X (.Call (.Attribute o m apos) [] [] pos) (rT X m ta nM):=by
 intro pins s σ H Q I h
 refine jC hbase rfl hline (bC (he pins s σ H _ I h) fun u s1 hp pl=>?_)
 obtain⟨x,H1,I1,rx,a,C,dx,fs,f,k,fd,ps,sp,ex,ea,l,c,hm,F,hr,hb,q⟩:=hp
 subst ex
 obtain rfl:u=Value.ref a:=rx
 refine jK I1 ea c hm l ?_
 exact PySem.W.callWith_K0 (first:=[.ref a]) I1.kIn hm.kp (i_ (us:=[.ref a]) (vs:=[.ref a]) (Ex:=nz) F hr hb dP.no I1 (.cons rfl .nil) (q _))
structure UMeth(K:ao)(C:Addr)(m:Str)(f:Addr):Prop where
 ga:PySem.W.specialIn K (.ref C) "__getattribute__"=some (some (.builtin "type.__getattribute__"))
 rd:PySem.W.readsIn K C (.type "type")=true
 at_:PySem.W.findCls K (.ref C) (.type "type") m=some (.val (.ref f))
 hd:PySem.W.handedIn (.ref f)=true
 kp:PySem.W.keepIn K (.ref f)=true
theorem Ay{f:Addr}{k:Nat}{fd:FuncData}{ps:List Str}{px:Pos}(hg:Gl X x)(hm:X.mg x=some (.ref C))(hdb:(x==("__debug__":Str))=false)(u:UMeth X.K C m f)(F:FnOk X.prog X.w X.K X.mg X.base (ji X.prog X.w) k f fd ps sp)(hr:Room k X.A)(hb:Binds X.K fd ps [])
  (hline:(apos.endLine==pos.line)=true)(hfew:methodCallForm ((e::es).length+([]:List Keyword).length) (backTo pos (starEach (e::es) X.env)) (backToKw pos (keywordEach [] X.env))=true)(ha:PA X (e::es) t)
  (hst:starEach (e::es) X.env=(false,eval e X.env)::starEach es X.env)(hpl:(backTo pos (starEach es X.env)).any (·.1)=false):PE X (.Call (.Attribute (.Name x px) m apos) (e::es) [] pos) (fun σ H Q=>t σ H fun vs H1=>∀E:XK,sp vs H1 Q E):=by
 intro pins s σ H Q I h
 refine jC rfl hfew hline (dG I hg hm (fun pl=>?_) hdb)
 refine PySem.W.method_cls I.kIn u.ga (PySem.W.cls_value I.kIn u.rd u.at_ u.hd ?_)
 have I1:Inv X pins σ H {s with toks:=s.toks+1}:=I.tok _
 refine PySem.W.callWith_K (first:=[]) (h₀:=X.base) I.ok.mod.kin u.kp (bC (ha pos pins _ σ H _ I1 h) fun us s2 ⟨vs,H2,I2,r,q2⟩=>⟨I2.kIn,?_⟩) hst hpl
 exact i_ (us:=us) (vs:=vs) (Ex:=nz) F hr hb dP.no I2 r (q2 _)
noncomputable def As(K:ao):List V→Hp→VK→Prop:=fun xs H Q=>∃a C dx fs v c b,xs=[.ref a,v]∧H a=some (.ins C dx fs)∧Cls K C∧PySem.W.findIn K (.ref C) "__class__"=some (some (.builtin "object.__class__"))∧
 PySem.W.specialIn K (.builtin "object.__class__") "__get__"=some (some (.builtin "getset_descriptor.__get__"))∧PySem.W.takesIn K (.builtin "object.__class__")=some true∧PySem.W.mroIn K C (.type "object")=some true∧
 (∀u,RelV v u→u=c)∧PySem.W.kitOne K (.ref C) c=some b∧Q (.bl b) H
theorem uA:fG X (.builtin "isinstance") (As X.K):=by
 intro pins s σ H xs us Q I r ⟨a,C,dx,fs,v,c,b,ex,e,cl,h1,h2,h3,h4,hv,hk,q⟩
 subst ex
 cases r with
 |cons r1 r2=>
  cases r2 with
  |cons r2 r3=>
   cases r3
   cases hv _ r2
   exact qJ I r1 (.ins e cl h1 h2 h3 h4) hk fun tk=>⟨.bl b,H,I.tok tk,rfl,q⟩
end
theorem _root_.L2.PE.or{X:Cx}{e:Expr}{t u:TE}(h1:PE X e t)(h2:PE X e u):PE X e (fun σ H Q=>t σ H Q∨u σ H Q):=fun pins s σ H Q I h=>h.elim (h1 pins s σ H Q I) (h2 pins s σ H Q I)
theorem _root_.L2.PS.or{X:Cx}{e:Stmt}{t u:TS}(h1:PS X e t)(h2:PS X e u):PS X e (fun D σ H=>t D σ H∨u D σ H):=fun pins s σ H D I h=>h.elim (h1 pins s σ H D I) (h2 pins s σ H D I)
open PySem.SeqAt
theorem zl{x:V}{v:Value}(ry:RelV y u)(rx:RelV x v)(fy:cC y=true)(fx:cC x=true):RcAt A s u v (oO y x):=by
 cases y with
 |non=>
  cases ry
  cases x with
  |non=>cases rx;exact RcAt.none_none
  |bl b=>cases rx;exact RcAt.none_bool b
  |int b=>obtain⟨tb,rfl⟩:=rx;exact RcAt.none_int b tb
  |str b=>obtain⟨tb,rfl⟩:=rx;exact RcAt.none_str b tb
  |_=>exact jO fx
 |bl a=>
  cases ry
  cases x with
  |non=>cases rx;exact RcAt.bool_none a
  |bl b=>cases rx;exact RcAt.bool_bool a b
  |int b=>obtain⟨tb,rfl⟩:=rx;exact RcAt.bool_int a b tb
  |str b=>obtain⟨tb,rfl⟩:=rx;exact RcAt.bool_str a b tb
  |_=>exact jO fx
 |int a=>
  obtain⟨ta,rfl⟩:=ry
  cases x with
  |non=>cases rx;exact RcAt.int_none a ta
  |bl b=>cases rx;exact RcAt.int_bool a ta b
  |int b=>obtain⟨tb,rfl⟩:=rx;exact RcAt.int_int a ta b tb
  |str b=>obtain⟨tb,rfl⟩:=rx;exact RcAt.int_str a ta b tb
  |_=>exact jO fx
 |str a=>
  obtain⟨ta,rfl⟩:=ry
  cases x with
  |non=>cases rx;exact RcAt.str_none a ta
  |bl b=>cases rx;exact RcAt.str_bool a ta b
  |int b=>obtain⟨tb,rfl⟩:=rx;exact RcAt.str_int a ta b tb
  |str b=>obtain⟨tb,rfl⟩:=rx;exact RcAt.str_str a ta b tb
  |_=>exact jO fx
 |_=>exact jO fy
theorem uF{x:V}{v:Value}(ry:RelV y u)(rx:RelV x v)(fy:cC y=true)(fx:cC x=true):RcNeAt A s u v (!oO y x):=by
 cases y with
 |non=>
  cases ry
  cases x with
  |non=>cases rx;exact RcNeAt.none_none
  |bl b=>cases rx;exact RcNeAt.none_bool b
  |int b=>obtain⟨tb,rfl⟩:=rx;exact RcNeAt.none_int b tb
  |str b=>obtain⟨tb,rfl⟩:=rx;exact RcNeAt.none_str b tb
  |_=>exact jO fx
 |bl a=>
  cases ry
  cases x with
  |non=>cases rx;exact RcNeAt.bool_none a
  |bl b=>cases rx;exact RcNeAt.bool_bool a b
  |int b=>obtain⟨tb,rfl⟩:=rx;exact RcNeAt.bool_int a b tb
  |str b=>obtain⟨tb,rfl⟩:=rx;exact RcNeAt.bool_str a b tb
  |_=>exact jO fx
 |int a=>
  obtain⟨ta,rfl⟩:=ry
  cases x with
  |non=>cases rx;exact RcNeAt.int_none a ta
  |bl b=>cases rx;exact RcNeAt.int_bool a ta b
  |int b=>obtain⟨tb,rfl⟩:=rx;exact RcNeAt.int_int a ta b tb
  |str b=>obtain⟨tb,rfl⟩:=rx;exact RcNeAt.int_str a ta b tb
  |_=>exact jO fx
 |str a=>
  obtain⟨ta,rfl⟩:=ry
  cases x with
  |non=>cases rx;exact RcNeAt.str_none a ta
  |bl b=>cases rx;exact RcNeAt.str_bool a ta b
  |int b=>obtain⟨tb,rfl⟩:=rx;exact RcNeAt.str_int a ta b tb
  |str b=>obtain⟨tb,rfl⟩:=rx;exact RcNeAt.str_str a ta b tb
  |_=>exact jO fx
 |_=>exact jO fy
theorem jX{items:Array Value}(hl:s.heap.IsList l items)(hu:A.units<cLine){x:V}{v:Value}(rx:RelV x v)(fx:cC x=true):RcAt A s (.ref l) v false:=by
 cases x with
 |non=>cases rx;exact RcAt.list_none hl hu
 |bl b=>cases rx;exact RcAt.list_bool b hl hu
 |int b=>obtain⟨tb,rfl⟩:=rx;exact RcAt.list_int b tb hl hu
 |str b=>obtain⟨tb,rfl⟩:=rx;exact RcAt.list_str b tb hl hu
 |_=>exact jO fx
theorem jY{items:Array Value}(hl:s.heap.IsList l items)(hu:A.units<cLine){x:V}{v:Value}(rx:RelV x v)(fx:cC x=true):RcAt A s v (.ref l) false:=by
 cases x with
 |non=>cases rx;exact RcAt.none_list hl hu
 |bl b=>cases rx;exact RcAt.bool_list b hl hu
 |int b=>obtain⟨tb,rfl⟩:=rx;exact RcAt.int_list b tb hl hu
 |str b=>obtain⟨tb,rfl⟩:=rx;exact RcAt.str_list b tb hl hu
 |_=>exact jO fx
theorem lZ{items:Array Value}(hl:s.heap.IsList l items)(hu:A.units<cLine){x:V}{v:Value}(rx:RelV x v)(fx:cC x=true):RcNeAt A s (.ref l) v true:=by
 cases x with
 |non=>cases rx;exact RcNeAt.list_none hl hu
 |bl b=>cases rx;exact RcNeAt.list_bool b hl hu
 |int b=>obtain⟨tb,rfl⟩:=rx;exact RcNeAt.list_int b tb hl hu
 |str b=>obtain⟨tb,rfl⟩:=rx;exact RcNeAt.list_str b tb hl hu
 |_=>exact jO fx
theorem l3{items:Array Value}(hl:s.heap.IsList l items)(hu:A.units<cLine){x:V}{v:Value}(rx:RelV x v)(fx:cC x=true):RcNeAt A s v (.ref l) true:=by
 cases x with
 |non=>cases rx;exact RcNeAt.none_list hl hu
 |bl b=>cases rx;exact RcNeAt.bool_list b hl hu
 |int b=>obtain⟨tb,rfl⟩:=rx;exact RcNeAt.int_list b tb hl hu
 |str b=>obtain⟨tb,rfl⟩:=rx;exact RcNeAt.str_list b tb hl hu
 |_=>exact jO fx
theorem iS{items:Array Value}(hl:s.heap.IsTuple l items)(hu:A.units<cLine){x:V}{v:Value}(rx:RelV x v)(fx:cC x=true):RcAt A s (.ref l) v false:=by
 cases x with
 |non=>cases rx;exact RcAt.tuple_none hl hu
 |bl b=>cases rx;exact RcAt.tuple_bool b hl hu
 |int b=>obtain⟨tb,rfl⟩:=rx;exact RcAt.tuple_int b tb hl hu
 |str b=>obtain⟨tb,rfl⟩:=rx;exact RcAt.tuple_str b tb hl hu
 |_=>exact jO fx
theorem iT{items:Array Value}(hl:s.heap.IsTuple l items)(hu:A.units<cLine){x:V}{v:Value}(rx:RelV x v)(fx:cC x=true):RcAt A s v (.ref l) false:=by
 cases x with
 |non=>cases rx;exact RcAt.none_tuple hl hu
 |bl b=>cases rx;exact RcAt.bool_tuple b hl hu
 |int b=>obtain⟨tb,rfl⟩:=rx;exact RcAt.int_tuple b tb hl hu
 |str b=>obtain⟨tb,rfl⟩:=rx;exact RcAt.str_tuple b tb hl hu
 |_=>exact jO fx
theorem ka{items:Array Value}(hl:s.heap.IsTuple l items)(hu:A.units<cLine){x:V}{v:Value}(rx:RelV x v)(fx:cC x=true):RcNeAt A s (.ref l) v true:=by
 cases x with
 |non=>cases rx;exact RcNeAt.tuple_none hl hu
 |bl b=>cases rx;exact RcNeAt.tuple_bool b hl hu
 |int b=>obtain⟨tb,rfl⟩:=rx;exact RcNeAt.tuple_int b tb hl hu
 |str b=>obtain⟨tb,rfl⟩:=rx;exact RcNeAt.tuple_str b tb hl hu
 |_=>exact jO fx
theorem kb{items:Array Value}(hl:s.heap.IsTuple l items)(hu:A.units<cLine){x:V}{v:Value}(rx:RelV x v)(fx:cC x=true):RcNeAt A s v (.ref l) true:=by
 cases x with
 |non=>cases rx;exact RcNeAt.none_tuple hl hu
 |bl b=>cases rx;exact RcNeAt.bool_tuple b hl hu
 |int b=>obtain⟨tb,rfl⟩:=rx;exact RcNeAt.int_tuple b tb hl hu
 |str b=>obtain⟨tb,rfl⟩:=rx;exact RcNeAt.str_tuple b tb hl hu
 |_=>exact jO fx
theorem kR{b:Value}{k:Bool}(hne:(Value.ref l==b)=false)(h:RcAt A s (.ref l) b k):EqAt A s (.ref l) b k:=fun prog w E Q hq=>by
 unfold eqBool
 refine wpAny_holding ?_
 refine wpAny_ite_split (fun hab=>absurd hab (by rw[hne];exact av)) (fun _=>?_)
 exact aa (h prog w E _ (wpAny_truthy_bool hq))
theorem kQ{a:Value}{k:Bool}(hne:(a==Value.ref l)=false)(h:RcAt A s a (.ref l) k):EqAt A s a (.ref l) k:=fun prog w E Q hq=>by
 unfold eqBool
 refine wpAny_holding ?_
 refine wpAny_ite_split (fun hab=>absurd hab (by rw[hne];exact av)) (fun _=>?_)
 cases a<;>exact aa (h prog w E _ (wpAny_truthy_bool hq))
noncomputable def At(K:ao)(H:Hp)(ι:Nat→Addr)(m:Nat)(d:D)(u:Value):Prop:=∃v,VRel K H ι m d v∧RelV v u
noncomputable def wP(K:ao)(H:Hp)(ι:Nat→Addr)(m:Nat)(ds:List D)(us:List Value):Prop:=∃vs,VRels K H ι m ds vs∧bj vs us
theorem wP.length{K:ao}{ds:List D}(h:wP K H ι m ds us):ds.length=us.length:=by
 obtain⟨vs,a,b⟩:=h
 rw[a.length,b.length]
inductive ShAt(K:ao)(H:Hp)(ι:Nat→Addr)(m:Nat)(s:Shared):Sh→Value→Prop where
 |sc {v:V}{u:Value}(f:cC v=true)(r:RelV v u):ShAt K H ι m s (.sc v) u
 |t {a:Addr}{xs:List D}{its:Array Value}(h:s.heap.IsTuple a its)(r:wP K H ι m xs its.toList):ShAt K H ι m s (.t xs) (.ref a)
 |l {a:Addr}{xs:List D}{its:Array Value}(h:s.heap.IsList a its)(r:wP K H ι m xs its.toList):ShAt K H ι m s (.l xs) (.ref a)
 |d {a:Addr}(h:uI s.heap a):ShAt K H ι m s .d (.ref a)
theorem ml{st:aS}{d:D}{sh:Sh}(I:Inv X pins σ H s)(S:Sim X.K H ι st)(h:At X.K H ι st.length d u)(e:shape st d=some sh):
  ShAt X.K H ι st.length s sh u:=by
 obtain⟨v,hv,r⟩:=h
 cases hv with
 |non=>cases e;exact .sc rfl r
 |bl b=>cases e;exact .sc rfl r
 |int i=>cases e;exact .sc rfl r
 |str x=>cases e;exact .sc rfl r
 |tup h hr=>
  cases e;cases r
  obtain⟨its,rv,p,_⟩:=I.tuple h
  exact .t p ⟨_,hr,by simpa using rv⟩
 |fl h hr=>
  cases e;cases r
  obtain⟨its,rv,p,_⟩:=I.list h.sql
  exact .l p.isList ⟨_,hr,by simpa using rv⟩
 | @ref n hn=>
  cases r
  simp only[shape] at e
  cases q:st[n]? with
  |none=>rw[q] at e;cases e
  |some o=>
   rw[q] at e
   have ho:=S.ob n o q
   cases o with
   |lst xs=>
    cases e
    obtain⟨vs,h1,h2⟩:=ho
    obtain⟨its,rv,p,_⟩:=I.list (dz.of h1)
    exact .l p.isList ⟨_,h2,by simpa using rv⟩
   |dct kvs=>
    cases e
    obtain⟨ws,ho,_⟩:=ho
    obtain⟨hz,hS,vs,rv,o,es,ep,h1,h2,h3,_⟩:=(show bx X.prog X.w H s.heap (ι n) (.dK ws) from I.hok _ _ ho)
    obtain⟨c1,c2,c3⟩:=h2
    refine .d ⟨es,ep,?_⟩
    rw[h1]
    obtain⟨cls,dd,data,sl⟩:=o
    simp only at c1 c2 c3 h3
    subst c1 c2 c3 h3
    rfl
   |_=>cases e
theorem all_cons{e:Nat→Bool}{x:Bool}:(List.range (n+1)).all (fun j=>match j with|0=>x|j+1=>e j)=(x&&(List.range n).all e):=by
 rw[List.range_succ_eq_map,List.all_cons,List.all_map]
 rfl
theorem jD{a:Addr}{o:Obj}(I:Inv X pins σ H s)(h:X.K.lookup a=some o):H a=none:=(I.bs a o (I.ok.mod.kin a o h)).2
theorem nQ{a:Addr}(I:Inv X pins σ H s)(h:fP X.K H a xs)(h':dz X.K H a ys):False:=by
 obtain⟨_,_,p,_⟩:=I.tuple h
 obtain⟨_,_,q,_⟩:=I.list h'
 exact ne_of_list_tuple q.isList p rfl
theorem k8{a:Addr}(I:Inv X pins σ H s)(h:fP X.K H a xs):(∃zs,H a=some (.tup zs))∨(∃o u,H a=some (.frz o u))∨H a=none:=by
 rcases h with(h|⟨o,h⟩)|⟨o,_,_,h,_⟩
 ·exact .inl ⟨_,h⟩
 ·exact .inr (.inl ⟨_,_,h⟩)
 ·exact .inr (.inr (jD I h))
theorem tW{a:Addr}(I:Inv X pins σ H s)(h:uN X.K H a xs):(∃o u,H a=some (.frz o u))∨H a=none:=by
 rcases h with⟨o,h⟩|⟨o,_,_,h,_⟩
 ·exact .inl ⟨_,_,h⟩
 ·exact .inr (jD I h)
theorem Sim.obj{K:ao}{st:aS}(S:Sim K H ι st)(h:n<st.length):∃u,H (ι n)=some u∧(∀xs,u≠ .tup xs)∧∀ob w,u≠ .frz ob w:=
 (S.ob n st[n] (by simp[h])).there
mutual
theorem VRel.uniq{st:aS}(I:Inv X pins σ H s)(S:Sim X.K H ι st):∀{d d':D}{v:V},VRel X.K H ι st.length d v→VRel X.K H ι st.length d' v→d=d'
 |_,_,_,.non,h=>by cases h;rfl
 |_,_,_,.bl b,h=>by cases h;rfl
 |_,_,_,.int i,h=>by cases h;rfl
 |_,_,_,.str x,h=>by cases h;rfl
 |_,_,_,.tup h r,h'=>by
  cases h' with
  |tup q r'=>rw[I.tuple_inj h q] at r;rw[VRels.uniq I S r r']
  |fl q _=>exact(nQ I h q.sql).elim
  |ref q=>
   obtain⟨u,e',n1,n2⟩:=S.obj q;rcases k8 I h with⟨_,e⟩|⟨_,_,e⟩|e<;>rw[e] at e'<;>first|(cases e';done)|(cases e';exact absurd rfl (n1 _))|(cases e';exact absurd rfl (n2 _ _))
 |_,_,_,.fl h r,h'=>by
  cases h' with
  |tup q _=>exact(nQ I q h.sql).elim
  |fl q r'=>rw[I.list_inj h.sql q.sql] at r;rw[VRels.uniq I S r r']
  |ref q=>
   obtain⟨u,e',n1,n2⟩:=S.obj q;rcases tW I h with⟨_,_,e⟩|e<;>rw[e] at e'<;>first|(cases e';done)|(cases e';exact absurd rfl (n1 _))|(cases e';exact absurd rfl (n2 _ _))
 |_,_,_,.ref (n:=n) q,h'=>by
  generalize hz:V.ref (ι n)=z at h'
  cases h' with
  |tup h _=>
   injection hz with hz
   rw[←hz] at h
   obtain⟨u,e',n1,n2⟩:=S.obj q;rcases k8 I h with⟨_,e⟩|⟨_,_,e⟩|e<;>rw[e] at e'<;>first|(cases e';done)|(cases e';exact absurd rfl (n1 _))|(cases e';exact absurd rfl (n2 _ _))
  |fl h _=>
   injection hz with hz
   rw[←hz] at h
   obtain⟨u,e',n1,n2⟩:=S.obj q;rcases tW I h with⟨_,_,e⟩|e<;>rw[e] at e'<;>first|(cases e';done)|(cases e';exact absurd rfl (n1 _))|(cases e';exact absurd rfl (n2 _ _))
  |ref q'=>injection hz with hz;rw[S.inj _ _ q q' hz]
  |_=>cases hz
theorem VRels.uniq{st:aS}(I:Inv X pins σ H s)(S:Sim X.K H ι st):∀{ds ds':List D}{vs:List V},VRels X.K H ι st.length ds vs→VRels X.K H ι st.length ds' vs→ds=ds'
 |_,_,_,.nil,h=>by cases h;rfl
 |_,_,_,.cons r t,h=>by
  cases h with
  |cons r' t'=>rw[VRel.uniq I S r r',VRels.uniq I S t t']
end
theorem At.uniq{st:aS}{a b:D}(I:Inv X pins σ H s)(S:Sim X.K H ι st)(ha:At X.K H ι st.length a u)(hb:At X.K H ι st.length b u):a=b:=by
 obtain⟨v,h1,r1⟩:=ha
 obtain⟨w,h2,r2⟩:=hb
 rw[r1.inj r2] at h1
 exact h1.uniq I S h2
theorem uf(h:cC v=true):oO v v=true:=by cases v<;>simp_all [oO,cC]
theorem nO{st:aS}{d:D}(h:shape st d=some (.sc v)):cC v=true:=by
 cases d with
 |ref n=>simp only[shape] at h;split at h<;>cases h
 |_=>cases h<;>rfl
theorem gQ{f:D→D→Option Bool}(hf:∀x k,f x x=some k→k=true):∀{xs:List D}{k:Bool},cW f xs xs=some k→k=true
 |[],k,e=>(aj e).symm
 |x::xs,k,e=>by
  unfold cW at e
  cases e1:f x x with
  |none=>rw[e1] at e;simp at e
  |some p=>
   cases e2:cW f xs xs with
   |none=>rw[e1,e2] at e;simp at e
   |some q=>
    rw[e1,e2] at e
    have e':(p&&q)=k:=aj e
    rw[←e',hf _ _ e1,gQ hf e2];rfl
theorem mJ{f:D→D→Option Bool}(hf:∀x k,f x x=some k→k=true){x:D}{k:Bool}(e:j3 f x x=some k):k=true:=by
 unfold j3 at e
 split at e
 ·split at e
  ·exact(aj e).symm
  ·exact hf _ _ e
 ·exact hf _ _ e
theorem jP{st:aS}:∀(n:Nat){a:D}{k:Bool},cY n st a a=some k→k=true
 |0,_,_,e=>by unfold cY at e;cases e
 |n+1,a,k,e=>by
  unfold cY at e
  cases ea:shape st a with
  |none=>rw[ea] at e;simp at e
  |some sa=>
   rw[ea] at e
   cases sa with
   |sc v=>have e':oO v v=k:=aj e;rw[←e',uf (nO ea)]
   |t xs=>exact gQ (fun _ _=>mJ fun _ _=>jP n) e
   |l xs=>exact gQ (fun _ _=>mJ fun _ _=>jP n) e
   |d=>cases e
theorem pZ(ry:RelV y u)(fy:cC y=true):(u==Value.ref l)=false:=by
 cases y with
 |non=>cases ry;rfl
 |bl b=>cases ry;rfl
 |int i=>obtain⟨t,rfl⟩:=ry;rfl
 |str i=>obtain⟨t,rfl⟩:=ry;rfl
 |_=>cases fy
theorem pO(ry:RelV y u)(fy:cC y=true):(Value.ref l==u)=false:=by
 cases y with
 |non=>cases ry;rfl
 |bl b=>cases ry;rfl
 |int i=>obtain⟨t,rfl⟩:=ry;rfl
 |str i=>obtain⟨t,rfl⟩:=ry;rfl
 |_=>cases fy
theorem p6{X:Cx}{pins:List (Addr×Obj)}{σ:L2.St}{H:Hp}{s:Shared}{ι:Nat→Addr}{st:aS}(I:Inv X pins σ H s)(S:Sim X.K H ι st){n:Nat}
  (ih:∀{a b:D}{u v:Value}{A:Around}{k:Bool},j3 (cY n st) a b=some k→At X.K H ι st.length a u→At X.K H ι st.length b v→A.units+n<cLine→EqAt A s u v k):
  ∀{xs ys:List D}{us vs:List Value}{A:Around}{k:Bool},cW (j3 (cY n st)) xs ys=some k→wP X.K H ι st.length xs us→wP X.K H ι st.length ys vs→A.units+n<cLine→
  ∃e:Nat→Bool,(∀j (h1:j<us.length)(h2:j<vs.length),EqAt A s us[j] vs[j] (e j))∧k=((List.range (min us.length vs.length)).all e&&us.length==vs.length)
 |xs,ys,us,vs,A,k,e,ha,hb,hu=>by
  have la:=ha.length
  have lb:=hb.length
  unfold cW at e
  cases xs with
  |nil=>
   cases us with
   |cons _ _=>simp at la
   |nil=>
    refine⟨fun _=>true,fun j h1 _=>absurd h1 (Nat.not_lt_zero _),?_⟩
    cases ys with
    |nil=>
     cases vs with
     |cons _ _=>simp at lb
     |nil=>rw[←aj e];rfl
    |cons y ys=>
     cases vs with
     |nil=>simp at lb
     |cons _ _=>rw[←aj e];simp
  |cons x xs=>
   cases us with
   |nil=>simp at la
   |cons u us=>
    cases ys with
    |nil=>
     cases vs with
     |cons _ _=>simp at lb
     |nil=>exact⟨fun _=>true,fun j _ h2=>absurd h2 (Nat.not_lt_zero _),by rw[←aj e];simp⟩
    |cons y ys=>
     cases vs with
     |nil=>simp at lb
     |cons v vs=>
      obtain⟨_,r1,q1⟩:=ha
      obtain⟨_,r2,q2⟩:=hb
      cases q1 with
      |cons w1 w2=>
       cases q2 with
       |cons z1 z2=>
        cases r1 with
        |cons m1 m2=>
         cases r2 with
         |cons n1 n2=>
          simp only at e
          cases e1:j3 (cY n st) x y with
          |none=>rw[e1] at e;simp at e
          |some p=>
           cases e2:cW (j3 (cY n st)) xs ys with
           |none=>rw[e1,e2] at e;simp at e
           |some q=>
            rw[e1,e2] at e
            have hE:=ih (A:=A) e1 ⟨_,m1,w1⟩ ⟨_,n1,z1⟩ hu
            obtain⟨f,hf,hk⟩:=p6 I S ih (A:=A) e2 ⟨_,m2,w2⟩ ⟨_,n2,z2⟩ hu
            refine⟨fun j=>match j with|0=>p|j+1=>f j,fun j h1 h2=>?_,?_⟩
            ·cases j with
             |zero=>exact hE
             |succ j=>exact hf j (by simpa using h1) (by simpa using h2)
            ·have e3:min (u::us).length (v::vs).length=min us.length vs.length+1:=by simp only[List.length_cons];omega
             have e4:((u::us).length==(v::vs).length)=(us.length==vs.length):=by simp
             rw[e3,e4,all_cons,←aj e,hk,Bool.and_assoc]
theorem wx{st:aS}{f:D→D→Option Bool}{a b:D}{v:Value}{k:Bool}(h:f a b=some k→EqAt A s u v k)(e:j3 f a b=some k)(pa:At X.K H ι st.length a u)(pb:At X.K H ι st.length b v):EqAt A s u v k:=by
 unfold j3 at e
 split at e
 ·rename_i i j
  split at e
  ·rename_i hij
   subst hij
   obtain⟨y,q1,r1⟩:=pa
   obtain⟨z,q2,r2⟩:=pb
   cases q1
   cases q2
   cases r1
   cases r2
   rw[←aj e]
   exact EqAt.same _
  ·exact h e
 ·exact h e
theorem lR{X:Cx}{pins:List (Addr×Obj)}{σ:L2.St}{H:Hp}{s:Shared}{ι:Nat→Addr}{st:aS}(I:Inv X pins σ H s)(S:Sim X.K H ι st):∀(n:Nat){a b:D}{u v:Value}{A:Around}{k:Bool},cY n st a b=some k→At X.K H ι st.length a u→At X.K H ι st.length b v→A.units+n<cLine→
  RcAt A s u v k∧RcNeAt A s u v (!k)∧EqAt A s u v k
 |0,_,_,_,_,_,_,e,_,_,_=>by unfold cY at e;cases e
 |n+1,a,b,u,v,A,k,e,pa,pb,hu=>by
  have hu0:A.units<cLine:=by omega
  have hu1:A.in1.units+n<cLine:=by show A.units+1+n<cLine;omega
  have e0:=e
  unfold cY at e
  cases ea:shape st a with
  |none=>rw[ea] at e;simp at e
  |some sa=>
   cases eb:shape st b with
   |none=>rw[ea,eb] at e;simp at e
   |some sb=>
    rw[ea,eb] at e
    have ua:=ml I S pa ea
    have ub:=ml I S pb eb
    have refs:∀{l l':Addr},u=.ref l→v=.ref l'→RcAt A s u v k→RcNeAt A s u v (!k)→RcAt A s u v k∧RcNeAt A s u v (!k)∧EqAt A s u v k:=fun{l l'} h1 h2 h3 h4=>by
     refine⟨h3,h4,?_⟩
     by_cases hl:l=l'
     ·have huv:u=v:=by rw[h1,h2,hl]
      subst huv
      have:=pa.uniq I S pb
      subst this
      rw[jP _ e0]
      exact EqAt.same _
     ·subst h1 h2
      exact EqAt.of_refs hl h3
    have seqs:∀{xs ys:List D}{us vs:List Value},cW (j3 (cY n st)) xs ys=some k→wP X.K H ι st.length xs us→wP X.K H ι st.length ys vs→
      ∃e:Nat→Bool,(∀j (h1:j<us.length)(h2:j<vs.length),EqAt A.in1 s us[j] vs[j] (e j))∧k=((List.range (min us.length vs.length)).all e&&us.length==vs.length):=fun q ra rb=>p6 I S (fun a b c d=>wx (X:=X) (H:=H) (ι:=ι) (st:=st) (fun a=>(lR I S n a b c d).2.2) a b c) q ra rb hu1
    cases ua with
    |sc fa ra=>
     cases ub with
     |sc fb rb=>cases e;exact⟨zl ra rb fa fb,uF ra rb fa fb,yW ra rb fa fb⟩
     |t hb _=>cases e;exact⟨iT hb hu0 ra fa,kb hb hu0 ra fa,kQ (pZ ra fa) (iT hb hu0 ra fa)⟩
     |l hb _=>cases e;exact⟨jY hb hu0 ra fa,l3 hb hu0 ra fa,kQ (pZ ra fa) (jY hb hu0 ra fa)⟩
     |d hb=>cases e
    | @t a1 xs its ha ra=>
     cases ub with
     |sc fb rb=>cases e;exact⟨iS ha hu0 rb fb,ka ha hu0 rb fb,kR (pO rb fb) (iS ha hu0 rb fb)⟩
     | @t b1 ys its2 hb rb=>
      obtain⟨f,hf,hk⟩:=seqs e ra rb
      have hf':∀j (h1:j<its.size)(h2:j<its2.size),EqAt A.in1 s its[j] its2[j] (f j):=fun j h1 h2=>by
       have q:=hf j (by simpa using h1) (by simpa using h2)
       rw[Array.getElem_toList,Array.getElem_toList] at q
       exact q
      have q1:=RcAt.tuples ha hb hu0 hf'
      have q2:=RcNeAt.tuples ha hb hu0 hf'
      have ek:((List.range (min its.size its2.size)).all f&&its.size==its2.size)=k:=by rw[hk];simp
      rw[ek] at q1 q2
      exact refs rfl rfl q1 q2
     |l hb _=>cases e;exact refs rfl rfl (RcAt.tuple_list ha hb hu0) (RcNeAt.tuple_list ha hb hu0)
     |d hb=>cases e
    | @l a1 xs its ha ra=>
     cases ub with
     |sc fb rb=>cases e;exact⟨jX ha hu0 rb fb,lZ ha hu0 rb fb,kR (pO rb fb) (jX ha hu0 rb fb)⟩
     |t hb _=>cases e;exact refs rfl rfl (RcAt.list_tuple ha hb hu0) (RcNeAt.list_tuple ha hb hu0)
     | @l b1 ys its2 hb rb=>
      obtain⟨f,hf,hk⟩:=seqs e ra rb
      have hf':∀j (h1:j<its.size)(h2:j<its2.size),EqAt A.in1 s its[j] its2[j] (f j):=fun j h1 h2=>by
       have q:=hf j (by simpa using h1) (by simpa using h2)
       rw[Array.getElem_toList,Array.getElem_toList] at q
       exact q
      by_cases hsz:its.size=its2.size
      ·have q1:=RcAt.lists ha hb hsz hu0 hf'
       have q2:=RcNeAt.lists ha hb hsz hu0 hf'
       have ek:(List.range its.size).all f=k:=by rw[hk];simp[hsz]
       rw[ek] at q1 q2
       exact refs rfl rfl q1 q2
      ·have ek:k=false:=by rw[hk];simp[hsz]
       subst ek
       exact refs rfl rfl (RcAt.lists_lengths ha hb (by simpa using hsz) hu0) (RcNeAt.lists_lengths ha hb (by simpa using hsz) hu0)
     |d hb=>cases e
    |d ha=>
     cases ub with
     |l hb _=>cases e;exact refs rfl rfl (RcAt.dict_list ha hb hu0) (RcNeAt.dict_list ha hb hu0)
     |_=>cases e
noncomputable def io:List (Key×D)→Key→Option D
 |[],_=>none
 |p::r,k=>if p.1=k then some p.2 else io r k
noncomputable abbrev Loc:=List (Option D)
inductive Bo where
 |add|sub|mul|fdiv|mod|pow
inductive Bt where
 |len|list|tuple|int|all|dict
inductive Ty where
 |int|bool|list|tuple
inductive Ex where
 |c (d:D)|v (i:Nat)|tup (es:List Ex)|lst (es:List Ex)|emp
 |bin (op:Bo)(a b:Ex)|neg (a:Ex)|not (a:Ex)|and (a b:Ex)|or (a b:Ex)
 |cmp (op:CmpOp)(a b:Ex)|chain (op op':CmpOp)(a b c:Ex)
 |ix (a b:Ex)|sl (a lo hi:Ex)(hl hh:Bool)
 |fn (f:Nat) (args:List Ex)|bt (f:Bt)(args:List Ex)|isi (a:Ex)(t:Ty)
 |comp (rng:Bool)(src elt:Ex)
 |ite (c a b:Ex)|compE (src elt:Ex)|dict (ks:List Str) (vs:List Ex)|pop (o:Ex)(fr:Bool)
 |fld (a:Ex)(f:Str)(cs ics:List Str)|isc (a:Ex)(yes no:List Str)
 |compEIf (src test elt:Ex)|lrng (a:Ex)|den (a:Ex)
 |new (x:Str) (f:Nat) (args:List Ex)|meth (o:Ex)(m:Str)(ms:List (Str×Nat))(args:List Ex)|isk (a:Ex)(yes no:List Str)
noncomputable def alloc(xs:List D):M D:=fun st=>.ok (.ref st.length) (st++[.lst xs])
noncomputable def allocD:M D:=fun st=>.ok (.ref st.length) (st++[.dct []])
noncomputable def cr(st:aS):D→Option (List D)
 | .tup xs=>some xs
 | .fl xs=>some xs
 | .ref n=>match st[n]? with
  |some (.lst xs)=>some xs
  |_=>none
 |_=>none
noncomputable def yb(fr:Bool)(x:D):M D:=fun st=>match x with
 | .ref n=>match st[n]? with
  |some (.lst xs)=>if fr then .bad else(match xs[xs.length - 1]? with
   |some y=>.ok y (st.set n (.lst xs.dropLast))
   |none=>.bad)
  |_=>.bad
 |_=>.bad
noncomputable def big:Int:=18446744073709551616
noncomputable def cu(op:Bo)(x y:D):M D:=fun st=>match op,x,y with
 | .add,.int i,.int j=>.ok (.int (i+j)) st
 | .add,.tup (a::as),.tup bs=>if(a::as).length+bs.length≤1000000 then .ok (.tup (a::as++bs)) st else .bad
 | .add,.tup [],.tup bs=>.ok (.tup bs) st
 | .add,.ref m,.ref n=>match st[m]?,st[n]? with
  |some (.lst as),some (.lst bs)=>if as.length+bs.length≤1000000 then alloc (as++bs) st else .bad
  |_,_=>.bad
 | .sub,.int i,.int j=>.ok (.int (i - j)) st
 | .mul,.int i,.int j=>if((-big<i∧i<big)∨(-big<j∧j<big))∨(i.natAbs<2^1000∧j.natAbs<2^1000) then .ok (.int (i*j)) st else .bad
 | .mul,.ref m,.int j=>match st[m]? with
  |some (.lst as)=>if 0≤j∧j≤1000∧as.length≤1000 then alloc (List.flatten (List.replicate j.toNat as)) st else .bad
  |_=>.bad
 | .fdiv,.int i,.int j=>if j≠0∧j.natAbs<2^200 then .ok (.int (i.fdiv j)) st else .bad
 | .mod,.int i,.int j=>if j≠0 then .ok (.int (i.fmod j)) st else .bad
 | .pow,.int i,.int j=>if 0≤j∧j≤1000∧i.natAbs<1000 then .ok (.int (i^j.toNat)) st else .bad
 |_,_,_=>.bad
noncomputable def ig(st:aS)(x:D):List D→Option Bool
 |[]=>some false
 |y::ys=>match cY 60 st y x,ig st x ys with
  |some a,some b=>some (a||b)
  |_,_=>none
noncomputable def mI(o:D):M Unit:=fun st=>match o with
 | .ref n=>match st[n]? with
  |some (.lst _)=>.ok () st
  |_=>.bad
 |_=>.bad
noncomputable def allB:List D→Option Bool
 |[]=>some true
 | .bl b::ds=>match allB ds with
  |some k=>some (b&&k)
  |none=>none
 |_::_=>none
noncomputable def yK:D→Option Key
 | .int i=>some (.inl i)
 | .str s=>some (.inr s)
 |_=>none
noncomputable def zt(x y:D):Option Bool:=match y with
 | .non=>some (match x with| .non=>true|_=>false)
 |_=>none
noncomputable def bQ(op:CmpOp)(x y:D):M D:=fun st=>match op with
 | .Eq=>match cY 60 st x y with
  |some k=>.ok (.bl k) st
  |none=>.bad
 | .NotEq=>match cY 60 st x y with
  |some k=>.ok (.bl (!k)) st
  |none=>.bad
 | .Lt=>match x,y with
  | .int i,.int j=>.ok (.bl (decide (i<j))) st
  |_,_=>.bad
 | .LtE=>match x,y with
  | .int i,.int j=>.ok (.bl (decide (i≤j))) st
  |_,_=>.bad
 | .Gt=>match x,y with
  | .int i,.int j=>.ok (.bl (decide (j<i))) st
  |_,_=>.bad
 | .In=>match cr st y with
  |some ys=>match ig st x ys with
   |some k=>.ok (.bl k) st
   |none=>.bad
  |none=>.bad
 | .Is=>match zt x y with
  |some k=>.ok (.bl k) st
  |none=>.bad
 | .IsNot=>match zt x y with
  |some k=>.ok (.bl (!k)) st
  |none=>.bad
 |_=>.bad
noncomputable def zv(st:aS)(x:D)(k:Key):R D:=match x with
 | .ref n=>match st[n]? with
  |some (.dct kvs)=>match io kvs k with
   |some d=>.ok d st
   |none=>.bad
  |_=>.bad
 |_=>.bad
noncomputable def index(x y:D):M D:=fun st=>match x,y with
 |x,.int i=>match cr st x with
  |some xs=>match rf xs i with
   |some d=>.ok d st
   |none=>.bad
  |none=>zv st x (.inl i)
 |x,.str k=>zv st x (.inr k)
 |_,_=>.bad
noncomputable def fO(f:Bt)(ds:List D):M D:=fun st=>match f,ds with
 | .len,[x]=>match cr st x with
  |some xs=>.ok (.int xs.length) st
  |none=>.bad
 | .list,[x]=>match cr st x with
  |some xs=>alloc xs st
  |none=>.bad
 | .tuple,[.tup xs]=>.ok (.tup xs) st
 | .tuple,[x]=>match cr st x with
  |some xs=>.ok (.tup xs) st
  |none=>.bad
 | .int,[.int i]=>.ok (.int i) st
 | .int,[.bl b]=>.ok (.int (if b then 1 else 0)) st
 | .all,[.ref n]=>match st[n]? with
  |some (.lst xs)=>match allB xs with
   |some k=>.ok (.bl k) st
   |none=>.bad
  |_=>.bad
 | .dict,[.ref n]=>match st[n]? with
  |some (.dct kvs)=>.ok (.ref st.length) (st++[.dct kvs])
  |_=>.bad
 |_,_=>.bad
noncomputable def cb(st:aS)(t:Ty):D→Option Bool
 | .non=>some false
 | .bl _=>some (match t with| .int=>true| .bool=>true|_=>false)
 | .int _=>some (match t with| .int=>true|_=>false)
 | .str _=>some false
 | .tup _=>some (match t with| .tuple=>true|_=>false)
 | .fl _=>some (match t with| .list=>true|_=>false)
 | .ref n=>match st[n]? with
  |some (.lst _)=>some (match t with| .list=>true|_=>false)
  |some (.dct _)=>some false
  |_=>none
inductive Src where
 |its (xs:List D)|at(n:Nat)|en (n:Nat)|zp (xs:List D) (n:Nat)
noncomputable def bp(n:Nat):List D:=(List.range n).map fun(i:Nat)=>D.int (i:Int)
noncomputable def fe(rng:Bool)(d:D):Option Src:=match rng,d with
 |true,.int j=>if -1000000≤j∧j≤1000000 then some (.its (bp j.toNat)) else none
 |false,.tup xs=>some (.its xs)
 |false,.fl xs=>some (.its xs)
 |false,.ref n=>some (.at n)
 |_,_=>none
noncomputable def fD(k:Nat):List D→List D
 |[]=>[]
 |x::xs=>.tup [.int (k:Int),x]::fD (k+1) xs
theorem iG:∀(xs:List D)(k i:Nat),(fD k xs)[i]? =xs[i]?.map fun x=>.tup [.int ((k+i:Nat):Int),x]
 |[],k,i=>by simp[fD]
 |x::xs,k,0=>by simp[fD]
 |x::xs,k,i+1=>by
  simp only[fD,List.getElem?_cons_succ]
  rw[iG xs (k+1) i,show k+1+i=k+(i+1) by omega]
noncomputable def jQ:D→Option Src
 | .ref n=>some (.en n)
 | .tup xs=>some (.its (fD 0 xs))
 |_=>none
noncomputable def zy:D→D→Option Src
 | .tup xs,.ref n=>some (.zp xs n)
 |_,_=>none
noncomputable def gR(s:Src)(i:Nat)(st:aS):Option (Option D):=match s with
 | .its xs=>some xs[i]?
 | .at n=>match st[n]? with
  |some (.lst xs)=>some xs[i]?
  |_=>none
 | .en n=>match st[n]? with
  |some (.lst xs)=>some (xs[i]?.map fun x=>.tup [.int (i:Int),x])
  |_=>none
 | .zp xs n=>match st[n]? with
  |some (.lst ys)=>some (match xs[i]?,ys[i]? with
   |some x,some y=>some (.tup [x,y])
   |_,_=>none)
  |_=>none
noncomputable def gJ(s:Src)(st:aS):Nat:=match s with
 | .its xs=>xs.length
 | .at n=>match st[n]? with
  |some (.lst xs)=>xs.length
  |_=>0
 | .en n=>match st[n]? with
  |some (.lst xs)=>xs.length
  |_=>0
 | .zp xs _=>xs.length
noncomputable def c6(f:D→M (Option D))(s:Src):Nat→Nat→List D→M (List D)
 |0,_,_=>stuck
 |k+1,i,acc=>fun st=>match gR s i st with
  |some (some x)=>ba (f x) (fun o=>match o with
   |some y=>c6 f s k (i+1) (acc++[y])
   |none=>c6 f s k (i+1) acc) st
  |some none=>.ok acc st
  |none=>.bad
noncomputable def cf(f:D→M (Option D))(s:Src):M D:=fun st=>if gJ s st≤1000000 then ba (c6 f s (gJ s st+1) 0 []) alloc st else .bad
noncomputable def fF:D→Option Bool
 | .bl b=>some b
 |_=>none
noncomputable def iF:D→Option Int
 | .int i=>some i
 |_=>none
noncomputable def cutD(xs:List D)(lo hi:Option Int):List D:=(xs.drop (HT.cF xs.length 0 lo)).take (HT.cF xs.length xs.length hi - HT.cF xs.length 0 lo)
noncomputable def slice(x:D)(lo hi:Option Int):M D:=fun st=>match x with
 | .tup xs=>if HT.cF xs.length 0 lo=0∧HT.cF xs.length xs.length hi=xs.length then .bad else .ok (.tup (cutD xs lo hi)) st
 |x=>match cr st x with
  |some xs=>alloc (cutD xs lo hi) st
  |none=>.bad
noncomputable def oU(ks:List Str)(ds:List D):M D:=fun st=>if ks.length=ds.length∧ks.Nodup then .ok (.ref st.length) (st++[.dct ((ks.zip ds).map fun p=>(Sum.inr p.1,p.2))]) else .bad
noncomputable def tF(x:D):M D:=fun st=>match x with
 | .int j=>if -1000000≤j∧j≤1000000 then alloc (bp j.toNat) st else .bad
 |_=>.bad
noncomputable def za(x:D):M D:=fun st=>match x with
 | .ref n=>match st[n]? with
  |some (.lst xs)=>.ok (.ref st.length) (st++[.dct (xs.zipIdx.map fun q=>(Sum.inl (q.2:Int),q.1))])
  |_=>.bad
 |_=>.bad
noncomputable def oH(f:Str)(cs ics:List Str)(x:D):M D:=fun st=>match x with
 | .ref n=>match st[n]? with
  |some (.ins c fs)=>match fs.lookup f with
   |some d=>if c∈ics then .ok d st else .bad
   |none=>.bad
  |some (.err c (some m) _)=>match st[m]? with
   |some (.edc fs)=>match fs.lookup f with
    |some d=>if c∈cs then .ok d st else .bad
    |none=>.bad
   |_=>.bad
  |_=>.bad
 |_=>.bad
noncomputable def jR(st:aS):Option Nat→Bool
 |none=>true
 |some m=>match st[m]? with
  |some (.edc _)=>true
  |_=>false
noncomputable def wk(yes no:List Str)(x:D):M D:=fun st=>match x with
 | .ref n=>match st[n]? with
  |some (.err c d _)=>if jR st d=true then(if c∈yes then .ok (.bl true) st else if c∈no then .ok (.bl false) st else .bad) else .bad
  |_=>.bad
 |_=>.bad
noncomputable def yM(yes no:List Str)(x:D):M D:=fun st=>match x with
 | .ref n=>match st[n]? with
  |some (.ins c _)=>if c∈yes then .ok (.bl true) st else if c∈no then .ok (.bl false) st else .bad
  |_=>.bad
 |_=>.bad
noncomputable def q_(x:D):M Str:=fun st=>match x with
 | .ref n=>match st[n]? with
  |some (.ins c _)=>.ok c st
  |_=>.bad
 |_=>.bad
noncomputable def pQ(m:Str)(ms:List (Str×Nat))(x:D):M Nat:=fun st=>match x with
 | .ref n=>match st[n]? with
  |some (.ins c fs)=>match fs.lookup m,ms.lookup c with
   |none,some j=>.ok j st
   |_,_=>.bad
  |_=>.bad
 |_=>.bad
inductive Rs where
 |v (d:D)|x (n:Nat)
noncomputable def Rs.val?:Rs→Option D
 | .v d=>some d
 | .x _=>none
noncomputable abbrev c_:=Nat→List D→M Rs
noncomputable def tx(g:c_)(x:Str)(f:Nat)(ds:List D):M D:=fun st=>ba (g f (.ref st.length::ds)) (fun r=>match r with
 | .v .non=>ret (.ref st.length)
 |_=>stuck) (st++[.ins x []])
mutual
noncomputable def run(g:c_):Ex→Loc→M D
 | .c d,_=>ret d
 | .v i,loc=>dU (loc[i]?.join)
 | .tup es,loc=>ba (runs g es loc) fun ds=>ret (.tup ds)
 | .lst es,loc=>ba (runs g es loc) alloc
 | .emp,_=>allocD
 | .bin op a b,loc=>ba (run g a loc) fun x=>ba (run g b loc) fun y=>cu op x y
 | .neg a,loc=>ba (run g a loc) fun x=>ba (dU (iF x)) fun i=>ret (.int (-i))
 | .not a,loc=>ba (run g a loc) fun x=>ba (dU (fF x)) fun b=>ret (.bl (!b))
 | .and a b,loc=>ba (run g a loc) fun x=>ba (dU (fF x)) fun k=>if k then run g b loc else ret (.bl false)
 | .or a b,loc=>ba (run g a loc) fun x=>ba (dU (fF x)) fun k=>if k then ret (.bl true) else run g b loc
 | .cmp op a b,loc=>ba (run g a loc) fun x=>ba (run g b loc) fun y=>bQ op x y
 | .chain op op' a b c,loc=>ba (run g a loc) fun x=>ba (run g b loc) fun y=>ba (bQ op x y) fun z=>ba (dU (fF z)) fun k=>if k then ba (run g c loc) fun w=>bQ op' y w else ret (.bl false)
 | .ix a b,loc=>ba (run g a loc) fun x=>ba (run g b loc) fun y=>index x y
 | .sl a lo hi hl hh,loc=>ba (run g a loc) fun x=>ba (if hl then ba (run g lo loc) fun z=>ba (dU (iF z)) fun i=>ret (some i) else ret none) fun l=>
   ba (if hh then ba (run g hi loc) fun z=>ba (dU (iF z)) fun i=>ret (some i) else ret none) fun h=>slice x l h
 | .fn f args,loc=>ba (runs g args loc) fun ds=>ba (g f ds) fun r=>dU r.val?
 | .bt f args,loc=>ba (runs g args loc) fun ds=>fO f ds
 | .isi a t,loc=>ba (run g a loc) fun x=>fun st=>match cb st t x with
  |some k=>.ok (.bl k) st
  |none=>.bad
 | .comp rng src elt,loc=>ba (run g src loc) fun d=>ba (dU (fe rng d)) fun s=>cf (fun x=>ba (run g elt (some x::loc)) fun y=>ret (some y)) s
 | .ite c a b,loc=>ba (run g c loc) fun x=>ba (dU (fF x)) fun k=>if k then run g a loc else run g b loc
 | .compE src elt,loc=>ba (run g src loc) fun d=>ba (dU (jQ d)) fun s=>
   cf (fun x=>match x with
    | .tup [a,b]=>ba (run g elt (some a::some b::loc)) fun y=>ret (some y)
    |_=>stuck) s
 | .compEIf src test elt,loc=>ba (run g src loc) fun d=>ba (dU (jQ d)) fun s=>
   cf (fun x=>match x with
    | .tup [a,b]=>ba (run g test (some a::some b::loc)) fun z=>ba (dU (fF z)) fun k=>if k then ba (run g elt (some a::some b::loc)) fun y=>ret (some y) else ret none
    |_=>stuck) s
 | .dict ks es,loc=>ba (runs g es loc) fun ds=>oU ks ds
 | .lrng a,loc=>ba (run g a loc) fun x=>tF x
 | .den a,loc=>ba (run g a loc) fun x=>za x
 | .pop o fr,loc=>ba (run g o loc) fun x=>yb fr x
 | .fld a f cs ics,loc=>ba (run g a loc) fun x=>oH f cs ics x
 | .isc a yes no,loc=>ba (run g a loc) fun x=>wk yes no x
 | .new x f args,loc=>ba (runs g args loc) fun ds=>tx g x f ds
 | .meth o m ms args,loc=>ba (run g o loc) fun x=>ba (pQ m ms x) fun j=>ba (runs g args loc) fun ds=>ba (g j (x::ds)) fun r=>dU r.val?
 | .isk a yes no,loc=>ba (run g a loc) fun x=>yM yes no x
noncomputable def runs(g:c_):List Ex→Loc→M (List D)
 |[],_=>ret []
 |e::es,loc=>ba (run g e loc) fun d=>ba (runs g es loc) fun ds=>ret (d::ds)
end
inductive Tg where
 |no|set (i:Nat)
inductive S where
 |set (i:Nat)(e:Ex)|setix (o i e:Ex)|ret (e:Ex)|ret0|ex (e:Ex)|app (o e:Ex)|pass
 |ite (c:Ex)(a b:List S)|for_ (i:Nat)(rng:Bool)(src:Ex)(body:List S)
 |whil (c:Ex)(body:List S)|forE (is:List Nat)(src:Ex)(body:List S)|forZ (is:List Nat)(a b:Ex)(body:List S)
 |setf (o:Ex)(f:Str)(e:Ex)(cs ics:List Str)|augf (o:Ex)(f:Str)(e:Ex)(ics:List Str)|callx (k:Tg)(f:Nat) (args:List Ex)|rais (x:Str) (f:Nat) (args:List Ex)
 |try2 (body:List S)(y1 n1:List Str)(i1:Nat) (s1:List S) (y2:List Str) (i2:Nat) (s2:List S)
 |stop
inductive Fl where
 |nx (loc:Loc)|rt (d:D)|ex (n:Nat)(loc:Loc)
noncomputable def jx(kvs:List (Key×D))(k:Key)(v:D):List (Key×D):=if(kvs.any fun kv=>decide (kv.1=k)) then kvs.map (fun kv=>if kv.1=k then(kv.1,v) else kv) else kvs++[(k,v)]
noncomputable def gU(o i v:D):M Unit:=fun st=>match o with
 | .ref n=>match st[n]? with
  |some (.dct kvs)=>match yK i with
   |some k=>if kvs.length<1000000 then .ok () (st.set n (.dct (jx kvs k v))) else .bad
   |none=>.bad
  |_=>.bad
 |_=>.bad
noncomputable def append(o v:D):M Unit:=fun st=>match o with
 | .ref n=>match st[n]? with
  |some (.lst xs)=>if xs.length<1000000 then .ok () (st.set n (.lst (xs++[v]))) else .bad
  |_=>.bad
 |_=>.bad
noncomputable def zk(x y:D):M D:=fun st=>match x,y with
 | .int i,.int j=>.ok (.int (i+j)) st
 |_,_=>.bad
noncomputable def fi(f:D→Loc→M Fl)(s:Src):Nat→Nat→Loc→M Fl
 |0,_,_=>stuck
 |k+1,i,loc=>fun st=>match gR s i st with
  |some (some x)=>ba (f x loc) (fun r=>match r with
   | .nx loc'=>fi f s k (i+1) loc'
   | .rt d=>ret (.rt d)
   | .ex n l=>ret (.ex n l)) st
  |some none=>.ok (.nx loc) st
  |none=>.bad
noncomputable def eY(f:D→Loc→M Fl)(s:Src)(loc:Loc):M Fl:=fun st=>fi f s (gJ s st+1) 0 loc st
noncomputable def gG(c:Loc→M D)(f:Loc→M Fl):Nat→Loc→M Fl
 |0,_=>stuck
 |k+1,loc=>ba (c loc) fun x=>ba (dU (fF x)) fun b=>if b then ba (f loc) (fun r=>match r with
   | .nx loc'=>gG c f k loc'
   | .rt d=>ret (.rt d)
   | .ex n l=>ret (.ex n l)) else ret (.nx loc)
noncomputable def yU:Nat:=1000000000
noncomputable def jv:List Nat→List D→Loc→Loc
 |i::is,d::ds,loc=>jv is ds (loc.set i (some d))
 |_,_,loc=>loc
noncomputable def items?(n:Nat)(d:D):M (List D):=fun st=>match cr st d with
 |some xs=>if xs.length=n then .ok xs st else .bad
 |none=>.bad
noncomputable def fS(cs ics:List Str)(o:D)(f:Str)(v:D):M Unit:=fun st=>match o with
 | .ref n=>match st[n]? with
  |some (.ins c fs)=>if fs.length<900∧c∈ics then .ok () (st.set n (.ins c (putD f v fs))) else .bad
  |some (.err c none t)=>if c∈cs then .ok () (st.set n (.err c (some st.length) t)++[.edc [(f,v)]]) else .bad
  |some (.err c (some m) _)=>match st[m]? with
   |some (.edc fs)=>if fs.length<900∧c∈cs then .ok () (st.set m (.edc (putD f v fs))) else .bad
   |_=>.bad
  |_=>.bad
 |_=>.bad
noncomputable def AT(k:Tg)(d:D)(loc:Loc):M Fl:=match k with
 | .no=>ret (.nx loc)
 | .set i=>ret (.nx (loc.set i (some d)))
noncomputable def qP(k:Tg)(loc:Loc):Rs→M Fl
 | .v d=>AT k d loc
 | .x n=>ret (.ex n loc)
noncomputable def jB(g:c_)(x:Str)(f:Nat)(ds:List D):M Nat:=fun st=>ba (g f (.ref st.length::ds)) (fun r=>match r with
 | .v .non=>fun st1=>match st1[st.length]? with
  |some (.err c d false)=>if c=x then .ok st.length (st1.set st.length (.err c d true)) else .bad
  |_=>.bad
 |_=>stuck) (st++[.err x none false])
mutual
noncomputable def exec(g:c_):S→Loc→M Fl
 | .set i e,loc=>ba (run g e loc) fun d=>ret (.nx (loc.set i (some d)))
 | .setix o i e,loc=>ba (run g e loc) fun d=>ba (run g o loc) fun x=>ba (run g i loc) fun k=>ba (gU x k d) fun _=>ret (.nx loc)
 | .ret e,loc=>ba (run g e loc) fun d=>ret (.rt d)
 | .ret0,_=>ret (.rt .non)
 | .ex e,loc=>ba (run g e loc) fun _=>ret (.nx loc)
 | .app o e,loc=>ba (run g o loc) fun x=>ba (mI x) fun _=>ba (run g e loc) fun d=>ba (append x d) fun _=>ret (.nx loc)
 | .pass,loc=>ret (.nx loc)
 | .ite c a b,loc=>ba (run g c loc) fun x=>ba (dU (fF x)) fun k=>if k then execs g a loc else execs g b loc
 | .for_ i rng src body,loc=>ba (run g src loc) fun d=>ba (dU (fe rng d)) fun s=>eY (fun x loc'=>execs g body (loc'.set i (some x))) s loc
 | .whil c body,loc=>gG (run g c) (execs g body) yU loc
 | .forE is src body,loc=>ba (run g src loc) fun d=>ba (dU (jQ d)) fun s=>eY (fun x loc'=>ba (items? is.length x) fun ds=>execs g body (jv is ds loc')) s loc
 | .forZ is a b body,loc=>ba (run g a loc) fun x=>ba (run g b loc) fun y=>ba (dU (zy x y)) fun s=>eY (fun x loc'=>ba (items? is.length x) fun ds=>execs g body (jv is ds loc')) s loc
 | .setf o f e cs ics,loc=>ba (run g e loc) fun d=>ba (run g o loc) fun x=>ba (fS cs ics x f d) fun _=>ret (.nx loc)
 | .augf o f e ics,loc=>ba (run g o loc) fun x=>ba (oH f [] ics x) fun y=>ba (q_ x) fun c=>ba (run g e loc) fun z=>ba (zk y z) fun w=>ba (q_ x) fun c'=>if c=c' then ba (fS [] ics x f w) fun _=>ret (.nx loc) else stuck
 | .callx k f args,loc=>ba (runs g args loc) fun ds=>ba (g f ds) fun r=>qP k loc r
 | .rais x f args,loc=>ba (runs g args loc) fun ds=>ba (jB g x f ds) fun n=>ret (.ex n loc)
 | .try2 body y1 n1 i1 s1 y2 i2 s2,loc=>ba (execs g body loc) fun r=>match r with
  | .nx l=>ret (.nx l)
  | .rt d=>ret (.rt d)
  | .ex n l=>fun st=>match st[n]? with
   |some (.err x _ true)=>if x∈y1 then ba (execs g s1 (l.set i1 (some (.ref n)))) (fun r=>match r with
     | .nx l2=>ret (.nx (l2.set i1 none))
     | .rt d=>ret (.rt d)
     | .ex _ _=>stuck) st else if x∈n1∧x∈y2 then ba (execs g s2 (l.set i2 (some (.ref n)))) (fun r=>match r with
     | .nx l2=>ret (.nx (l2.set i2 none))
     | .rt d=>ret (.rt d)
     | .ex _ _=>stuck) st else .bad
   |_=>.bad
 | .stop,_=>stuck
noncomputable def execs(g:c_):List S→Loc→M Fl
 |[],loc=>ret (.nx loc)
 |s::ss,loc=>ba (exec g s loc) fun r=>match r with
  | .nx loc'=>execs g ss loc'
  | .rt d=>ret (.rt d)
  | .ex n l=>ret (.ex n l)
end
structure Fn where
 ar:Nat
 nl:Nat
 body:List S
noncomputable def nq(g:c_)(f:Fn)(ds:List D):M Rs:=if ds.length=f.ar then ba (execs g f.body (ds.map some++List.replicate (f.nl - ds.length) none)) fun r=>match r with
  | .nx _=>ret (.v .non)
  | .rt d=>ret (.v d)
  | .ex n _=>ret (.x n)
 else stuck
noncomputable def calls(tab:List Fn):Nat→c_
 |0,_,_=>stuck
 |k+1,f,ds=>match tab[f]? with
  |some fn=>nq (calls tab k) fn ds
  |none=>stuck
noncomputable def cv(K:ao)(H:Hp)(ι:Nat→Addr)(st:aS)(r:R D)(Q:VK):Prop:=match r with
 | .ok d st'=>∀H' ι' v,Ext H H' ι ι' st.length st'.length→Sim K H' ι' st'→VRel K H' ι' st'.length d v→Q v H'
 | .bad=>False
section
variable{K:ao}{H:Hp}{ι:Nat→Addr}{st:aS}{Q:VK}
theorem cv.same{d:D}(S:Sim K H ι st)(P:cv K H ι st (.ok d st) Q)(r:VRel K H ι st.length d v):Q v H:=P H ι v (Ext.refl _ _ _) S r
theorem cv.mono{H1:Hp}{st1:aS}{r:R D}(P:cv K H ι st r Q)(E:Ext H H1 ι ι1 st.length st1.length):cv K H1 ι1 st1 r Q:=by
 cases r with
 |ok d st'=>exact fun H' ι' v E' S' r'=>P H' ι' v (E.trans E') S' r'
 |bad=>exact P
theorem cv.alloc{xs:List D}(S:Sim K H ι st)(P:cv K H ι st (alloc xs st) Q)(r:VRels K H ι st.length xs vs):∀p,H p=none→Q (.ref p) (bm H p (.lst vs)):=fun p hp=>by
 obtain⟨ι',E,e,S'⟩:=S.laid (o:= .lst xs) (ho:= .lst vs) hp (fun ι' h1 h2=>⟨vs,bd,VRels.ext0 ⟨Nat.le_succ _,h1,fun b xs e=>by rw[az (aw e hp)];exact e,fun b ob u e=>by rw[az (aw e hp)];exact e⟩ r⟩)
 have l:(st++[O.lst xs]).length=st.length+1:=by simp
 refine P _ ι' _ (by rw[l];exact E) S' ?_
 rw[←e,l]
 exact .ref (aG _)
theorem cv.allocD(S:Sim K H ι st)(P:cv K H ι st (allocD st) Q):∀p,H p=none→Q (.ref p) (bm H p (.dK [])):=fun p hp=>by
 obtain⟨ι',E,e,S'⟩:=S.laid (o:= .dct []) (ho:= .dK []) hp (fun ι' h1 h2=>⟨[],bd,.nil⟩)
 have l:(st++[O.dct []]).length=st.length+1:=by simp
 refine P _ ι' _ (by rw[l];exact E) S' ?_
 rw[←e,l]
 exact .ref (aG _)
theorem cv.tup{xs:List D}(S:Sim K H ι st)(P:cv K H ι st (.ok (.tup xs) st) Q)(r:VRels K H ι st.length xs vs):∀p,H p=none→Q (.ref p) (bm H p (.tup vs)):=fun p hp=>by
 have hK:∀n,n<st.length→ι n≠p:=fun n hn=>by
  obtain⟨_,h,_⟩:=S.obj hn;exact aw h hp
 have E:Ext H (bm H p (.tup vs)) ι ι st.length st.length:=⟨⟨af _,fun _ _=>rfl,fun b xs e=>by rw[az (aw e hp)];exact e,fun b ob u e=>by rw[az (aw e hp)];exact e⟩,fun b ob e k=>⟨by rw[az (aw e hp)];exact e,k⟩⟩
 refine P _ ι _ E ⟨S.inj,fun n o e=>?_⟩ (.tup (fP.of bd) (r.ext E))
 have hn:n<st.length:=(aA e).1
 have old:=S.ob n o e
 exact old.move E.toExt0 (az (hK n hn))
theorem VRel.seq{d:D}{xs:List D}(S:Sim K H ι st)(r:VRel K H ι st.length d v)(e:cr st d=some xs):∃a vs,v=.ref a∧(dz K H a vs∨fP K H a vs)∧VRels K H ι st.length xs vs:=by
 cases r with
 |non=>cases e
 |bl b=>cases e
 |int i=>cases e
 |str x=>cases e
 |tup h r=>cases e;exact⟨_,_,rfl,.inr h,r⟩
 |fl h r=>cases e;exact⟨_,_,rfl,.inl h.sql,r⟩
 | @ref n hn=>
  simp only[cr] at e
  cases q:st[n]? with
  |none=>rw[q] at e;cases e
  |some o=>
   rw[q] at e
   cases o with
   |lst zs=>
    cases e
    obtain⟨vs,h1,h2⟩:=S.ob n _ q
    exact⟨_,vs,rfl,.inl (dz.of h1),h2⟩
   |_=>cases e
theorem VRels.inv1{d:D}(r:VRels K H ι st.length [d] vs):∃v,vs=[v]∧VRel K H ι st.length d v:=by
 cases r with
 |cons h t=>cases t;exact⟨_,rfl,h⟩
end
noncomputable def rD(K:ao)(op:D→D→M D):R2:=fun vx vy H Q=>∃ι st dx dy,Sim K H ι st∧VRel K H ι st.length dx vx∧VRel K H ι st.length dy vy∧cv K H ι st (op dx dy st) Q
noncomputable def Bo.op:Bo→Operator
 | .add=> .Add
 | .sub=> .Sub
 | .mul=> .Mult
 | .fdiv=> .FloorDiv
 | .mod=> .Mod
 | .pow=> .Pow
theorem m3{K:ao}{H:Hp}{ι:Nat→Addr}{m:Nat}{as:List D}{vs:List V}(r:VRels K H ι m as vs):∀n:Nat,VRels K H ι m (List.replicate n as).flatten (List.replicate n vs).flatten
 |0=>.nil
 |n+1=>by
  rw[List.replicate_succ,List.replicate_succ,List.flatten_cons,List.flatten_cons]
  exact r.append (m3 r n)
theorem sY:jh X (binaryOp .FloorDiv) (rI (fun _ j=>j≠0∧j.natAbs<2^200) fun i j=>.int (i.fdiv j)):=Bn fun i j _ _ _ _ _ hc q=>floordiv_int hc.1 q (.inl (PyProof.noPylong_of_log2 (by
 have h0:j.natAbs≠0:=by have:=hc.1;omega
 have:j.natAbs.log2<200:=(Nat.log2_lt h0).mpr hc.2
 omega)))
theorem uv{t b:Addr}{ws:List Value}{Q:Value→Shared→Prop}(ht:IsTup s.heap t ([]:List Value).toArray)(hb:IsTup s.heap b ws.toArray)(h:Q (.ref b) s):wpAny (model prog w) A (binaryOp .Add (.ref t) (.ref b)) Q E s:=by
 obtain⟨⟨cls,dd,data,sl⟩,ho,hc,n,hd⟩:=id ht
 obtain⟨⟨cls2,dd2,data2,sl2⟩,ho2,hc2,n2,hd2⟩:=id hb
 simp only at hc hd hc2 hd2
 subst hc hd hc2 hd2
 exact concat_meets ⟨_,ho,rfl⟩ ⟨_,ho2,rfl⟩ noFill_tuple_add seq_tuple_add PySem.F.slot_tuple_add PySem.F.entry_tuple_add (PySem.F.args_tuple_add_2 _ _)
   (tuple_addW0 t b _ ws.toArray n n2 dd dd2 sl sl2 (by simp)) ⟨ho,ho2,h⟩
theorem v8:jh X (binaryOp .Mult) (rI (fun i j=>zn i j∨(i.natAbs<2^1000∧j.natAbs<2^1000)) fun i j=>.int (i*j)):=Bn fun _ _ _ _ _ _ _ hc q=>mul_int q (by
 rcases hc with hc|hc
 ·exact hc.ok
 ·exact .of_bits (aP (PyProof.Rows.intBits_le hc.1) (by decide)) (aP (PyProof.Rows.intBits_le hc.2) (by decide)))
theorem yw(op:Bo):jh X (binaryOp op.op) (rD X.K (cu op)):=by
 intro pins s σ H vx vy ux uy Q I rx ry h
 obtain⟨ι,st,dx,dy,S,hx,hy,P⟩:=h
 have sz:sizeLine=16777216:=sizeLine_eq
 unfold cu at P
 split at P
 ·cases hx;cases hy
  exact yx pins s σ H _ _ _ _ Q I rx ry ⟨_,_,rfl,rfl,P.same S (.int _)⟩
 ·split at P
  ·rename_i hl
   cases hx with
   |tup ha ra=>
    cases hy with
    |tup hb rb=>
     have l1:=ra.length
     have l2:=rb.length
     refine wa pins s σ H _ _ _ _ Q I rx ry ⟨_,_,_,_,rfl,rfl,ha,hb,?_,by omega,fun e=>?_,fun e=>P.tup S (ra.append rb)⟩
     ·intro z;rw[z] at l1;simp at l1
     ·subst e
      cases rb
      rw[List.append_nil] at P
      exact P.same S (.tup ha ra)
  ·exact False.elim P
 ·cases hx with
  |tup ha ra=>
   cases hy with
   |tup hb rb=>
    cases ra
    cases rx
    cases ry
    obtain⟨its,r1,p1,_⟩:=I.tuple ha
    obtain⟨its2,r2,p2,_⟩:=I.tuple hb
    cases r1
    exact uv p1 p2 ⟨.ref _,H,I,rfl,P.same S (.tup hb rb)⟩
 ·split at P
  ·rename_i m n _ _ as bs e1 e2
   split at P
   ·rename_i hl
    cases hx with
    |ref h1=>
     cases hy with
     |ref h2=>
      obtain⟨v1,g1,r1⟩:=S.ob _ _ e1
      obtain⟨v2,g2,r2⟩:=S.ob _ _ e2
      have l1:=r1.length
      have l2:=r2.length
      exact yu pins s σ H _ _ _ _ Q I rx ry ⟨_,_,_,_,rfl,rfl,g1,g2,by omega,P.alloc S (r1.append r2)⟩
   ·exact False.elim P
  ·exact False.elim P
 ·cases hx;cases hy
  exact yq pins s σ H _ _ _ _ Q I rx ry ⟨_,_,rfl,rfl,P.same S (.int _)⟩
 ·split at P
  ·rename_i hc
   cases hx;cases hy
   exact v8 pins s σ H _ _ _ _ Q I rx ry ⟨_,_,rfl,rfl,hc,P.same S (.int _)⟩
  ·exact False.elim P
 ·split at P
  ·rename_i m j _ as e1
   split at P
   ·rename_i hl
    cases hx with
    |ref h1=>
     cases hy
     obtain⟨v1,g1,r1⟩:=S.ob _ _ e1
     have l1:=r1.length
     have hj:v1.length*j.toNat≤1000*1000:=Nat.mul_le_mul (by omega) (by omega)
     exact yr pins s σ H _ _ _ _ Q I rx ry ⟨_,_,_,rfl,rfl,g1,by omega,by omega,by omega,P.alloc S (m3 r1 _)⟩
   ·exact False.elim P
  ·exact False.elim P
 ·split at P
  ·rename_i hc
   cases hx;cases hy
   exact sY pins s σ H _ _ _ _ Q I rx ry ⟨_,_,rfl,rfl,hc,P.same S (.int _)⟩
  ·exact False.elim P
 ·split at P
  ·rename_i hc
   cases hx;cases hy
   exact v_ pins s σ H _ _ _ _ Q I rx ry ⟨_,_,rfl,rfl,hc,P.same S (.int _)⟩
  ·exact False.elim P
 ·split at P
  ·rename_i hc
   cases hx;cases hy
   exact yt pins s σ H _ _ _ _ Q I rx ry ⟨_,_,rfl,rfl,⟨hc.1,by omega,by omega⟩,P.same S (.int _)⟩
  ·exact False.elim P
 ·exact False.elim P
open Classical in
noncomputable def wG(K:ao)(H:Hp)(ι:Nat→Addr)(st:aS)(x:D)(z:Value):Bool:=if h:∃d,At K H ι st.length d z then(cY 60 st h.choose x).getD false else false
theorem y_{st:aS}(I:Inv X pins σ H s)(S:Sim X.K H ι st){x y:D}(h:At X.K H ι st.length y u):wG X.K H ι st x u=(cY 60 st y x).getD false:=by
 unfold wG
 have h':∃d,At X.K H ι st.length d u:=⟨y,h⟩
 rw[dif_pos h',h'.choose_spec.uniq I S h]
theorem oS{X:Cx}{pins:List (Addr×Obj)}{σ:L2.St}{H:Hp}{s:Shared}{ι:Nat→Addr}{st:aS}(I:Inv X pins σ H s)(S:Sim X.K H ι st){x:D}{ux:Value}{A:Around}(hx:At X.K H ι st.length x ux)(hu:A.units+60<cLine):
  ∀{ys:List D}{us:List Value}{k:Bool},ig st x ys=some k→wP X.K H ι st.length ys us→(∀u∈us,SeqAt.EqAt A s u ux (wG X.K H ι st x u))∧us.any (wG X.K H ι st x)=k
 |[],us,k,h,r=>by
  have l:=r.length
  cases us with
  |cons _ _=>simp at l
  |nil=>exact⟨fun u hu=>(by cases hu),aj h⟩
 |y::ys,us,k,h,r=>by
  have l:=r.length
  cases us with
  |nil=>simp at l
  |cons u us=>
   obtain⟨_,r1,q1⟩:=r
   cases q1 with
   |cons w1 w2=>
    cases r1 with
    |cons m1 m2=>
     unfold ig at h
     cases e1:cY 60 st y x with
     |none=>rw[e1] at h;simp at h
     |some a=>
      cases e2:ig st x ys with
      |none=>rw[e1,e2] at h;simp at h
      |some b=>
       rw[e1,e2] at h
       obtain⟨he,hk⟩:=oS I S hx hu e2 ⟨_,m2,w2⟩
       obtain⟨_,_,hE⟩:=lR I S 60 (A:=A) e1 ⟨_,m1,w1⟩ hx hu
       have ea:wG X.K H ι st x u=a:=by rw[y_ I S ⟨_,m1,w1⟩,e1];rfl
       refine⟨fun z hz=>?_,?_⟩
       ·rcases List.mem_cons.mp hz with rfl|hz
        ·rw[ea];exact hE
        ·exact he z hz
       ·rw[List.any_cons,ea,hk]
        exact aj h
theorem DRels.look{K:ao}{k:Key}{kvs:List (Key×D)}{vs:List (Key×V)}(h:DRels K H ι m kvs vs):
  (match io kvs k with|some d=>∃v,fH vs k=some v∧VRel K H ι m d v|none=>fH vs k=none):=by
 induction h with
 |nil=>exact rL
 | @cons k' d v ds vs hv t ih=>
  unfold io
  by_cases e:k'=k
  ·rw[if_pos e]
   exact⟨v,fR e,hv⟩
  ·rw[if_neg e,dR (p:=(k',v)) (r:=vs) e]
   exact ih
theorem wf{K:ao}{x:D}{k:Key}(h:yK x=some k)(r:VRel K H ι m x v):v=kV k:=by
 cases r<;>cases h<;>rfl
theorem tN{K:ao}{x y:D}{k:Bool}{vy:V}(e:zt x y=some k)(hx:VRel K H ι m x vx)(hy:VRel K H ι m y vy)(rx:RelV vx ux)(ry:RelV vy uy):plainIs ux uy=true∧(ux==uy)=k:=by
 unfold zt at e
 split at e
 ·cases hy
  cases ry
  have e:=aj e
  subst e
  cases hx with
  |non=>cases rx;exact⟨rfl,rfl⟩
  |bl b=>cases rx;exact⟨rfl,rfl⟩
  |int i=>obtain⟨t,rfl⟩:=rx;exact⟨rfl,rfl⟩
  |str i=>obtain⟨t,rfl⟩:=rx;exact⟨rfl,rfl⟩
  |tup _ _=>cases rx;exact⟨rfl,rfl⟩
  |fl _ _=>cases rx;exact⟨rfl,rfl⟩
  |ref _=>cases rx;exact⟨rfl,rfl⟩
 ·cases e
theorem iA(hu:X.A.units+100<cLine)(op:CmpOp):jh X (compareOp op) (rD X.K (bQ op)):=by
 intro pins s σ H vx vy ux uy Q I rx ry h
 obtain⟨ι,st,dx,dy,S,hx,hy,P⟩:=h
 have ax:At X.K H ι st.length dx ux:=⟨_,hx,rx⟩
 have ay:At X.K H ι st.length dy uy:=⟨_,hy,ry⟩
 unfold bQ at P
 split at P
 ·split at P
  ·rename_i k e
   obtain⟨h1,_,_⟩:=lR I S 60 (A:=X.A) e ax ay (by omega)
   exact h1 _ _ _ _ ⟨.bl k,H,I,rfl,P.same S (.bl k)⟩
  ·exact False.elim P
 ·split at P
  ·rename_i k e
   obtain⟨_,h1,_⟩:=lR I S 60 (A:=X.A) e ax ay (by omega)
   exact h1 _ _ _ _ ⟨.bl (!k),H,I,rfl,P.same S (.bl (!k))⟩
  ·exact False.elim P
 ·split at P
  ·cases hx;cases hy
   exact AE pins s σ H _ _ _ _ Q I rx ry ⟨_,_,rfl,rfl,P.same S (.bl _)⟩
  ·exact False.elim P
 ·split at P
  ·cases hx;cases hy
   exact AF pins s σ H _ _ _ _ Q I rx ry ⟨_,_,rfl,rfl,P.same S (.bl _)⟩
  ·exact False.elim P
 ·split at P
  ·cases hx;cases hy
   exact AG pins s σ H _ _ _ _ Q I rx ry ⟨_,_,rfl,rfl,P.same S (.bl _)⟩
  ·exact False.elim P
 ·split at P
  ·rename_i ys es
   split at P
   ·rename_i k ek
    obtain⟨a,vs,rfl,hq,rv⟩:=hy.seq S es
    cases ry
    rcases hq with hq|hq
    ·obtain⟨its,r',pl,hz⟩:=I.list hq
     obtain⟨hE,hk⟩:=oS I S (A:=X.A.in1) ax (by show X.A.units+1+60<cLine;omega) ek ⟨_,rv,r'⟩
     refine SeqAt.in_listAt _ pl.isList (fun w hw=>hE w (by simpa using hw)) ⟨.bl _,H,I,rfl,?_⟩
     rw[show its.toArray.any (wG X.K H ι st dx)=its.any (wG X.K H ι st dx) by simp,hk]
     exact P.same S (.bl k)
    ·obtain⟨its,r',pl,hz⟩:=I.tuple hq
     obtain⟨hE,hk⟩:=oS I S (A:=X.A.in1) ax (by show X.A.units+1+60<cLine;omega) ek ⟨_,rv,r'⟩
     refine SeqAt.in_tupleAt _ pl (fun w hw=>hE w (by simpa using hw)) ⟨.bl _,H,I,rfl,?_⟩
     rw[show its.toArray.any (wG X.K H ι st dx)=its.any (wG X.K H ι st dx) by simp,hk]
     exact P.same S (.bl k)
   ·exact False.elim P
  ·exact False.elim P
 ·split at P
  ·rename_i k e
   obtain⟨h1,h2⟩:=tN e hx hy rx ry
   exact wpAny_is_plain h1 ⟨.bl k,H,I,by rw[h2];rfl,P.same S (.bl k)⟩
  ·exact False.elim P
 ·split at P
  ·rename_i k e
   obtain⟨h1,h2⟩:=tN e hx hy rx ry
   exact wpAny_isNot_plain h1 ⟨.bl (!k),H,I,by rw[h2];rfl,P.same S (.bl (!k))⟩
  ·exact False.elim P
 ·exact False.elim P
theorem wL{K:ao}{ds:List D}{i:Int}{d:D}(r:VRels K H ι m ds vs)(e:rf ds i=some d):∃v,rf vs i=some v∧VRel K H ι m d v:=by
 unfold rf at e ⊢
 rw[←r.length]
 cases q:zq ds.length i with
 |none=>rw[q] at e;cases e
 |some j=>
  rw[q] at e
  exact r.get e
theorem uo(hu:X.A.units+100<cLine){value slice:Expr}{st:aS}{dx:D}{k:Key}(I:L2.Inv X pins σ H s)(S:Sim X.K H ι st)(hx:VRel X.K H ι st.length dx vx)
  (rx:RelV vx ux)(ry:RelV (kV k) uy)(hs:subscripted slice false ux uy=operate [ux,uy] (getItem ux uy))(P:cv X.K H ι st (zv st dx k) Q):wpAny (model X.prog X.w) X.A (subscriptTail value slice ux uy) (EP X pins σ Q) X.xe s:=by
 unfold zv at P
 split at P
 ·rename_i n
  split at P
  ·rename_i kvs e1
   split at P
   ·rename_i d ek
    cases hx
    cases rx
    obtain⟨vs,h1,r⟩:=S.ob _ _ e1
    have l:=r.look (k:=k)
    rw[ek] at l
    obtain⟨w,ew,rw'⟩:=l
    have g:rh H (ι n) (kV k) (some w):=by rw[←ew];exact rh.k (k:=k) h1
    exact tail_any (m8 I g) PySem.F.slot_dict_getitem.lookup (qY (by omega) I g ry fun w' s' I' rw2=>⟨w,H,I',rw2,P.same S rw'⟩) hs
   ·exact False.elim P
  ·exact False.elim P
 ·exact False.elim P
theorem B3(hu:X.A.units+100<cLine):Br X (rD X.K index):=by
 intro value slice pins s σ H vx vy ux uy Q I rx ry h hs
 obtain⟨ι,st,dx,dy,S,hx,hy,P⟩:=h
 have sz:sizeLine=16777216:=sizeLine_eq
 unfold index at P
 split at P
 ·split at P
  ·rename_i xs es
   split at P
   ·rename_i d ed
    cases hy
    obtain⟨a,vs,rfl,hq,rv⟩:=hx.seq S es
    obtain⟨w,ew,rw'⟩:=wL rv ed
    rcases hq with hq|hq
    ·exact wg value slice pins s σ H _ _ _ _ Q I rx ry ⟨_,_,_,_,rfl,rfl,hq,ew,P.same S rw'⟩ hs
    ·exact yL value slice pins s σ H _ _ _ _ Q I rx ry ⟨_,_,_,_,rfl,rfl,hq,ew,P.same S rw'⟩ hs
   ·exact False.elim P
  ·cases hy
   exact uo (k:= .inl _) hu I S hx rx ry hs P
 ·cases hy
  exact uo (k:= .inr _) hu I S hx rx ry hs P
 ·exact False.elim P
noncomputable def Ty.name:Ty→String
 | .int=> "int"
 | .bool=> "bool"
 | .list=> "list"
 | .tuple=> "tuple"
theorem yN{st:aS}{d:D}{t:Ty}{k:Bool}(I:Inv X pins σ H s)(S:Sim X.K H ι st)(hv:VRel X.K H ι st.length d v)(r:RelV v u)
  (e:cb st t d=some k)(q:Q (.bl k) H):wpAny (model X.prog X.w) X.A (call (.builtin "isinstance") [u,.type t.name]) (EP X pins σ Q) X.xe s:=by
 have fin:∀tk,EP X pins σ Q (.bool k) {s with toks:=tk}:=fun tk=>⟨.bl k,H,I.tok _,rfl,q⟩
 have fin0:EP X pins σ Q (.bool k) s:=⟨.bl k,H,I,rfl,q⟩
 cases hv with
 |non=>
  cases r
  cases e
  cases t
  ·exact call_isinstance (isinstance_false_none (by decide+kernel) F.isi_meta_int F.sub_NoneType_int) (fin _)
  ·exact call_isinstance (isinstance_false_none (by decide+kernel) F.isi_meta_bool F.sub_NoneType_bool) (fin _)
  ·exact call_isinstance (isinstance_false_none (by decide+kernel) F.isi_meta_list F.sub_NoneType_list) (fin _)
  ·exact call_isinstance (isinstance_false_none (by decide+kernel) F.isi_meta_tuple F.sub_NoneType_tuple) (fin _)
 |bl b=>
  cases r
  cases t
  ·cases e;exact IsiPair.bool_int fin0
  ·cases e;exact IsiPair.bool_bool fin0
  ·cases e;exact IsiPair.bool_list (fin _)
  ·cases e;exact IsiPair.bool_tuple (fin _)
 |int i=>
  obtain⟨tk,rfl⟩:=r
  cases t
  ·cases e;exact IsiPair.int_int fin0
  ·cases e;exact IsiPair.int_bool (fin _)
  ·cases e;exact IsiPair.int_list (fin _)
  ·cases e;exact IsiPair.int_tuple (fin _)
 |str x=>
  obtain⟨tk,rfl⟩:=r
  cases t
  ·cases e;exact IsiPair.str_int (fin _)
  ·cases e;exact IsiPair.str_bool (fin _)
  ·cases e;exact IsiPair.str_list (fin _)
  ·cases e;exact IsiPair.str_tuple (fin _)
 |tup h _=>
  cases r
  obtain⟨_,_,⟨o,h1,h2,_⟩,_⟩:=I.tuple h
  cases t
  ·cases e;exact IsiPair.tuple_int h1 h2 (fin _)
  ·cases e;exact IsiPair.tuple_bool h1 h2 (fin _)
  ·cases e;exact IsiPair.tuple_list h1 h2 (fin _)
  ·cases e;exact IsiPair.tuple_tuple h1 h2 fin0
 |fl h _=>
  cases r
  obtain⟨_,_,p,_⟩:=I.list h.sql
  obtain⟨o,h1,h2,_⟩:=p.isList
  cases t
  ·cases e;exact IsiPair.list_int h1 h2 (fin _)
  ·cases e;exact IsiPair.list_bool h1 h2 (fin _)
  ·cases e;exact IsiPair.list_list h1 h2 fin0
  ·cases e;exact IsiPair.list_tuple h1 h2 (fin _)
 | @ref n hn=>
  cases r
  simp only[cb] at e
  cases q':st[n]? with
  |none=>rw[q'] at e;cases e
  |some ob=>
   rw[q'] at e
   have ho:=S.ob n ob q'
   cases ob with
   |lst xs=>
    obtain⟨vs,g1,g2⟩:=ho
    obtain⟨_,_,p,_⟩:=I.list (dz.of g1)
    obtain⟨o,h1,h2,_⟩:=p.isList
    cases t
    ·cases e;exact IsiPair.list_int h1 h2 (fin _)
    ·cases e;exact IsiPair.list_bool h1 h2 (fin _)
    ·cases e;exact IsiPair.list_list h1 h2 fin0
    ·cases e;exact IsiPair.list_tuple h1 h2 (fin _)
   |dct kvs=>
    obtain⟨ws,ho,_⟩:=ho
    obtain⟨_,_,_,_,o,es,ep,h1,h2,_⟩:=(show bx X.prog X.w H s.heap (ι n) (.dK ws) from I.hok _ _ ho)
    cases t
    ·cases e;exact IsiPair.dict_int h1 h2.1 (fin _)
    ·cases e;exact IsiPair.dict_bool h1 h2.1 (fin _)
    ·cases e;exact IsiPair.dict_list h1 h2.1 (fin _)
    ·cases e;exact IsiPair.dict_tuple h1 h2.1 (fin _)
   |_=>cases e
theorem qa{K:ao}{ds:List D}(r:VRels K H ι m ds vs)(lo hi:Option Int):VRels K H ι m (cutD ds lo hi) (m_ vs lo hi):=by
 unfold cutD m_
 rw[←r.length]
 exact(r.drop _).take _
theorem BN:Bq X (fun vx lo hi H Q=>∃ι st dx,Sim X.K H ι st∧VRel X.K H ι st.length dx vx∧cv X.K H ι st (slice dx lo hi st) Q):=by
 intro pins s σ H x v vl vu lo hi sl Q I rx hs pl pu h
 obtain⟨ι,st,dx,S,hx,P⟩:=h
 have sz:sizeLine=16777216:=sizeLine_eq
 unfold slice at P
 split at P
 ·split at P
  ·exact False.elim P
  ·rename_i hw
   cases hx with
   |tup ha ra=>
    exact xv pins s σ H _ v vl vu lo hi sl Q I rx hs pl pu ⟨_,_,rfl,ha,by rw[←ra.length];exact hw,P.tup S (qa ra lo hi)⟩
 ·split at P
  ·rename_i xs es
   obtain⟨a,vs,rfl,hq,rv⟩:=hx.seq S es
   rcases hq with hq|hq
   ·exact vf pins s σ H _ v vl vu lo hi sl Q I rx hs pl pu ⟨_,_,rfl,hq,P.alloc S (qa rv lo hi)⟩
   ·exfalso
    cases hx with
    |tup _ _=>simp_all
    |fl h _=>exact nQ I hq h.sql
    |ref h=>
     obtain⟨u,e',n1,n2⟩:=S.obj h;rcases k8 I hq with⟨_,e⟩|⟨_,_,e⟩|e<;>rw[e] at e'<;>first|(cases e';done)|(cases e';exact absurd rfl (n1 _))|(cases e';exact absurd rfl (n2 _ _))
  ·exact False.elim P
noncomputable def rB(K:ao)(f:Bt):List V→Hp→VK→Prop:=fun vs H Q=>∃ι st ds,Sim K H ι st∧VRels K H ι st.length ds vs∧cv K H ι st (fO f ds st) Q
noncomputable def Bt.val:Bt→Value
 | .len=>.builtin "len"
 | .list=>.type "list"
 | .tuple=>.type "tuple"
 | .int=>.type "int"
 | .all=>.builtin "all"
 | .dict=>.type "dict"
theorem qi{K:ao}{H:Hp}{ι:Nat→Addr}{m:Nat}:∀{ds:List D}{vs:List V}{us:List Value}{k:Bool},allB ds=some k→VRels K H ι m ds vs→bj vs us→∃tr:Nat→Bool,(∀(i:Nat)(u:Value),us[i]? =some u→u=Value.bool (tr i))∧(List.range us.length).all tr=k
 |[],_,_,k,e,r,q=>by
  cases r;cases q
  exact⟨fun _=>true,fun i u h=>by simp at h,aj e⟩
 |d::ds,_,_,k,e,r,q=>by
  cases r with
  |cons r1 r2=>
   cases q with
   |cons q1 q2=>
    cases r1 with
    |bl b=>
     simp only[allB] at e
     cases e1:allB ds with
     |none=>rw[e1] at e;cases e
     |some k'=>
      rw[e1] at e
      obtain⟨tr,h1,h2⟩:=qi e1 r2 q2
      cases q1
      refine⟨fun j=>match j with|0=>b|j+1=>tr j,fun i u h=>?_,?_⟩
      ·cases i with
       |zero=>simp at h;exact h.symm
       |succ i=>exact h1 i u (by simpa using h)
      ·rw[List.length_cons]
       refine(show _=_ from all_cons (e:=tr) (x:=b)).trans ?_
       rw[h2]
       exact aj e
    |_=>cases e
theorem oR(hc:X.calm=true):fG X (.builtin "all") (fun xs H Q=>∃a vs us k,xs=[.ref a]∧dz X.K H a vs∧(∀its,bj vs its→∃tr:Nat→Bool,(∀(i:Nat)(u:Value),its[i]? =some u→u=Value.bool (tr i))∧(List.range its.length).all tr=k)∧us=k∧Q (.bl k) H):=by
 intro pins s σ H xs us Q I r h
 obtain⟨a,vs,_,k,rfl,hq,htr,_,q⟩:=h
 obtain⟨u,rfl,rx⟩:=vals1 r
 cases rx
 obtain⟨its,r',pl,hz⟩:=I.list hq
 obtain⟨tr,h1,h2⟩:=htr its r'
 have hlt:a<s.heap.objs.size:=by obtain⟨_,e,_⟩:=pl.isList;exact ai e
 refine call_all_walk (wpAny_pyIter_list pl.isList ?_)
 refine⟨s.heap.objs.size,_,_,_,_,_,tr,rfl,Walks.list (A:=X.A.in1) (I.ok.hd hc) s.heap.objs.size a (ak hlt) its.toArray,⟨⟨_,aq _ rfl,rfl,rfl⟩,pl.isList.push _⟩,fun i v s' Q' E' hP hQ=>?_,fun h' tk hk=>?_⟩
 ·rw[h1 i v (by simpa using hP)]
  exact wpAny_truthy_bool hQ
 ·rw[List.size_toArray,h2]
  refine⟨.bl k,H,?_,rfl,q⟩
  have I1:Inv X pins σ H {s with heap:=s.heap.push {cls:= .type "list_iterator",data:= .fields #[.ref a,.int 0 0]}}:=I.kept (t':=s.toks) fun b o e=>ac _ e
  refine I.kept (t':=tk) fun b o e=>hk b o (fun z=>?_) (ac _ e)
  have zb:b=s.heap.objs.size:=by simpa using z
  rw[zb] at e
  exact absurd (ai e) (bg _)
theorem zf(hc:X.calm=true)(f:Bt):fG X f.val (rB X.K f):=by
 intro pins s σ H xs us Q I r h
 obtain⟨ι,st,ds,S,rv,P⟩:=h
 have sz:sizeLine=16777216:=sizeLine_eq
 unfold fO at P
 split at P
 ·split at P
  ·rename_i hx ys es
   obtain⟨v,rfl,hv⟩:=rv.inv1
   obtain⟨a,vs,rfl,hq,rr⟩:=hv.seq S es
   exact lW pins s σ H _ us Q I r ⟨_,_,rfl,hq,by rw[←rr.length];exact P.same S (.int _)⟩
  ·exact False.elim P
 ·split at P
  ·rename_i ys es
   obtain⟨v,rfl,hv⟩:=rv.inv1
   obtain⟨a,vs,rfl,hq,rr⟩:=hv.seq S es
   exact lV pins s σ H _ us Q I r ⟨_,_,rfl,hq,P.alloc S rr⟩
  ·exact False.elim P
 ·obtain⟨v,rfl,hv⟩:=rv.inv1
  cases hv with
  |tup h rr=>exact eN pins s σ H _ us Q I r ⟨_,_,rfl,.inr ⟨h,P.same S (.tup h rr)⟩⟩
 ·split at P
  ·rename_i hnt ys es
   obtain⟨v,rfl,hv⟩:=rv.inv1
   obtain⟨a,vs,rfl,hq,rr⟩:=hv.seq S es
   rcases hq with hq|hq
   ·exact eN pins s σ H _ us Q I r ⟨_,_,rfl,.inl ⟨hq,P.tup S rr⟩⟩
   ·exact eN pins s σ H _ us Q I r ⟨_,_,rfl,.inr ⟨hq,P.same S (.tup hq rr)⟩⟩
  ·exact False.elim P
 ·obtain⟨v,rfl,hv⟩:=rv.inv1
  cases hv
  exact kJ pins s σ H _ us Q I r (.inl ⟨_,rfl,P.same S (.int _)⟩)
 ·obtain⟨v,rfl,hv⟩:=rv.inv1
  cases hv
  exact kJ pins s σ H _ us Q I r (.inr ⟨_,rfl,P.same S (.int _)⟩)
 ·split at P
  ·rename_i n ys es
   split at P
   ·rename_i k ek
    obtain⟨v,rfl,hv⟩:=rv.inv1
    cases hv with
    |ref hn=>
     obtain⟨vs,g1,g2⟩:=S.ob _ _ es
     exact oR hc pins s σ H _ us Q I r ⟨_,_,_,k,rfl,dz.of g1,fun its q=>qi ek g2 q,rfl,P.same S (.bl k)⟩
   ·exact False.elim P
  ·exact False.elim P
 ·split at P
  ·rename_i n kvs es
   obtain⟨v,rfl,hv⟩:=rv.inv1
   cases hv with
   |ref hn=>
    obtain⟨vs,g1,g2⟩:=S.ob _ _ es
    obtain⟨u,rfl,ru⟩:=vals1 r
    cases ru
    refine uq I (.inl g1) fun p s' hp I'=>⟨.ref p,_,I',rfl,?_⟩
    obtain⟨ι',E,e,S'⟩:=S.laid (o:= .dct kvs) (ho:= .dK vs) hp (fun ι' h1 h2=>⟨vs,bd,g2.ext0 ⟨Nat.le_succ _,h1,fun b xs e=>by rw[az (aw e hp)];exact e,fun b ob u e=>by rw[az (aw e hp)];exact e⟩⟩)
    have l:(st++[O.dct kvs]).length=st.length+1:=by simp
    refine P _ ι' _ (by rw[l];exact E) S' ?_
    rw[←e,l]
    exact .ref (aG _)
  ·exact False.elim P
 ·exact False.elim P
structure ICl where
 x:Str
 anc:List Str
 flds:List Str
 mts:List (Str×Nat)
structure Tab where
 fns:List Str
 csts:List (Str×D)
 cls:List (Str×List Str)
 cats:List Str
 ini:List (Str×Nat)
 flds:List Str
 calm:Bool
 rz:Bool
 icl:List ICl
 icats:List Str
 mks:List (Str×Nat)
 ums:List (Str×Str×Nat)
noncomputable def Tab.yes(T:Tab)(ts:List Str):List Str:=(T.cls.filter fun p=>ts.any fun t=>p.2.contains t).map (·.1)
noncomputable def Tab.no(T:Tab)(ts:List Str):List Str:=(T.cls.filter fun p=> !(ts.any fun t=>p.2.contains t)).map (·.1)
noncomputable def Tab.ics(T:Tab)(f:Str):List Str:=(T.icl.filter fun c=>c.flds.contains f).map (·.x)
noncomputable def Tab.ims(T:Tab)(m:Str):List (Str×Nat):=T.icl.filterMap fun c=>(c.mts.lookup m).map fun j=>(c.x,j)
noncomputable def Tab.iyes(T:Tab)(t:Str):List Str:=(T.icl.filter fun c=>c.anc.contains t).map (·.x)
noncomputable def Tab.ino(T:Tab)(t:Str):List Str:=(T.icl.filter fun c=> !c.anc.contains t).map (·.x)
noncomputable def Tab.ecs(T:Tab)(f:Str):List Str:=if T.flds.contains f then T.cls.map (·.1) else []
noncomputable def dX:List Str→Str→Option Nat
 |[],_=>none
 |y::r,x=>if y=x then some 0 else(dX r x).map (· +1)
theorem b_:∀{N:List Str}{x:Str}{i:Nat},dX N x=some i→N[i]? =some x
 |[],_,_,h=>by cases h
 |y::r,x,i,h=>by
  unfold dX at h
  split at h
  ·rename_i e;cases h;rw[e];rfl
  ·cases q:dX r x with
   |none=>rw[q] at h;cases h
   |some j=>
    rw[q] at h
    have:j+1=i:=aj h
    subst this
    simpa using b_ q
noncomputable def zg:List (Str×Bt):=[("len",.len),("list",.list),("tuple",.tuple),("int",.int),("all",.all),("dict",.dict)]
noncomputable def u8:List (Str×Ty):=[("int",.int),("bool",.bool),("list",.list),("tuple",.tuple)]
noncomputable def re:List Str:=["enumerate","len","list","tuple","int","all","bool","dict","isinstance","range","ValueError","zip"]
noncomputable def Bb:Operator→Option Bo
 | .Add=>some .add
 | .Sub=>some .sub
 | .Mult=>some .mul
 | .FloorDiv=>some .fdiv
 | .Mod=>some .mod
 | .Pow=>some .pow
 |_=>none
noncomputable def dC(sc scope:Scope)(N:List Str)(x:Str):Bool:=
 (scope.kind== .function)&&(scope.names.lookup x==some .local)&& !(N.contains x)&&(x != "__debug__")&&(x != "__classdict__")&&
 scope.names.all fun y=>(y.2 != .cell)&&(y.2 != .local||(scope.names.lookup y.1==some .local&& !(N.contains y.1)))&&(y.2 != .free||sc.names.lookup y.1==some .cell||sc.names.lookup y.1==some .free)
noncomputable def dm(sc scope:Scope)(N:List Str)(x y:Str):Bool:=
 dC sc scope N x&&(scope.names.lookup y==some .local)&& !(N.contains y)&&(x !=y)&&(y != "__debug__")&&(y != "__classdict__")
noncomputable def iy(sc scope:Scope):Scope:=
 {scope with names:=scope.names.map fun(n,k)=>if(k== .free&&sc.kind== .function&&sc.names.lookup n==some .cell) then(n,.cell) else(n,k)}
noncomputable def uY:List (Str×Str×Nat)→Str→Str→Option Nat
 |[],_,_=>none
 |(a,b,j)::r,x,m=>if a=x∧b=m then some j else uY r x m
theorem mh:∀{l:List (Str×Str×Nat)}{x m:Str}{j:Nat},uY l x m=some j→(x,m,j)∈l
 |[],_,_,_,h=>by cases h
 |(a,b,i)::r,x,m,j,h=>by
  unfold uY at h
  split at h
  ·rename_i e
   cases h
   obtain⟨rfl,rfl⟩:=e
   exact .head _
  ·exact .tail _ (mh h)
noncomputable def bc(sc:Scope)(x:Str):Bool:=sc.names.lookup x==some .globalImplicit
noncomputable def gW:Expr→Bool
 | .Slice .. =>false
 |_=>true
theorem bs{o:Option α}{f:α→Option β}{b:β}(h:o.bind f=some b):∃a,o=some a∧f a=some b:=by
 cases o with
 |none=>cases h
 |some a=>exact⟨a,rfl,h⟩
theorem fU{c:Prop}[Decidable c]{x:Option β}{b:β}(h:(if c then x else none)=some b):c∧x=some b:=by
 by_cases k:c
 ·rw[if_pos k] at h;exact⟨k,h⟩
 ·rw[if_neg k] at h;cases h
theorem B1{c:Prop}[Decidable c]{x y:Option β}{b:β}(h:(if c then x else y)=some b):(c∧x=some b)∨y=some b:=by
 by_cases k:c
 ·rw[if_pos k] at h;exact .inl ⟨k,h⟩
 ·rw[if_neg k] at h;exact .inr h
theorem pM{o:Option α}{G:Option β}{F:α→Option β}{b:β}(h:o.elim G F=some b):(∃a,o=some a∧F a=some b)∨(o=none∧G=some b):=by
 cases o with
 |none=>exact .inr ⟨rfl,h⟩
 |some a=>exact .inl ⟨a,rfl,h⟩
theorem map_some{f:α→β}{o:Option α}{b:β}(h:o.map f=some b):∃a,o=some a∧b=f a:=by
 cases o with
 |none=>cases h
 |some a=>exact⟨a,rfl,(aj h).symm⟩
noncomputable def uL:Expr→Option Str
 | .Name x _=>some x
 |_=>none
theorem dF(h:uL e=some x):∃p,e= .Name x p:=by
 cases e<;>cases h
 exact⟨_,rfl⟩
noncomputable def one{α:Type}:List α→Option α
 |[a]=>some a
 |_=>none
theorem d8{l:List α}{a:α}(h:one l=some a):l=[a]:=by
 rcases l with _|⟨b,_|⟨c,l⟩⟩<;>cases h
 rfl
noncomputable def uB:Expr→Option (Str×List Expr)
 | .Call f as ks _=>(match ks with
  |[]=>(uL f).map fun x=>(x,as)
  |_=>none)
 |_=>none
theorem ia{as:List Expr}(h:uB e=some (x,as)):∃p q,e= .Call (.Name x p) as [] q:=by
 cases e with
 |Call f as ks q=>
  cases ks with
  |nil=>
   obtain⟨y,h1,h2⟩:=map_some h
   cases h2
   obtain⟨p,rfl⟩:=dF h1
   exact⟨p,q,rfl⟩
  |cons=>cases h
 |_=>cases h
noncomputable def jW(e:Expr):Option (Str×Expr):=(uB e).bind fun p=>(one p.2).map fun a=>(p.1,a)
theorem gn{r:Str}(h:jW e=some (r,a)):∃p q,e= .Call (.Name r p) [a] [] q:=by
 obtain⟨⟨x,as⟩,h1,h⟩:=bs h
 obtain⟨b,h2,h3⟩:=map_some h
 cases h3
 cases d8 h2
 exact ia h1
noncomputable def Ab:Option Expr→Option Str
 |some (.Constant c _ _)=>(match c with
  | .str k=>some k
  |_=>none)
 |_=>none
theorem rW{o:Option Expr}{k:Str}(h:Ab o=some k):∃p q,o=some (.Constant (.str k) p q):=by
 cases o with
 |none=>cases h
 |some e=>
  cases e with
  |Constant c _ _=>
   cases c with
   |str=>cases h;exact⟨_,_,rfl⟩
   |_=>cases h
  |_=>cases h
noncomputable def p8:List (Option Expr)→Option (List Str)
 |[]=>some []
 |k::r=>(Ab k).bind fun x=>(p8 r).map (x:: ·)
noncomputable def gk:Expr→Bool
 | .Name .. =>true
 | .Attribute .. =>true
 | .Subscript .. =>true
 | .Call (.Attribute ..) .. =>true
 | .Call (.Name ..) (_::_) .. =>true
 |_=>false
noncomputable def tM(s:Str):Bool:=s== "pop"
noncomputable def yP(f:Str)(args:List Expr):Option Expr:=if f= "list" then(one args).bind fun c=>(jW c).bind fun p=>if p.1= "range" then some p.2 else none else none
noncomputable def AM(f:Str)(args:List Expr):Option Expr:=if f= "dict" then(one args).bind fun c=>(jW c).bind fun p=>if p.1= "enumerate" then some p.2 else none else none
theorem mK{a b:Str}(h:(if f=a then(one args).bind fun c=>(jW c).bind fun p=>if p.1=b then some p.2 else none else none)=some e):f=a∧∃p q,args=[.Call (.Name b p) [e] [] q]:=by
 obtain⟨h1,h⟩:=fU h
 obtain⟨c,h2,h⟩:=bs h
 obtain⟨⟨r,x⟩,h3,h⟩:=bs h
 obtain⟨h4,h⟩:=fU h
 cases h
 cases h4
 cases d8 h2
 obtain⟨p,q,rfl⟩:=gn h3
 exact⟨h1,p,q,rfl⟩
noncomputable def uw(T:Tab)(sc:Scope)(t:Str):Bool:=bc sc t&&(T.cats.contains t||t== "ValueError")
noncomputable def Bl(T:Tab)(sc:Scope)(o:Expr)(m:Str):Option Nat:=(uL o).bind fun x=>if bc sc x=true then uY T.ums x m else none
theorem uZ{T:Tab}{sc:Scope}{m:Str}(h:Bl T sc o m=some j):∃x p,o= .Name x p∧bc sc x=true∧(x,m,j)∈T.ums:=by
 obtain⟨x,h1,h⟩:=bs h
 obtain⟨p,rfl⟩:=dF h1
 obtain⟨h2,h⟩:=fU h
 exact⟨x,p,rfl,h2,mh h⟩
noncomputable def AQ:List Comprehension→Option (Expr×Expr×List Expr)
 |[⟨t,it,ifs,k⟩]=>if k=0 then some (t,it,ifs) else none
 |_=>none
theorem tV{gs:List Comprehension}{p:Expr×Expr×List Expr}(h:AQ gs=some p):gs=[⟨p.1,p.2.1,p.2.2,0⟩]:=by
 rcases gs with _|⟨⟨t,it,ifs,k⟩,_|⟨c,l⟩⟩
 ·cases h
 ·obtain⟨h1,h⟩:=fU h
  cases h1
  cases h
  rfl
 ·cases h
noncomputable def wX:Expr→Option (Str×Str)
 | .Tuple [a,b] _ _=>(uL a).bind fun x=>(uL b).map fun y=>(x,y)
 |_=>none
theorem qE{z:Str×Str}(h:wX e=some z):∃p q k r,e= .Tuple [.Name z.1 p,.Name z.2 q] k r:=by
 cases e with
 |Tuple l k r=>
  rcases l with _|⟨a,_|⟨b,_|⟨c,l⟩⟩⟩
  ·cases h
  ·cases h
  ·obtain⟨x,h1,h⟩:=bs h
   obtain⟨y,h2,rfl⟩:=map_some h
   obtain⟨p,rfl⟩:=dF h1
   obtain⟨q,rfl⟩:=dF h2
   exact⟨p,q,k,r,rfl⟩
  ·cases h
 |_=>cases h
noncomputable def mD{α:Type}:List α→Option (α×α)
 |[a,b]=>some (a,b)
 |_=>none
theorem gj{l:List α}{p:α×α}(h:mD l=some p):l=[p.1,p.2]:=by
 rcases l with _|⟨b,_|⟨c,_|⟨d,l⟩⟩⟩<;>cases h
 rfl
noncomputable def Ct:Expr→Option (Option Expr×Option Expr)
 | .Slice lo hi st _=>(match st with
  |none=>some (lo,hi)
  |_=>none)
 |_=>none
theorem ve{q:Option Expr×Option Expr}(h:Ct e=some q):∃p,e= .Slice q.1 q.2 none p:=by
 cases e with
 |Slice lo hi st p=>
  cases st with
  |none=>cases h;exact⟨p,rfl⟩
  |some=>cases h
 |_=>cases h
mutual
noncomputable def cE(T:Tab)(n:Nat)(sc:Scope)(N:List Str)(e:Expr):Option Ex:=match n with
 |0=>none
 |n+1=>match e with
  | .Constant k _ _=>(match k with
   | .int i=>some (.c (.int i))
   | .str s=>some (.c (.str s))
   | .bool b=>some (.c (.bl b))
   | .none=>some (.c .non)
   |_=>none)
  | .Name x _=>(sc.names.lookup x).bind fun k=>match k with
   | .local=>(dX N x).map .v
   | .cell=>(dX N x).map .v
   | .free=>(dX N x).map .v
   | .globalImplicit=>(T.csts.lookup x).map .c
   |_=>none
  | .Tuple es _ _=>if es.length≤1000 then(nC T n sc N es).map .tup else none
  | .List es _=>if es.length≤1000 then(nC T n sc N es).map .lst else none
  | .Dict ks vs _=>(match ks with
   |[]=>(match vs with
    |[]=>some .emp
    |_=>none)
   |k::ks=>(p8 (k::ks)).bind fun ks'=>(nC T n sc N vs).bind fun vs'=>if ks'.length=vs.length∧ks'.length≤15∧ks'.Nodup then some (.dict ks' vs') else none)
  | .BinOp a op b _=>(cE T n sc N a).bind fun a'=>(Bb op).bind fun o=>(cE T n sc N b).map fun b'=>.bin o a' b'
  | .UnaryOp op a _=>(match op with
   | .Not=>(cE T n sc N a).map .not
   | .USub=>(cE T n sc N a).map .neg
   |_=>none)
  | .BoolOp op es p=>(match es with
   |[]=>none
   |a::r=>match r with
    |[]=>cE T n sc N a
    |b::r=>(cE T n sc N a).bind fun a'=>(cE T n sc N (.BoolOp op (b::r) p)).map fun b'=>match op with
     | .And=>.and a' b'
     | .Or=>.or a' b')
  | .Compare a ops bs _=>(one ops).elim ((mD ops).bind fun o=>(mD bs).bind fun b=>(cE T n sc N a).bind fun a'=>(cE T n sc N b.1).bind fun b'=>(cE T n sc N b.2).map fun c'=>.chain o.1 o.2 a' b' c')
   fun op=>(one bs).bind fun b=>(cE T n sc N a).bind fun a'=>(cE T n sc N b).map fun b'=>.cmp op a' b'
  | .Subscript a b _=>(Ct b).elim (if gW b=true then(cE T n sc N a).bind fun a'=>(cE T n sc N b).map fun b'=>.ix a' b' else none)
   fun q=>match q.1 with
    |none=>q.2.bind fun h=>(cE T n sc N a).bind fun a'=>(cE T n sc N h).map fun h'=>.sl a' h' h' false true
    |some l=>(cE T n sc N a).bind fun a'=>(cE T n sc N l).bind fun l'=>match q.2 with
     |none=>some (.sl a' l' l' true false)
     |some h=>(cE T n sc N h).map fun h'=>.sl a' l' h' true true
  | .Call f args kws cp=>(match kws with
   |[]=>(match f with
   | .Name f _=>if bc sc f=true then(yP f args).elim ((AM f args).elim (match args with
     |[]=>none
     |a::as=>(dX T.fns f).elim ((T.mks.lookup f).elim ((zg.lookup f).elim (if f= "isinstance" then(one as).bind fun t'=>(uL t').bind fun t=>if bc sc t=true then(cE T n sc N a).bind fun a'=>(u8.lookup t).elim (if uw T sc t=true then some (.isc a' (T.yes [t]) (T.no [t])) else if T.icats.contains t=true then some (.isk a' (T.iyes t) (T.ino t)) else none)
       fun ty=>some (.isi a' ty) else none else none)
       fun b=>if T.calm=true then(nC T n sc N (a::as)).map (.bt b) else none)
       fun j=>(nC T n sc N (a::as)).map (.new f j))
       fun i=>(nC T n sc N (a::as)).map (.fn i))
     fun a=>if(bc sc "enumerate"=true∧dX T.fns "dict"=none)∧T.calm=true then(cE T n sc N a).map .den else none)
     fun a=>if(bc sc "range"=true∧dX T.fns "list"=none)∧T.calm=true then(cE T n sc N a).map .lrng else none
    else none
   | .Attribute o m ap=>(Bl T sc o m).elim (if(tM m&&(ap.endLine==cp.line)&&gk o)=true then(match args with
     |[]=>(cE T n sc N o).map fun o'=>.pop o' false
     |_=>none) else if(gk o&&(ap.endLine==cp.line)&&decide (args.length<29))=true then(cE T n sc N o).bind fun o'=>(nC T n sc N args).map fun as'=>.meth o' m (T.ims m) as' else none)
     fun j=>if((ap.endLine==cp.line)&&decide (args.length<29)&& !args.isEmpty)=true then(nC T n sc N args).map (.fn j) else none
   |_=>none)
   |_=>none)
  | .ListComp elt gens scope _=>(AQ gens).bind fun q=>(uL q.1).elim ((wX q.1).bind fun z=>(jW q.2.1).bind fun ra=>if((ra.1= "enumerate" ∧bc sc ra.1=true)∧dm sc scope N z.1 z.2=true)∧T.calm=true then
     (cE T n sc N ra.2).bind fun a'=>(cE T n (iy sc scope) (z.1::z.2::N) elt).bind fun e'=>match q.2.2 with
      |[]=>some (.compE a' e')
      |c::r=>match r with
       |[]=>(cE T n (iy sc scope) (z.1::z.2::N) c).map fun c'=>.compEIf a' c' e'
       |_=>none
    else none)
    fun x=>if T.calm=true∧dC sc scope N x=true then
     (jW q.2.1).elim (kK T n sc N false q.2.1 x elt q.2.2 scope) fun ra=>if ra.1= "range" ∧bc sc ra.1=true then kK T n sc N true ra.2 x elt q.2.2 scope else kK T n sc N false q.2.1 x elt q.2.2 scope
    else none
  | .IfExp c a b _=>(cE T n sc N c).bind fun c'=>(cE T n sc N a).bind fun a'=>(cE T n sc N b).map fun b'=>.ite c' a' b'
  | .Attribute o f _=>if gk o=true then(cE T n sc N o).map (fun o'=>.fld o' f (T.ecs f) (T.ics f)) else none
  |_=>none
noncomputable def nC(T:Tab)(n:Nat)(sc:Scope)(N:List Str)(es:List Expr):Option (List Ex):=match n with
 |0=>none
 |n+1=>match es with
  |[]=>some []
  |e::r=>(cE T n sc N e).bind fun e'=>(nC T n sc N r).map fun r'=>e'::r'
noncomputable def kK(T:Tab)(n:Nat)(sc:Scope)(N:List Str)(rng:Bool)(src:Expr)(x:Str)(elt:Expr)(ifs:List Expr)(scope:Scope):Option Ex:=match n with
 |0=>none
 |n+1=>(cE T n sc N src).bind fun s'=>(cE T n (iy sc scope) (x::N) elt).bind fun e'=>match ifs with
   |[]=>some (.comp rng s' e')
   |_=>none
end
structure LRel(K:ao)(H:Hp)(ι:Nat→Addr)(m:Nat)(loc:Loc)(σ:L2.St):Prop where
 len:loc.length=σ.length
 at_:∀(i:Nat)(d:D),loc[i]? =some (some d)→∃v:V,σ[i]? =some (some v)∧VRel K H ι m d v
theorem LRel.ext{K:ao}{loc:Loc}(L:LRel K H ι m loc σ)(E:Ext H H' ι ι' m m'):LRel K H' ι' m' loc σ:=
 ⟨L.len,fun i d e=>let⟨v,h1,h2⟩:=L.at_ i d e;⟨v,h1,h2.ext E⟩⟩
theorem LRel.cons{K:ao}{loc:Loc}{d:D}(L:LRel K H ι m loc σ)(r:VRel K H ι m d v):LRel K H ι m (some d::loc) (some v::σ):=
 ⟨by simp[L.len],fun i e h=>by
  cases i with
  |zero=>
   have:d=e:=by simpa using h
   subst this
   exact⟨v,rfl,r⟩
  |succ i=>simpa using L.at_ i e (by simpa using h)⟩
theorem LRel.set{K:ao}{loc:Loc}{d:D}(L:LRel K H ι m loc σ)(j:Nat)(r:VRel K H ι m d v):LRel K H ι m (loc.set j (some d)) (σ.set j (some v)):=
 ⟨by simp[L.len],fun i e h=>by
  by_cases hj:j=i
  ·subst hj
   have hl:j<loc.length:=by
    have:=(aA h).1
    simpa using this
   rw[aV hl] at h
   cases h
   exact⟨v,by rw[aV (by rw[←L.len];exact hl)],r⟩
  ·rw[ah hj] at h
   obtain⟨w,h1,h2⟩:=L.at_ i e h
   exact⟨w,by rw[ah hj];exact h1,h2⟩⟩
noncomputable def tE(K:ao)(m:Loc→M D):TE:=fun σ H Q=>∃ι st loc,Sim K H ι st∧LRel K H ι st.length loc σ∧cv K H ι st (m loc st) Q
noncomputable def ij(K:ao)(H:Hp)(ι:Nat→Addr)(st:aS)(r:R D)(Q:Bool→Hp→Prop):Prop:=match r with
 | .ok (.bl k) st'=>∀H' ι',Ext H H' ι ι' st.length st'.length→Sim K H' ι' st'→Q k H'
 |_=>False
noncomputable def tT(K:ao)(m:Loc→M D):TT:=fun σ H Q=>∃ι st loc,Sim K H ι st∧LRel K H ι st.length loc σ∧ij K H ι st (m loc st) Q
noncomputable def uG(K:ao)(H:Hp)(ι:Nat→Addr)(st:aS)(r:R (List D))(Q:List V→Hp→Prop):Prop:=match r with
 | .ok ds st'=>∀H' ι' vs,Ext H H' ι ι' st.length st'.length→Sim K H' ι' st'→VRels K H' ι' st'.length ds vs→Q vs H'
 | .bad=>False
noncomputable def tA(K:ao)(m:Loc→M (List D)):TA:=fun σ H Q=>∃ι st loc,Sim K H ι st∧LRel K H ι st.length loc σ∧uG K H ι st (m loc st) Q
section
variable{K:ao}{H:Hp}{ι:Nat→Addr}{st:aS}{σ:L2.St}{loc:Loc}
theorem bi{m:Loc→M D}{d:D}{st1:aS}(S:Sim K H ι st)(L:LRel K H ι st.length loc σ)(e:m loc st=.ok d st1)(k:∀H1 ι1 v,Ext H H1 ι ι1 st.length st1.length→Sim K H1 ι1 st1→VRel K H1 ι1 st1.length d v→Q v H1):tE K m σ H Q:=
 ⟨ι,st,loc,S,L,by rw[e];exact k⟩
theorem iL{m:Loc→M D}{Q:Bool→Hp→Prop}{b:Bool}{st1:aS}(S:Sim K H ι st)(L:LRel K H ι st.length loc σ)(e:m loc st=.ok (.bl b) st1)(k:∀H1 ι1,Ext H H1 ι ι1 st.length st1.length→Sim K H1 ι1 st1→Q b H1):tT K m σ H Q:=
 ⟨ι,st,loc,S,L,by rw[e];exact k⟩
theorem gw{m:Loc→M (List D)}{Q:List V→Hp→Prop}{ds:List D}{st1:aS}(S:Sim K H ι st)(L:LRel K H ι st.length loc σ)(e:m loc st=.ok ds st1)(k:∀H1 ι1 vs,Ext H H1 ι ι1 st.length st1.length→Sim K H1 ι1 st1→VRels K H1 ι1 st1.length ds vs→Q vs H1):tA K m σ H Q:=
 ⟨ι,st,loc,S,L,by rw[e];exact k⟩
theorem a_{m:M α}{f:α→M D}{st0:aS}(P:cv K H ι st (ba m f st0) Q):∃a st1,m st0=.ok a st1∧cv K H ι st (f a st1) Q:=by
 unfold ba at P
 cases e:m st0 with
 |ok a st1=>rw[e] at P;exact⟨a,st1,rfl,P⟩
 |bad=>rw[e] at P;exact P.elim
theorem dw{m:M α}{f:α→M D}{st0:aS}{Q:Bool→Hp→Prop}(P:ij K H ι st (ba m f st0) Q):∃a st1,m st0=.ok a st1∧ij K H ι st (f a st1) Q:=by
 unfold ba at P
 cases e:m st0 with
 |ok a st1=>rw[e] at P;exact⟨a,st1,rfl,P⟩
 |bad=>rw[e] at P;exact P.elim
theorem nr{m:M α}{f:α→M (List D)}{st0:aS}{Q:List V→Hp→Prop}(P:uG K H ι st (ba m f st0) Q):∃a st1,m st0=.ok a st1∧uG K H ι st (f a st1) Q:=by
 unfold ba at P
 cases e:m st0 with
 |ok a st1=>rw[e] at P;exact⟨a,st1,rfl,P⟩
 |bad=>rw[e] at P;exact P.elim
theorem bA{o:Option α}{a:α}{st0 st1:aS}(e:dU o st0=.ok a st1):o=some a∧st1=st0:=by
 unfold dU at e
 cases o with
 |none=>cases e
 |some b=>cases e;exact⟨rfl,rfl⟩
theorem bR{x:D}{b:Bool}(e:fF x=some b):x=.bl b:=by
 cases x<;>cases e
 rfl
theorem mO{x:D}{b:Int}(e:iF x=some b):x=.int b:=by
 cases x<;>cases e
 rfl
theorem ij.inv{r:R D}{Q:Bool→Hp→Prop}(P:ij K H ι st r Q):∃b st1,r=.ok (.bl b) st1∧∀H' ι',Ext H H' ι ι' st.length st1.length→Sim K H' ι' st1→Q b H':=by
 unfold ij at P
 split at P
 ·exact⟨_,_,rfl,P⟩
 ·exact P.elim
theorem ij.mono{r:R D}{Q:Bool→Hp→Prop}{H1:Hp}{st1:aS}(P:ij K H ι st r Q)(E:Ext H H1 ι ι1 st.length st1.length):ij K H1 ι1 st1 r Q:=by
 obtain⟨b,st2,rfl,k⟩:=P.inv
 exact fun H' ι' E' S'=>k H' ι' (E.trans E') S'
end
theorem _root_.L2.PE.imp{X:Cx}{e:Expr}{t t':TE}(h:PE X e t)(k:∀σ H Q,t' σ H Q→t σ H Q):PE X e t':=fun pins s σ H Q I q=>h pins s σ H Q I (k σ H Q q)
theorem _root_.L2.PT.imp{X:Cx}{e:Expr}{t t':TT}(h:PT X e t)(k:∀σ H Q,t' σ H Q→t σ H Q):PT X e t':=fun pins s σ H Q I q=>h pins s σ H Q I (k σ H Q q)
theorem _root_.L2.PA.imp{X:Cx}{es:List Expr}{t t':TA}(h:PA X es t)(k:∀σ H Q,t' σ H Q→t σ H Q):PA X es t':=fun pos pins s σ H Q I q=>h pos pins s σ H Q I (k σ H Q q)
noncomputable def dE(K:ao)(E:XK)(H:Hp)(ι:Nat→Addr)(st:aS)(r:R Rs)(Q:VK):Prop:=match r with
 | .ok (.v d) st'=>∀H' ι' v,Ext H H' ι ι' st.length st'.length→Sim K H' ι' st'→VRel K H' ι' st'.length d v→Q v H'
 | .ok (.x n) st'=>∀H' ι',Ext H H' ι ι' st.length st'.length→Sim K H' ι' st'→E (.ref (ι' n)) none H'
 | .bad=>False
theorem dE.mono{K:ao}{E:XK}{st:aS}{r:R Rs}{H1:Hp}{st1:aS}(P:dE K E H ι st r Q)(E1:Ext H H1 ι ι1 st.length st1.length):dE K E H1 ι1 st1 r Q:=by
 cases r with
 |ok f st2=>
  cases f with
  |v d=>exact fun H' ι' v E' S' r'=>P H' ι' v (E1.trans E') S' r'
  |x n=>exact fun H' ι' E' S'=>P H' ι' (E1.trans E') S'
 |bad=>exact P
theorem dE.val{K:ao}{st:aS}{m:M Rs}{st1:aS}{E:XK}(P:cv K H ι st (ba m (fun r=>dU r.val?) st1) Q):dE K E H ι st (m st1) Q:=by
 obtain⟨r,st2,e,P⟩:=a_ P
 rw[e]
 cases r with
 |v d=>exact P
 |x n=>exact P.elim
noncomputable def wT(K:ao)(n:Nat)(f:List D→M Rs):Sp:=fun vs H Q E=>vs.length=n∧∃ι st ds,Sim K H ι st∧VRels K H ι st.length ds vs∧dE K E H ι st (f ds st) Q
structure Ctx(T:Tab)(g:c_)(X:Cx)(sc:Scope)(N:List Str):Prop where
 sc:X.env.scope=sc
 n:X.N=N
 nd:N.Nodup
 nm:∀x∈N,(x==("__debug__":Str))=false∧(x==("__classdict__":Str))=false
 calm:T.calm=true→X.calm=true
 un:X.A.units+100<cLine
 fns:∀i f,T.fns[i]? =some f→(f==("__debug__":Str))=false∧∃a fd ps k,X.mg f=some (.ref a)∧PySem.W.keepIn X.K (.ref a)=true∧Binds X.K fd ps []∧Room k X.A∧(∀ds st,ds.length≠ps.length→g i ds st=R.bad)∧FnOk X.prog X.w X.K X.mg X.base (ji X.prog X.w) k a fd ps (wT X.K ps.length (g i))
 csts:∀x d,T.csts.lookup x=some d→(x==("__debug__":Str))=false∧∃u v,X.mg x=some u∧RelV v u∧∀H ι m,VRel X.K H ι m d v
 blt:∀x∈re,X.mg x=none
 cats:∀t,t∈T.cats→(t==("__debug__":Str))=false∧∃D,PySem.W.nsIn X.K mainGlobals t=some (some (.ref D))∧X.mg t=some (.ref D)∧ECat X.K D
 cls:∀x anc,(x,anc)∈T.cls→∃C,PySem.W.nsIn X.K mainGlobals x=some (some (.ref C))∧ECls X.K C∧(∀f∈T.flds,PySem.W.findIn X.K (.ref C) f=some none)∧
  (∀t∈T.cats,∀D,PySem.W.nsIn X.K mainGlobals t=some (some (.ref D))→PySem.W.kitOne X.K (.ref C) (.ref D)=some (anc.contains t)∧PySem.W.mroIn X.K C (.ref D)=some (anc.contains t))∧PySem.W.kitOne X.K (.ref C) (.type "ValueError")=some (anc.contains "ValueError")
 ini:∀x j,(x,j)∈T.ini→(x==("__debug__":Str))=false∧∃C a fd ps k,PySem.W.nsIn X.K mainGlobals x=some (some (.ref C))∧X.mg x=some (.ref C)∧EMk X.K C∧PySem.W.mroIn X.K C (.type "BaseException")=some true∧PySem.W.keepIn X.K (.ref C)=true∧
  PySem.W.findIn X.K (.ref C) "__init__"=some (some (.ref a))∧PySem.W.isFn X.K (.ref a)=true∧Binds X.K fd ps []∧Room (k+1) X.A∧(∀ds st,ds.length≠ps.length→g j ds st=R.bad)∧FnOk X.prog X.w X.K X.mg X.base (ji X.prog X.w) k a fd ps (wT X.K ps.length (g j))
 icl:∀c∈T.icl,∃C,PySem.W.nsIn X.K mainGlobals c.x=some (some (.ref C))∧Cls X.K C∧(∀f∈c.flds,eP X.K C f)∧(∀m j,(m,j)∈c.mts→∃a fd ps k,Meth X.K C m a∧Binds X.K fd ps []∧Room k X.A∧(∀ds st,ds.length≠ps.length→g j ds st=R.bad)∧FnOk X.prog X.w X.K X.mg X.base (ji X.prog X.w) k a fd ps (wT X.K ps.length (g j)))∧
  (PySem.W.findIn X.K (.ref C) "__class__"=some (some (.builtin "object.__class__"))∧PySem.W.specialIn X.K (.builtin "object.__class__") "__get__"=some (some (.builtin "getset_descriptor.__get__"))∧PySem.W.takesIn X.K (.builtin "object.__class__")=some true∧PySem.W.mroIn X.K C (.type "object")=some true)∧
  ∀t∈T.icats,∀D,PySem.W.nsIn X.K mainGlobals t=some (some (.ref D))→PySem.W.kitOne X.K (.ref C) (.ref D)=some (c.anc.contains t)
 icats:∀t,t∈T.icats→(t==("__debug__":Str))=false∧∃D,PySem.W.nsIn X.K mainGlobals t=some (some (.ref D))∧X.mg t=some (.ref D)
 mks:∀x j,(x,j)∈T.mks→(x==("__debug__":Str))=false∧∃C a fd ps k,PySem.W.nsIn X.K mainGlobals x=some (some (.ref C))∧X.mg x=some (.ref C)∧Mk X.K C a∧Binds X.K fd ps []∧Room (k+1) X.A∧(∀ds st,ds.length≠ps.length→g j ds st=R.bad)∧FnOk X.prog X.w X.K X.mg X.base (ji X.prog X.w) k a fd ps (wT X.K ps.length (g j))
 ums:∀x m j,(x,m,j)∈T.ums→(x==("__debug__":Str))=false∧∃C a fd ps k,X.mg x=some (.ref C)∧UMeth X.K C m a∧Binds X.K fd ps []∧Room k X.A∧(∀ds st,ds.length≠ps.length→g j ds st=R.bad)∧FnOk X.prog X.w X.K X.mg X.base (ji X.prog X.w) k a fd ps (wT X.K ps.length (g j))
noncomputable def AO(K:ao)(tl:TE):TI:=fun σ H R=>tl σ H fun x H1=>∃a,x=.ref a∧(((∃xs,dz K H1 a xs)∧R (Bu K a) H1)∨((∃xs,fP K H1 a xs)∧R (Co K a) H1))
theorem sO{tg l:Expr}{tl:TE}(hl:PE X l tl):PI X tg l (AO X.K tl):=by
 intro pins s σ H R I h
 refine bC (hl pins s σ H _ I h) fun v s1 hp=>?_
 obtain⟨x,H1,I1,r1,q1⟩:=hp
 obtain⟨a,rfl,⟨⟨xs,hq⟩,q⟩|⟨⟨xs,hq⟩,q⟩⟩:=q1
 ·cases r1
  obtain⟨its,rv,p,hz⟩:=I1.list hq
  refine wpAny_pyIter_list p.isList ?_
  refine⟨s1.heap.objs.size,[s1.heap.objs.size],_,_,H1,rfl,I1.kept (t':=s1.toks) fun b o e=>ac _ e,qo a _,⟨_,aq _ rfl,rfl,rfl⟩,fun b hb=>?_,q⟩
  have e:b=s1.heap.objs.size:=by simpa using hb
  subst e
  exact I1.fpOk (af _) (I1.hok.fresh (af _))
 ·cases r1
  obtain⟨its,rv,p,hz⟩:=I1.tuple hq
  refine wpAny_pyIter_tuple (show s1.heap.IsTuple a its.toArray from p) ?_
  refine⟨s1.heap.objs.size,[s1.heap.objs.size],_,_,H1,rfl,I1.kept (t':=s1.toks) fun b o e=>ac _ e,nI a _,⟨_,aq _ rfl,rfl,rfl⟩,fun b hb=>?_,q⟩
  have e:b=s1.heap.objs.size:=by simpa using hb
  subst e
  exact I1.fpOk (af _) (I1.hok.fresh (af _))
noncomputable def fc(K:ao)(J:It)(s:Src)(H0:Hp)(ι0:Nat→Addr)(m0:Nat):Prop:=∀H ι st i,Ext H0 H ι0 ι m0 st.length→Sim K H ι st→
 (gR s i st=some none→J.stop i H)∧∀x,gR s i st=some (some x)→J.go i H∧∀v H',J.yld i H v H'→H'=H∧VRel K H ι st.length x v
theorem fc.tup{K:ao}{a:Addr}{H0:Hp}{xs:List D}(h:fP K H0 a vs)(r:VRels K H0 ι0 m0 xs vs):fc K (Co K a) (.its xs) H0 ι0 m0:=fun H ι st i E S=>by
 have l:=r.length
 have h':=fP.ext E.toExt0 h
 refine⟨fun e=>?_,fun x e=>?_⟩
 ·have e:xs[i]? =none:=aj e
  exact⟨vs,h',by have:=List.getElem?_eq_none_iff.mp e;omega⟩
 ·have e:xs[i]? =some x:=aj e
  obtain⟨v,hv,rv⟩:=(r.ext E).get e
  refine⟨⟨vs,v,h',hv⟩,fun w H' y=>⟨y.1,?_⟩⟩
  have:=y.2 vs h'
  rw[hv] at this
  cases this
  exact rv
theorem fc.fl{K:ao}{a:Addr}{H0:Hp}{xs:List D}(h:uN K H0 a vs)(r:VRels K H0 ι0 m0 xs vs):fc K (Bu K a) (.its xs) H0 ι0 m0:=fun H ι st i E S=>by
 have l:=r.length
 have h':=(uN.ext E.toExt0 h).sql
 refine⟨fun e=>?_,fun x e=>?_⟩
 ·have e:xs[i]? =none:=aj e
  exact⟨vs,h',by have:=List.getElem?_eq_none_iff.mp e;omega⟩
 ·have e:xs[i]? =some x:=aj e
  obtain⟨v,hv,rv⟩:=(r.ext E).get e
  refine⟨⟨vs,v,h',hv⟩,fun w H' y=>⟨y.1,?_⟩⟩
  have:=y.2 vs h'
  rw[hv] at this
  cases this
  exact rv
theorem fc.ref{K:ao}{H0:Hp}(hn:n<m0):fc K (Bu K (ι0 n)) (.at n) H0 ι0 m0:=fun H ι st i E S=>by
 simp only[gR]
 cases q:st[n]? with
 |none=>exact⟨fun e=>(by cases e),fun x e=>(by cases e)⟩
 |some o=>
  have ob:=S.ob n o q
  rw[E.ad n hn] at ob
  cases o with
  |dct kvs=>exact⟨fun e=>(by cases e),fun x e=>(by cases e)⟩
  |err _ _ _=>exact⟨fun e=>(by cases e),fun x e=>(by cases e)⟩
  |edc _=>exact⟨fun e=>(by cases e),fun x e=>(by cases e)⟩
  |ins _ _=>exact⟨fun e=>(by cases e),fun x e=>(by cases e)⟩
  |lst xs=>
   obtain⟨vs,h1,r⟩:=ob
   have l:=r.length
   have h':dz K H (ι0 n) vs:=dz.of h1
   refine⟨fun e=>?_,fun x e=>?_⟩
   ·have e:xs[i]? =none:=aj e
    exact⟨vs,h',by have:=List.getElem?_eq_none_iff.mp e;omega⟩
   ·have e:xs[i]? =some x:=aj e
    obtain⟨v,hv,rv⟩:=r.get e
    refine⟨⟨vs,v,h',hv⟩,fun w H' y=>⟨y.1,?_⟩⟩
    have:=y.2 vs h'
    rw[hv] at this
    cases this
    exact rv
theorem fc.rng{K:ao}{H0:Hp}{k:Nat}:fc K (Bs 0 k) (.its (bp k)) H0 ι0 m0:=fun H ι st i E S=>by
 refine⟨fun e=>?_,fun x e=>?_⟩
 ·have e:(bp k)[i]? =none:=aj e
  show k≤i
  have:=List.getElem?_eq_none_iff.mp e
  simpa[bp] using this
 ·have e:(bp k)[i]? =some x:=aj e
  have hi:i<k:=by
   have:=(aA e).1
   simpa[bp] using this
  have hx:x=.int (i:Int):=by
   have:(bp k)[i]? =some (.int (i:Int)):=by simp[bp,hi]
   rw[this] at e
   exact(aj e).symm
  subst hx
  refine⟨hi,fun v H' y=>⟨y.1,?_⟩⟩
  have:v=.int (0+(i:Int)):=y.2
  rw[this,Int.zero_add]
  exact .int _
structure EltOk(K:ao)(tc:TT)(te:TE)(f:Loc→D→M (Option D)):Prop where
 turn:∀{H:Hp}{ι:Nat→Addr}{st st1:aS}{loc:Loc}{σ:L2.St}{x:D}{v:V}{o:Option D}{Q:Option V→Hp→Prop},Sim K H ι st→LRel K H ι st.length loc σ→VRel K H ι st.length x v→f loc x st=.ok o st1→
  (∀H1 ι1 w,Ext H H1 ι ι1 st.length st1.length→Sim K H1 ι1 st1→(match o,w with|some y,some z=>VRel K H1 ι1 st1.length y z|none,none=>True|_,_=>False)→Q w H1)→
  tc (some v::σ) H fun b H3=>if b=true then te (some v::σ) H3 fun y H4=>Q (some y) H4 else Q none H3
noncomputable def d3(K:ao)(J:It)(s:Src)(H0:Hp)(ι0:Nat→Addr)(m0:Nat):Prop:=∀H ι st i,Ext H0 H ι0 ι m0 st.length→Sim K H ι st→
 (gR s i st=some none→J.stop i H)∧∀x,gR s i st=some (some x)→J.go i H∧∀v H',J.yld i H v H'→Ext H H' ι ι st.length st.length∧Sim K H' ι st∧VRel K H' ι st.length x v
theorem Sim.tup{K:ao}{st:aS}(S:Sim K H ι st){p:Addr}(hp:H p=none):Ext H (bm H p (.tup xs)) ι ι st.length st.length∧Sim K (bm H p (.tup xs)) ι st:=by
 have E:Ext H (bm H p (.tup xs)) ι ι st.length st.length:=⟨⟨af _,fun _ _=>rfl,fun b ys e=>by rw[az (aw e hp)];exact e,fun b ob u e=>by rw[az (aw e hp)];exact e⟩,fun b ob e k=>⟨by rw[az (aw e hp)];exact e,k⟩⟩
 refine⟨E,S.inj,fun n o e=>?_⟩
 have hn:n<st.length:=(aA e).1
 have hne:ι n≠p:=by obtain⟨_,h,_⟩:=S.obj hn;exact aw h hp
 have old:=S.ob n o e
 exact old.move E.toExt0 (az hne)
theorem d3.en{K:ao}{H0:Hp}(hn:n<m0):d3 K (Cp K (ι0 n)) (.en n) H0 ι0 m0:=fun H ι st i E S=>by
 simp only[gR]
 cases q:st[n]? with
 |none=>exact⟨fun e=>(by cases e),fun x e=>(by cases e)⟩
 |some o=>
  have ob:=S.ob n o q
  rw[E.ad n hn] at ob
  cases o with
  |dct _|err _ _ _|edc _|ins _ _=>exact⟨fun e=>(by cases e),fun x e=>(by cases e)⟩
  |lst xs=>
   obtain⟨vs,h1,r⟩:=ob
   have l:=r.length
   have h':dz K H (ι0 n) vs:=dz.of h1
   refine⟨fun e=>?_,fun x e=>?_⟩
   ·have e:xs[i]?.map (fun x=>D.tup [.int (i:Int),x])=none:=aj e
    have e:xs[i]? =none:=by simpa using e
    exact⟨vs,h',by have:=List.getElem?_eq_none_iff.mp e;omega⟩
   ·have e:xs[i]?.map (fun x=>D.tup [.int (i:Int),x])=some x:=aj e
    cases e2:xs[i]? with
    |none=>rw[e2] at e;cases e
    |some y=>
     rw[e2] at e
     have e:D.tup [.int (i:Int),y]=x:=aj e
     subst e
     obtain⟨v,hv,rv⟩:=r.get e2
     refine⟨⟨vs,v,h',hv⟩,fun w H' yy=>?_⟩
     obtain⟨p,z,rfl,hp,rfl,hz⟩:=yy
     have:=hz vs h'
     rw[hv] at this
     cases this
     obtain⟨E1,S1⟩:=S.tup (xs:=[.int (i:Int),v]) hp
     exact⟨E1,S1,.tup (.inl (.inl bd)) (.cons (.int _) (.cons (rv.ext E1) .nil))⟩
theorem d3.enT{K:ao}{a:Addr}{xs:List D}{H0:Hp}(r:VRel K H0 ι0 m0 (.tup xs) (.ref a)):d3 K (zm K a) (.its (fD 0 xs)) H0 ι0 m0:=fun H ι st i E S=>by
 cases r.ext E with
 | @tup _ _ vs h' r=>
  simp only[gR,iG]
  have l:=r.length
  refine⟨fun e=>?_,fun x e=>?_⟩
  ·have e:=aj e
   have e:xs[i]? =none:=by simpa using e
   exact⟨vs,h',by have:=List.getElem?_eq_none_iff.mp e;omega⟩
  ·have e:=aj e
   cases e2:xs[i]? with
   |none=>rw[e2] at e;cases e
   |some y=>
    rw[e2] at e
    have e:D.tup [.int ((0+i:Nat):Int),y]=x:=aj e
    rw[Nat.zero_add] at e
    subst e
    obtain⟨v,hv,rv⟩:=r.get e2
    refine⟨⟨vs,v,h',hv⟩,fun w H' yy=>?_⟩
    obtain⟨p,z,rfl,hp,rfl,hz⟩:=yy
    have:=hz vs h'
    rw[hv] at this
    cases this
    obtain⟨E1,S1⟩:=S.tup (xs:=[.int (i:Int),v]) hp
    exact⟨E1,S1,.tup (.inl (.inl bd)) (.cons (.int _) (.cons (rv.ext E1) .nil))⟩
structure EltG(K:ao)(tt:V→Hp→(Option V→Hp→Prop)→Prop)(f:D→M (Option D))(H0:Hp)(ι0:Nat→Addr)(m0:Nat):Prop where
 turn:∀{H:Hp}{ι:Nat→Addr}{st st1:aS}{x:D}{v:V}{o:Option D}{Q:Option V→Hp→Prop},Ext H0 H ι0 ι m0 st.length→Sim K H ι st→VRel K H ι st.length x v→f x st=.ok o st1→
  (∀H1 ι1 w,Ext H H1 ι ι1 st.length st1.length→Sim K H1 ι1 st1→(match o,w with|some y,some z=>VRel K H1 ι1 st1.length y z|none,none=>True|_,_=>False)→Q w H1)→tt v H Q
theorem ng{K:ao}{tt:V→Hp→(Option V→Hp→Prop)→Prop}{f:D→M (Option D)}{s:Src}{st st0:aS}{H0:Hp}(ok:EltG K tt f H ι st.length)
  (F:d3 K J s H ι st.length)(E0:Ext H0 H ι0 ι st0.length st.length)(S:Sim K H ι st)(P:cv K H0 ι0 st0 (cf f s st) Q):∀Dd,H Dd=none→∃W:Nat→Nat→List V→Hp→Prop,(∃m,W 0 m [] (bm H Dd (.lst [])))∧∀i m ys H2,W i m ys H2→
   (J.stop i H2∧Q (.ref Dd) H2)∨(J.go i H2∧∃N:List V→Hp→Prop,(∀ys' H',N ys' H'→∃m',m'<m∧W (i+1) m' ys' H')∧
    ∀x H',J.yld i H2 x H'→tt x H' fun w H4=>match w with
     |some y=>H4 Dd=some (.lst ys)∧ys.length<sizeLine∧N (ys++[y]) (bm H4 Dd (.lst (ys++[y])))
     |none=>N ys H4):=by
 intro Dd hD
 have sz:sizeLine=16777216:=sizeLine_eq
 unfold cf at P
 split at P
 case isFalse=>exact P.elim
 case isTrue hz=>
 refine⟨fun i m ys H2=>i+m≤1000001∧∃ι2 st2 acc,Ext H H2 ι ι2 st.length st2.length∧Sim K H2 ι2 st2∧H2 Dd=some (.lst ys)∧(∀n,n<st2.length→ι2 n≠Dd)∧VRels K H2 ι2 st2.length acc ys∧acc.length≤i∧
   cv K H0 ι0 st0 (ba (c6 f s m i acc) alloc st2) Q,⟨gJ s st+1,by omega,ι,st,[],?_,?_,bd,fun n hn=>?_,.nil,af _,P⟩,?_⟩
 ·exact⟨⟨af _,fun _ _=>rfl,fun b xs e=>by rw[az (aw e hD)];exact e,fun b ob u e=>by rw[az (aw e hD)];exact e⟩,fun b ob e k=>⟨by rw[az (aw e hD)];exact e,k⟩⟩
 ·refine⟨S.inj,fun n o e=>?_⟩
  have hn:n<st.length:=(aA e).1
  have hne:ι n≠Dd:=by obtain⟨_,h,_⟩:=S.obj hn;exact aw h hD
  have E:Ext0 H (bm H Dd (.lst [])) ι ι st.length st.length:=⟨af _,fun _ _=>rfl,fun b xs e=>by rw[az (aw e hD)];exact e,fun b ob u e=>by rw[az (aw e hD)];exact e⟩
  have old:=S.ob n o e
  exact old.move E (az hne)
 ·obtain⟨_,h,_⟩:=S.obj hn;exact aw h hD
 ·rintro i m ys H2 ⟨hm,ι2,st2,acc,E2,S2,hDd,ap,ra,la,P2⟩
  obtain⟨zs,st9,e9,P9⟩:=a_ P2
  obtain⟨c1,c2⟩:=F H2 ι2 st2 i E2 S2
  cases m with
  |zero=>cases e9
  |succ m=>
   simp only[c6] at e9
   cases en:gR s i st2 with
   |none=>rw[en] at e9;cases e9
   |some ox=>
    rw[en] at e9
    cases ox with
    |none=>
     have e9:R.ok acc st2=R.ok zs st9:=e9
     cases e9
     refine .inl ⟨c1 en,?_⟩
     obtain⟨ι',h1,h2,h3⟩:=S2.add hDd ap ra
     have l:(st2++[O.lst acc]).length=st2.length+1:=by simp
     refine P9 H2 ι' (.ref Dd) ?_ h3 ?_
     ·rw[l]
      have E6:=E0.trans E2
      refine⟨⟨Nat.le_succ_of_le E6.le,fun n hn=>(h1 n (am hn E6.le)).trans (E6.ad n hn),E6.tp,E6.fz⟩,fun b ob e k=>?_⟩
      obtain⟨g1,g2⟩:=E6.fr b ob e k
      refine⟨g1,fun n hn=>?_⟩
      by_cases hn':n=st2.length
      ·rw[hn',h2]
       obtain⟨g3,_⟩:=E0.fr b ob e k
       exact(aw g3 hD).symm
      ·rw[h1 n (by omega)];exact g2 n (by omega)
     ·rw[←h2,l];exact .ref (aG _)
    |some x=>
     obtain⟨hgo,hyl⟩:=c2 x en
     refine .inr ⟨hgo,fun ys' H'=>∃ι2 st2 acc,Ext H H' ι ι2 st.length st2.length∧Sim K H' ι2 st2∧H' Dd=some (.lst ys')∧(∀n,n<st2.length→ι2 n≠Dd)∧VRels K H' ι2 st2.length acc ys'∧acc.length≤i+1∧
      cv K H0 ι0 st0 (ba (c6 f s m (i+1) acc) alloc st2) Q,fun ys' H' b=>⟨m,aG _,by omega,b⟩,fun v H' y=>?_⟩
     obtain⟨EY,SY,rv⟩:=hyl v H' y
     obtain⟨hDd,_⟩:=EY.fr Dd _ hDd ap
     replace E2:=E2.trans EY
     replace ra:=ra.ext EY
     simp only[ba] at e9
     cases e3:f x st2 with
     |bad=>rw[e3] at e9;cases e9
     |ok o st3=>
      rw[e3] at e9
      refine ok.turn (Q:=fun w H4=>match w with
       |some y=>H4 Dd=some (.lst ys)∧ys.length<sizeLine∧∃ι2 st2 acc,Ext H (bm H4 Dd (.lst (ys++[y]))) ι ι2 st.length st2.length∧Sim K (bm H4 Dd (.lst (ys++[y]))) ι2 st2∧bm H4 Dd (.lst (ys++[y])) Dd=some (.lst (ys++[y]))∧(∀n,n<st2.length→ι2 n≠Dd)∧VRels K (bm H4 Dd (.lst (ys++[y]))) ι2 st2.length acc (ys++[y])∧acc.length≤i+1∧
         cv K H0 ι0 st0 (ba (c6 f s m (i+1) acc) alloc st2) Q
       |none=>∃ι2 st2 acc,Ext H H4 ι ι2 st.length st2.length∧Sim K H4 ι2 st2∧H4 Dd=some (.lst ys)∧(∀n,n<st2.length→ι2 n≠Dd)∧VRels K H4 ι2 st2.length acc ys∧acc.length≤i+1∧
         cv K H0 ι0 st0 (ba (c6 f s m (i+1) acc) alloc st2) Q) E2 SY rv e3 fun H4 ι4 w E4 S4 r4=>?_
      obtain⟨hDd4,ap4⟩:=E4.fr Dd _ hDd ap
      cases o with
      |none=>
       cases w with
       |some _=>exact r4.elim
       |none=>
        have e9':c6 f s m (i+1) acc st3=.ok zs st9:=e9
        refine⟨ι4,st3,acc,E2.trans E4,S4,hDd4,ap4,ra.ext E4,by omega,?_⟩
        unfold ba
        rw[e9']
        exact P9
      |some yd=>
       cases w with
       |none=>exact r4.elim
       |some yv=>
        have e9':c6 f s m (i+1) (acc++[yd]) st3=.ok zs st9:=e9
        have lra:=ra.length
        refine⟨hDd4,by omega,ι4,st3,acc++[yd],?_⟩
        have E5:Ext0 H4 (bm H4 Dd (.lst (ys++[yv]))) ι4 ι4 st3.length st3.length:=⟨af _,fun _ _=>rfl,fun b xs e=>by rw[az (dW e hDd4 (by intro z;cases z))];exact e,fun b ob u e=>by rw[az (dW e hDd4 (by intro z;cases z))];exact e⟩
        refine⟨?_,⟨S4.inj,fun n ob e=>?_⟩,bd,ap4,VRels.ext0 E5 ((ra.ext E4).append (.cons r4 .nil)),by simp;omega,?_⟩
        ·have E6:=E2.trans E4
         refine⟨⟨E6.le,E6.ad,fun b xs e=>E5.tp b xs (E6.tp b xs e),fun b ob u e=>E5.fz b ob u (E6.fz b ob u e)⟩,fun b ob e k=>?_⟩
         obtain⟨g1,g2⟩:=E6.fr b ob e k
         exact⟨by rw[az (aw e hD)];exact g1,g2⟩
        ·have hn:n<st3.length:=(aA e).1
         have old:=S4.ob n ob e
         exact old.move E5 (az (ap4 n hn))
        ·unfold ba
         rw[e9']
         exact P9
theorem Ba{K:ao}{s:Src}{H0:Hp}(F:fc K J s H0 ι0 m0):d3 K J s H0 ι0 m0:=fun H ι st i E S=>by
 obtain⟨h1,h2⟩:=F H ι st i E S
 refine⟨h1,fun x e=>?_⟩
 obtain⟨h3,h4⟩:=h2 x e
 refine⟨h3,fun v H' y=>?_⟩
 obtain⟨rfl,r⟩:=h4 v H' y
 exact⟨Ext.refl _ _ _,S,r⟩
theorem hZ{K:ao}{tc:TT}{te:TE}{f:Loc→D→M (Option D)}(ok:EltOk K tc te f){s:Src}{st st0:aS}{H0:Hp}{loc:Loc}
  (F:fc K J s H ι st.length)(E0:Ext H0 H ι0 ι st0.length st.length)(S:Sim K H ι st)(L:LRel K H ι st.length loc σ)(P:cv K H0 ι0 st0 (cf (f loc) s st) Q):∀Dd,H Dd=none→∃W:Nat→Nat→List V→Hp→Prop,(∃m,W 0 m [] (bm H Dd (.lst [])))∧∀i m ys H2,W i m ys H2→
   (J.stop i H2∧Q (.ref Dd) H2)∨(J.go i H2∧∃N:List V→Hp→Prop,(∀ys' H',N ys' H'→∃m',m'<m∧W (i+1) m' ys' H')∧
    ∀x H',J.yld i H2 x H'→tc (some x::σ) H' fun b H3=>if b=true then te (some x::σ) H3 fun y H4=>H4 Dd=some (.lst ys)∧ys.length<sizeLine∧N (ys++[y]) (bm H4 Dd (.lst (ys++[y]))) else N ys H3):=
 ng (tt:=fun v H' K=>tc (some v::σ) H' fun b H3=>if b=true then te (some v::σ) H3 fun y H4=>K (some y) H4 else K none H3) ⟨fun E S r ee k=>ok.turn S (L.ext E) r ee k⟩ (Ba F) E0 S P
section
variable{T:Tab}{g:c_}{X:Cx}{sc:Scope}{N:List Str}{pos p2:Pos}
theorem sG{m:Loc→M D}(h:PE X e (tE X.K m))(he:∀whole,isTrue e X.env whole=(do let v ←whole;standAt e.pos;holding [v] (truthy v))):PT X e (tT X.K m):=
 (x8 h he).imp fun σ H Q hp=>by
  obtain⟨ι,st,loc,S,L,P⟩:=hp
  obtain⟨b,st1,e1,k⟩:=P.inv
  exact bi S L e1 fun H1 ι1 v E1 S1 r1=>by cases r1;exact⟨b,rfl,k H1 ι1 E1 S1⟩
theorem hX{d:D}(h:PE X e (tC v))(r:∀H ι m,VRel X.K H ι m d v):PE X e (tE X.K (run g (.c d))):=
 h.imp fun σ H Q hp=>by
  obtain⟨ι,st,loc,S,L,P⟩:=hp
  rw[run] at P
  exact P.same S (r H ι _)
theorem uk(C:Ctx T g X sc N)(hi:dX N x=some i)(hv:Bp sc x):PE X (.Name x pos) (tE X.K (run g (.v i))):=by
 have hN:X.N[i]? =some x:=by rw[C.n];exact b_ hi
 obtain⟨h1,h2⟩:=C.nm x (al (b_ hi))
 refine(yg hN (by rw[C.sc];exact hv) h1 h2).imp fun σ H Q hp=>?_
 obtain⟨ι,st,loc,S,L,P⟩:=hp
 rw[run] at P
 unfold dU at P
 cases e:loc[i]? with
 |none=>rw[e] at P;exact P.elim
 |some o=>
  rw[e] at P
  cases o with
  |none=>exact P.elim
  |some d=>
   obtain⟨v,hv,r⟩:=L.at_ i d e
   exact⟨v,hv,P.same S r⟩
theorem w9{xs:List Ex}{k:Nat}(ha:PA X es (tA X.K (runs g xs)))(hz:es.length≤1000)(hl:es.length=xs.length):PE X (.Tuple es k pos) (tE X.K (run g (.tup xs))):=
 (yh ha).imp fun σ H Q hp=>by
  obtain⟨ι,st,loc,S,L,P⟩:=hp
  rw[run] at P
  obtain⟨ds,st1,e1,P⟩:=a_ P
  have sz:sizeLine=16777216:=sizeLine_eq
  refine gw S L e1 fun H1 ι1 vs E1 S1 r1=>⟨?_,(P.mono E1).tup S1 r1⟩
  have:=runs_len e1
  have l:=r1.length
  omega
where
 runs_len:∀{xs:List Ex}{loc:Loc}{st st1:aS}{ds:List D},runs g xs loc st=.ok ds st1→ds.length=xs.length
 |[],loc,st,st1,ds,e=>by rw[runs] at e;cases e;rfl
 |x::xs,loc,st,st1,ds,e=>by
  rw[runs] at e
  simp only[ba,ret] at e
  split at e
  ·split at e
   ·rename_i e2
    cases e
    rw[List.length_cons,List.length_cons,runs_len e2]
   ·cases e
  ·cases e
theorem AZ{xs:List Ex}(ha:PA X es (tA X.K (runs g xs)))(hz:es.length≤1000)(hl:es.length=xs.length):PE X (.List es pos) (tE X.K (run g (.lst xs))):=
 (yl ha).imp fun σ H Q hp=>by
  obtain⟨ι,st,loc,S,L,P⟩:=hp
  rw[run] at P
  obtain⟨ds,st1,e1,P⟩:=a_ P
  have sz:sizeLine=16777216:=sizeLine_eq
  refine gw S L e1 fun H1 ι1 vs E1 S1 r1=>⟨?_,(P.mono E1).alloc S1 r1⟩
  have:=w9.runs_len e1
  have l:=r1.length
  omega
theorem zi(I:Inv X pins σ H s):sysModules<s.heap.objs.size:=Nat.lt_trans (by decide) (show mainGlobals<s.heap.objs.size from(I.mod.glob.keeps I.bk).lt)
theorem A5:PE X (.Dict [] [] pos) (tE X.K (run g .emp)):=by
 intro pins s σ H Q I ⟨ι,st,loc,S,L,P⟩
 rw[run] at P
 refine wpAny_Dict_empty ⟨.ref s.heap.objs.size,_,I.laid (a:=s.heap.objs.size) (o:= .dK []) (t':=s.toks) (fun _ _ q=>ac _ q) (af _) ?_,rfl,P.allocD S _ (I.hok.fresh (af _))⟩
 exact⟨Nat.zero_le _,beq_eq_false_iff_ne.mpr (Ne.symm (ak (zi I))),[],.nil,Heap.DictOf.new s.heap⟩
theorem pC{a b:Ex}{f:D→D→M D}(h:tE X.K (fun loc=>ba (run g a loc) fun x=>ba (run g b loc) fun y=>f x y) σ H Q):zU (rD X.K f) (tE X.K (run g a)) (tE X.K (run g b)) σ H Q:=by
 obtain⟨ι,st,loc,S,L,P⟩:=h
 obtain⟨x,st1,e1,P⟩:=a_ P
 obtain⟨y,st2,e2,P⟩:=a_ P
 exact bi S L e1 fun H1 ι1 vx E1 S1 r1=>bi S1 (L.ext E1) e2 fun H2 ι2 vy E2 S2 r2=>⟨ι2,st2,x,y,S2,r1.ext E2,r2,P.mono (E1.trans E2)⟩
theorem A8{a' b':Ex}{op:Operator}{o:Bo}(ho:Bb op=some o)(ha:PE X a (tE X.K (run g a')))(hb:PE X b (tE X.K (run g b'))):PE X (.BinOp a op b pos) (tE X.K (run g (.bin o a' b'))):=by
 have e:op=o.op:=by cases op<;>cases ho<;>rfl
 subst e
 refine(AA (yw o) ha hb).imp fun σ H Q h=>pC ?_
 obtain⟨ι,st,loc,S,L,P⟩:=h
 rw[run] at P
 exact⟨ι,st,loc,S,L,P⟩
theorem AY{a':Ex}(ha:PE X a (tE X.K (run g a'))):PE X (.UnaryOp .USub a pos) (tE X.K (run g (.neg a'))):=
 (Ax xo ha).imp fun σ H Q hp=>by
  obtain⟨ι,st,loc,S,L,P⟩:=hp
  rw[run] at P
  obtain⟨x,st1,e1,P⟩:=a_ P
  obtain⟨i,st2,e2,P⟩:=a_ P
  obtain⟨e3,rfl⟩:=bA e2
  have:=mO e3
  subst this
  exact bi S L e1 fun H1 ι1 v E1 S1 r1=>by cases r1;exact⟨i,rfl,(P.mono E1).same S1 (.int _)⟩
theorem AW{a':Ex}(ha:PE X a (tE X.K (run g a'))):PE X (.UnaryOp .Not a pos) (tE X.K (run g (.not a'))):=
 (yj ha).imp fun σ H Q hp=>by
  obtain⟨ι,st,loc,S,L,P⟩:=hp
  rw[run] at P
  obtain⟨x,st1,e1,P⟩:=a_ P
  obtain⟨i,st2,e2,P⟩:=a_ P
  obtain⟨e3,rfl⟩:=bA e2
  have:=bR e3
  subst this
  exact bi S L e1 fun H1 ι1 v E1 S1 r1=>by cases r1;exact⟨i,rfl,(P.mono E1).same S1 (.bl _)⟩
theorem zN{a':Ex}(ha:PT X a (tT X.K (run g a'))):PT X (.UnaryOp .Not a pos) (tT X.K (run g (.not a'))):=
 (x9 ha).imp fun σ H Q hp=>by
  obtain⟨ι,st,loc,S,L,P⟩:=hp
  rw[run] at P
  obtain⟨x,st1,e1,P⟩:=dw P
  obtain⟨i,st2,e2,P⟩:=dw P
  obtain⟨e3,rfl⟩:=bA e2
  have:=bR e3
  subst this
  exact iL S L e1 fun H1 ι1 E1 S1=>P H1 ι1 E1 S1
theorem A9{a' b':Ex}(ha:PE X a (tE X.K (run g a')))(hb:PE X (.BoolOp .And (b::r) pos) (tE X.K (run g b'))):PE X (.BoolOp .And (a::b::r) pos) (tE X.K (run g (.and a' b'))):=
 (yp ha hb).imp fun σ H Q hp=>by
  obtain⟨ι,st,loc,S,L,P⟩:=hp
  rw[run] at P
  obtain⟨x,st1,e1,P⟩:=a_ P
  obtain⟨i,st2,e2,P⟩:=a_ P
  obtain⟨e3,rfl⟩:=bA e2
  have:=bR e3
  subst this
  refine bi S L e1 fun H1 ι1 v E1 S1 r1=>?_
  cases r1
  refine⟨i,rfl,?_⟩
  cases i with
  |true=>rw[if_pos rfl];exact⟨ι1,st2,loc,S1,L.ext E1,P.mono E1⟩
  |false=>rw[if_neg av];exact(P.mono E1).same S1 (.bl false)
theorem Cb{a' b':Ex}(ha:PE X a (tE X.K (run g a')))(hb:PE X (.BoolOp .Or (b::r) pos) (tE X.K (run g b'))):PE X (.BoolOp .Or (a::b::r) pos) (tE X.K (run g (.or a' b'))):=
 (Az ha hb).imp fun σ H Q hp=>by
  obtain⟨ι,st,loc,S,L,P⟩:=hp
  rw[run] at P
  obtain⟨x,st1,e1,P⟩:=a_ P
  obtain⟨i,st2,e2,P⟩:=a_ P
  obtain⟨e3,rfl⟩:=bA e2
  have:=bR e3
  subst this
  refine bi S L e1 fun H1 ι1 v E1 S1 r1=>?_
  cases r1
  refine⟨i,rfl,?_⟩
  cases i with
  |false=>rw[if_neg av];exact⟨ι1,st2,loc,S1,L.ext E1,P.mono E1⟩
  |true=>rw[if_pos rfl];exact(P.mono E1).same S1 (.bl true)
theorem wW{op:BoolOp}{t:TT}(h:PT X (.BoolOp op es pos) t):PW X (.BoolOp op es pos) t:=fun wh pins s σ H Q I q=>by
 have:=h pins s σ H Q I q
 exact this
theorem zQ{a' b':Ex}(ha:PT X a (tT X.K (run g a')))(hb:PT X (.BoolOp .And (b::r) pos) (tT X.K (run g b'))):PT X (.BoolOp .And (a::b::r) pos) (tT X.K (run g (.and a' b'))):=
 (x6 ha (wW hb)).pt.imp fun σ H Q hp=>by
  obtain⟨ι,st,loc,S,L,P⟩:=hp
  rw[run] at P
  obtain⟨x,st1,e1,P⟩:=dw P
  obtain⟨i,st2,e2,P⟩:=dw P
  obtain⟨e3,rfl⟩:=bA e2
  have:=bR e3
  subst this
  refine iL S L e1 fun H1 ι1 E1 S1=>?_
  cases i with
  |true=>rw[if_pos rfl];exact⟨ι1,st2,loc,S1,L.ext E1,P.mono E1⟩
  |false=>rw[if_neg av];exact P H1 ι1 E1 S1
theorem By{a' b':Ex}(ha:PT X a (tT X.K (run g a')))(hb:PT X (.BoolOp .Or (b::r) pos) (tT X.K (run g b'))):PT X (.BoolOp .Or (a::b::r) pos) (tT X.K (run g (.or a' b'))):=
 (Av ha (wW hb)).pt.imp fun σ H Q hp=>by
  obtain⟨ι,st,loc,S,L,P⟩:=hp
  rw[run] at P
  obtain⟨x,st1,e1,P⟩:=dw P
  obtain⟨i,st2,e2,P⟩:=dw P
  obtain⟨e3,rfl⟩:=bA e2
  have:=bR e3
  subst this
  refine iL S L e1 fun H1 ι1 E1 S1=>?_
  cases i with
  |false=>rw[if_neg av];exact⟨ι1,st2,loc,S1,L.ext E1,P.mono E1⟩
  |true=>rw[if_pos rfl];exact P H1 ι1 E1 S1
theorem zM{op:BoolOp}{t:TT}(ha:PT X a t):PT X (.BoolOp op [a] pos) t:=by
 cases op with
 |And=>exact(vQ ha).pt
 |Or=>exact(x5 ha).pt
theorem A7(hu:X.A.units+100<cLine){a' b':Ex}{op:CmpOp}(hm:behindInMarks op b=false)(ha:PE X a (tE X.K (run g a')))(hb:PE X b (tE X.K (run g b'))):PE X (.Compare a [op] [b] pos) (tE X.K (run g (.cmp op a' b'))):=
 (v6 (iA hu op) ha hb hm).imp fun σ H Q hp=>by
  obtain⟨ι,st,loc,S,L,P⟩:=hp
  rw[run] at P
  exact pC ⟨ι,st,loc,S,L,P⟩
theorem pi{m:Loc→M D}{t:TE}{Q:Bool→Hp→Prop}(k:∀Q',tE X.K m σ H Q'→t σ H Q')(h:tT X.K m σ H Q):rR t σ H Q:=by
 refine k _ ?_
 obtain⟨ι,st,loc,S,L,P⟩:=h
 obtain⟨b,st1,e,q⟩:=P.inv
 exact bi S L e fun H1 ι1 v E1 S1 r1=>by cases r1;exact⟨b,rfl,q H1 ι1 E1 S1⟩
theorem zP(hu:X.A.units+100<cLine){a' b':Ex}{op:CmpOp}(hm:behindInMarks op b=false)(ha:PE X a (tE X.K (run g a')))(hb:PE X b (tE X.K (run g b'))):PT X (.Compare a [op] [b] pos) (tT X.K (run g (.cmp op a' b'))):=
 (vS (iA hu op) ha hb hm).imp fun σ H Q h=>pi (fun Q' hp=>by
  obtain⟨ι,st,loc,S,L,P⟩:=hp
  rw[run] at P
  exact pC ⟨ι,st,loc,S,L,P⟩) h
theorem mt{a b c:Ex}{op:CmpOp}(h:tE X.K (run g (.chain op op' a b c)) σ H Q):nN (rD X.K (bQ op)) (rD X.K (bQ op')) (tE X.K (run g a)) (tE X.K (run g b)) (tE X.K (run g c)) σ H Q:=by
 obtain⟨ι,st,loc,S,L,P⟩:=h
 rw[run] at P
 obtain⟨x,st1,e1,P⟩:=a_ P
 obtain⟨y,st2,e2,P⟩:=a_ P
 obtain⟨z,st3,e3,P⟩:=a_ P
 obtain⟨k,st4,e4,P⟩:=a_ P
 obtain⟨e5,rfl⟩:=bA e4
 have:=bR e5
 subst this
 refine bi S L e1 fun H1 ι1 vx E1 S1 r1=>bi S1 (L.ext E1) e2 fun H2 ι2 vy E2 S2 r2=>⟨ι2,st2,x,y,S2,r1.ext E2,r2,?_⟩
 rw[e3]
 intro H3 ι3 vz E3 S3 r3
 cases r3
 refine⟨k,rfl,?_⟩
 have E:=(E1.trans E2).trans E3
 cases k with
 |true=>
  rw[if_pos rfl]
  obtain⟨w,st5,e5,P⟩:=a_ (show cv X.K H ι st (ba (run g c loc) (fun w=>bQ op' y w) st4) Q from P)
  exact bi S3 (L.ext E) e5 fun H5 ι5 vw E5 S5 r5=>⟨ι5,st5,y,w,S5,(r2.ext E3).ext E5,r5,P.mono (E.trans E5)⟩
 |false=>
  rw[if_neg av]
  exact(P.mono E).same S3 (.bl false)
theorem wE(hu:X.A.units+100<cLine){a' b' c':Ex}{op:CmpOp}(hm:behindInMarks op' c=false)(ha:PE X a (tE X.K (run g a')))(hb:PE X b (tE X.K (run g b')))(hc:PE X c (tE X.K (run g c'))):PE X (.Compare a [op,op'] [b,c] pos) (tE X.K (run g (.chain op op' a' b' c'))):=
 (sV (iA hu op) (iA hu op') ha hb hc hm).imp fun σ H Q h=>mt h
theorem u9(hu:X.A.units+100<cLine){a' b' c':Ex}{op:CmpOp}(hm:behindInMarks op' c=false)(ha:PE X a (tE X.K (run g a')))(hb:PE X b (tE X.K (run g b')))(hc:PE X c (tE X.K (run g c'))):PT X (.Compare a [op,op'] [b,c] pos) (tT X.K (run g (.chain op op' a' b' c'))):=
 (sH (iA hu op) (iA hu op') ha hb hc hm).imp fun σ H Q h=>pi (fun Q' h'=>mt h') h
theorem Cc{a' b':Ex}(hu:X.A.units+100<cLine)(hs:gW b=true)(ha:PE X a (tE X.K (run g a')))(hb:PE X b (tE X.K (run g b'))):PE X (.Subscript a b pos) (tE X.K (run g (.ix a' b'))):=
 (AB (B3 hu) ha hb (fun o i=>by cases b<;>first|rfl|cases hs)).imp fun σ H Q hp=>by
  obtain⟨ι,st,loc,S,L,P⟩:=hp
  rw[run] at P
  exact pC ⟨ι,st,loc,S,L,P⟩
theorem yY{lo hi:Option Expr}{a' l' h':Ex}{hl hh:Bool}{tl th:TO}(ha:PE X a (tE X.K (run g a')))(hlo:PO X lo tl)(hhi:PO X hi th)
  (kl:∀{H:Hp}{ι:Nat→Addr}{st st1:aS}{loc:Loc}{σ:L2.St}{o:Option Int}{Q:Option Int→Hp→Prop},Sim X.K H ι st→LRel X.K H ι st.length loc σ→(if hl=true then ba (run g l' loc) fun z=>ba (dU (iF z)) fun i=>ret (some i) else ret none) st=R.ok o st1→
   (∀H1 ι1,Ext H H1 ι ι1 st.length st1.length→Sim X.K H1 ι1 st1→Q o H1)→tl σ H Q)
  (kh:∀{H:Hp}{ι:Nat→Addr}{st st1:aS}{loc:Loc}{σ:L2.St}{o:Option Int}{Q:Option Int→Hp→Prop},Sim X.K H ι st→LRel X.K H ι st.length loc σ→(if hh=true then ba (run g h' loc) fun z=>ba (dU (iF z)) fun i=>ret (some i) else ret none) st=R.ok o st1→
   (∀H1 ι1,Ext H H1 ι ι1 st.length st1.length→Sim X.K H1 ι1 st1→Q o H1)→th σ H Q):PE X (.Subscript a (.Slice lo hi none p2) pos) (tE X.K (run g (.sl a' l' h' hl hh))):=
 (sR BN ha hlo hhi).imp fun σ H Q hp=>by
  obtain⟨ι,st,loc,S,L,P⟩:=hp
  rw[run] at P
  obtain⟨x,st1,e1,P⟩:=a_ P
  obtain⟨ol,st2,e2,P⟩:=a_ P
  obtain⟨oh,st3,e3,P⟩:=a_ P
  refine bi S L e1 fun H1 ι1 vx E1 S1 r1=>kl S1 (L.ext E1) e2 fun H2 ι2 E2 S2=>kh S2 ((L.ext E1).ext E2) e3 fun H3 ι3 E3 S3=>⟨ι3,st3,x,S3,(r1.ext E2).ext E3,P.mono ((E1.trans E2).trans E3)⟩
theorem pL{l':Ex}{st st1:aS}{loc:Loc}{o:Option Int}{Q:Option Int→Hp→Prop}(S:Sim X.K H ι st)(L:LRel X.K H ι st.length loc σ)(e:(if false=true then ba (run g l' loc) fun z=>ba (dU (iF z)) fun i=>ret (some i) else ret none) st=R.ok o st1)
  (k:∀H1 ι1,Ext H H1 ι ι1 st.length st1.length→Sim X.K H1 ι1 st1→Q o H1):pj σ H Q:=by
 rw[if_neg av] at e
 cases e
 exact k H ι (Ext.refl _ _ _) S
theorem gY{l':Ex}{st st1:aS}{loc:Loc}{o:Option Int}{Q:Option Int→Hp→Prop}(S:Sim X.K H ι st)(L:LRel X.K H ι st.length loc σ)(e:(if true=true then ba (run g l' loc) fun z=>ba (dU (iF z)) fun i=>ret (some i) else ret none) st=R.ok o st1)
  (k:∀H1 ι1,Ext H H1 ι ι1 st.length st1.length→Sim X.K H1 ι1 st1→Q o H1):wR (tE X.K (run g l')) σ H Q:=by
 rw[if_pos rfl] at e
 simp only[ba,ret] at e
 cases e1:run g l' loc st with
 |bad=>rw[e1] at e;cases e
 |ok z st2=>
  rw[e1] at e
  simp only[dU] at e
  cases e2:iF z with
  |none=>rw[e2] at e;cases e
  |some i=>
   rw[e2] at e
   cases e
   have:=mO e2
   subst this
   exact bi S L e1 fun H1 ι1 v E1 S1 r1=>by cases r1;exact⟨i,rfl,k H1 ι1 E1 S1⟩
theorem A0{c' a' b':Ex}(hc:PT X c (tT X.K (run g c')))(ha:PE X a (tE X.K (run g a')))(hb:PE X b (tE X.K (run g b'))):PE X (.IfExp c a b pos) (tE X.K (run g (.ite c' a' b'))):=
 (sT hc ha hb).imp fun σ H Q hp=>by
  obtain⟨ι,st,loc,S,L,P⟩:=hp
  rw[run] at P
  obtain⟨x,st1,e1,P⟩:=a_ P
  obtain⟨i,st2,e2,P⟩:=a_ P
  obtain⟨e3,rfl⟩:=bA e2
  have:=bR e3
  subst this
  refine iL S L e1 fun H1 ι1 E1 S1=>?_
  cases i with
  |true=>rw[if_pos rfl];exact⟨ι1,st2,loc,S1,L.ext E1,P.mono E1⟩
  |false=>rw[if_neg av];exact⟨ι1,st2,loc,S1,L.ext E1,P.mono E1⟩
theorem Ce{as:List Expr}{xs:List Ex}(C:Ctx T g X sc N)(hg:bc sc f=true)(hi:dX T.fns f=some i)(ha:PA X (a::as) (tA X.K (runs g xs)))(hl:(a::as).length=xs.length)
  (he:starEach (a::as) X.env=(false,eval a X.env)::starEach as X.env)(hpl:(backTo pos (starEach as X.env)).any (·.1)=false):PE X (.Call (.Name f p2) (a::as) [] pos) (tE X.K (run g (.fn i xs))):=by
 obtain⟨hd,ad,fd,ps,k,hm,kp,hb,hr,har,F⟩:=C.fns i f (b_ hi)
 have hgl:Gl X f:=by
  show X.env.scope.names.lookup f=some .globalImplicit
  rw[C.sc]
  simpa[bc] using hg
 refine(v7 F hr hgl hm kp hb .nil sX ha hd he hpl).imp fun σ H Q hp=>?_
 obtain⟨ι,st,loc,S,L,P⟩:=hp
 rw[run] at P
 obtain⟨ds,st1,e1,P⟩:=a_ P
 refine gw S L e1 fun H1 ι1 vs E1 S1 r1=>?_
 rw[List.append_nil]
 refine⟨?_,ι1,st1,ds,S1,r1,(dE.val P).mono E1⟩
 by_cases hps:ds.length=ps.length
 ·rw[←r1.length];exact hps
 ·have P2:=dE.val (E:=E0) P
  rw[har ds st1 hps] at P2;exact P2.elim
theorem Cf{b:Bt}{as:List Expr}{xs:List Ex}(C:Ctx T g X sc N)(hcm:T.calm=true)(hg:bc sc f=true)(hb:zg.lookup f=some b)(ha:PA X (a::as) (tA X.K (runs g xs)))
  (he:starEach (a::as) X.env=(false,eval a X.env)::starEach as X.env)(hpl:(backTo pos (starEach as X.env)).any (·.1)=false):PE X (.Call (.Name f p2) (a::as) [] pos) (tE X.K (run g (.bt b xs))):=by
 have hgl:Gl X f:=by
  show X.env.scope.names.lookup f=some .globalImplicit
  rw[C.sc]
  simpa[bc] using hg
 have hbl:∀x:Str,x∈re→X.mg x=none:=C.blt
 have key:PE X (.Call (.Name f p2) (a::as) [] pos) (BK (rB X.K b) (tA X.K (runs g xs))):=by
  have hmem:=aD hb
  have cc:fG X b.val (rB X.K b):=zf (C.calm hcm) b
  simp only[zg,List.mem_cons,List.mem_nil_iff,Prod.mk.injEq,or_false] at hmem
  rcases hmem with⟨rfl,rfl⟩|⟨rfl,rfl⟩|⟨rfl,rfl⟩|⟨rfl,rfl⟩|⟨rfl,rfl⟩|⟨rfl,rfl⟩
  ·exact eT cc hgl (hbl _ (by decide+kernel)) PySem.boot_len ha (by decide+kernel) (by decide+kernel) he hpl
  all_goals first
   |exact qD cc hgl (hbl _ (by decide+kernel)) (by decide+kernel) ha (by decide+kernel) (by decide+kernel) he hpl
   |exact eT cc hgl (hbl _ (by decide+kernel)) (by decide+kernel) ha (by decide+kernel) (by decide+kernel) he hpl
 refine key.imp fun σ H Q hp=>?_
 obtain⟨ι,st,loc,S,L,P⟩:=hp
 rw[run] at P
 obtain⟨ds,st1,e1,P⟩:=a_ P
 exact gw S L e1 fun H1 ι1 vs E1 S1 r1=>⟨ι1,st1,ds,S1,r1,P.mono E1⟩
theorem u7{ty:Ty}(h:u8.lookup t=some ty):bootBuiltins t=some (.type ty.name)∧t≠ "__name__" ∧(t==("__debug__":Str))=false∧t∈re:=by
 have hmem:=aD h
 simp only[u8,List.mem_cons,List.mem_nil_iff,Prod.mk.injEq,or_false] at hmem
 rcases hmem with⟨rfl,rfl⟩|⟨rfl,rfl⟩|⟨rfl,rfl⟩|⟨rfl,rfl⟩<;>exact⟨by decide+kernel,by decide+kernel,by decide+kernel,by decide+kernel⟩
theorem A2{ty:Ty}{a':Ex}(C:Ctx T g X sc N)(hg:bc sc "isinstance"=true)(hgt:bc sc t=true)(ht:u8.lookup t=some ty)(ha:PE X a (tE X.K (run g a')))
  (he:starEach [a,.Name t p3] X.env=(false,eval a X.env)::starEach [.Name t p3] X.env):PE X (.Call (.Name "isinstance" p2) [a,.Name t p3] [] pos) (tE X.K (run g (.isi a' ty))):=by
 have gl:∀{x:Str},bc sc x=true→Gl X x:=fun{x} h=>by
  show X.env.scope.names.lookup x=some .globalImplicit
  rw[C.sc]
  simpa[bc] using h
 obtain⟨b1,b2,b3,b4⟩:=u7 ht
 have cc:fG X (.builtin "isinstance") (fun vs H Q=>∃ι st d v k,vs=[v,.ty ty.name]∧Sim X.K H ι st∧VRel X.K H ι st.length d v∧cb st ty d=some k∧Q (.bl k) H):=by
  intro pins s σ H vs us Q I r h
  obtain⟨ι,st,d,v,k,rfl,S,rv,e,q⟩:=h
  cases r with
  |cons r1 r2=>
   cases r2 with
   |cons r2 r3=>
    cases r3
    cases r2
    exact yN I S rv r1 e q
 have ht':PE X (.Name t p3) (tC (.ty ty.name)):=pK (gl hgt) (C.blt t b4) b1 rfl b2 b3
 refine(eT cc (gl hg) (C.blt _ (by decide+kernel)) (by decide+kernel) (bG ha (bG ht' dA) he) (by decide+kernel) (by decide+kernel) he rfl).imp fun σ H Q hp=>?_
 obtain⟨ι,st,loc,S,L,P⟩:=hp
 rw[run] at P
 obtain⟨x,st1,e1,P⟩:=a_ P
 refine bi S L e1 fun H1 ι1 v E1 S1 r1=>?_
 cases e2:cb st1 ty x with
 |none=>rw[e2] at P;exact P.elim
 |some k=>
  rw[e2] at P
  exact⟨ι1,st1,x,v,k,rfl,S1,r1,e2,(P.mono E1).same S1 (.bl k)⟩
end
set_option maxHeartbeats 8000000
section
variable{T:Tab}{g:c_}{X:Cx}{sc:Scope}{N:List Str}{pos px:Pos}
theorem c9(C:Ctx T g X sc N)(h:dC sc scope N x=true):CompScope X x scope∧x∉X.N∧(x==("__debug__":Str))=false∧(x==("__classdict__":Str))=false:=by
 unfold dC at h
 simp only[Bool.and_eq_true,List.all_eq_true] at h
 obtain⟨⟨⟨⟨⟨h1,h2⟩,h3⟩,h4⟩,h5⟩,h6⟩:=h
 have hx:x∉N:=by simpa using h3
 refine⟨⟨by simpa using h1,fun y hy=>?_,fun y hy hl=>?_,by simpa using h2,fun y hy hf=>?_,fun y hy hl=>?_⟩,by rw[C.n];exact hx,by simpa using h4,by simpa using h5⟩
 ·obtain⟨⟨a,b⟩,c⟩:=h6 y hy
  simpa using a
 ·obtain⟨⟨a,b⟩,c⟩:=h6 y hy
  rw[hl] at b
  simp at b
  exact b.1
 ·obtain⟨⟨a,b⟩,c⟩:=h6 y hy
  rw[hf] at c
  have c':sc.names.lookup y.1=some .cell∨sc.names.lookup y.1=some .free:=by simpa using c
  show X.env.scope.names.lookup y.1=_∨X.env.scope.names.lookup y.1=_
  rw[C.sc]
  exact c'
 ·obtain⟨⟨a,b⟩,c⟩:=h6 y hy
  rw[hl] at b
  simp at b
  rw[C.n]
  exact b.2
theorem nb(C:Ctx T g X sc N)(h:dC sc scope N x=true)(fp:List Addr)(s:Shared)(H:Hp):Ctx T g (bw X x scope fp s H) (iy sc scope) (x::N):=by
 obtain⟨h1,h2,h3,h4⟩:=c9 C h
 refine⟨?_,?_,List.nodup_cons.mpr ⟨by rw[←C.n];exact h2,C.nd⟩,fun y hy=>?_,C.calm,C.un,C.fns,C.csts,C.blt,C.cats,C.cls,C.ini,C.icl,C.icats,C.mks,C.ums⟩
 ·show relabel scope X.env=iy sc scope
  rw[←C.sc]
  rfl
 ·show x::X.N=x::N
  rw[C.n]
 ·rcases List.mem_cons.mp hy with rfl|hy
  ·exact⟨h3,h4⟩
  ·exact C.nm y hy
theorem kE{K:ao}{e:Ex}:EltOk K xq (tE K (run g e)) (fun loc x=>ba (run g e (some x::loc)) fun y=>ret (some y)) where
 turn:=fun{H ι st st1 loc σ x v o Q} S L rv e1 k=>by
  unfold xq
  refine B4 ?_
  simp only[ba,ret] at e1
  cases e2:run g e (some x::loc) st with
  |bad=>rw[e2] at e1;cases e1
  |ok y st2=>
   rw[e2] at e1
   cases e1
   exact bi S (L.cons rv) e2 fun H1 ι1 w E1 S1 r1=>k H1 ι1 (some w) E1 S1 r1
theorem vc{s':Ex}{k:Loc→Src→M D}(h:tE X.K (fun loc=>ba (run g s' loc) fun d=>ba (dU (fe false d)) fun s=>k loc s) σ H Q)
  (hk:∀{J:It}{s:Src}{ι ι1:Nat→Addr}{st st1:aS}{loc:Loc}{H1:Hp},fc X.K J s H1 ι1 st1.length→Ext H H1 ι ι1 st.length st1.length→Sim X.K H1 ι1 st1→LRel X.K H1 ι1 st1.length loc σ→cv X.K H ι st (k loc s st1) Q→RR J H1)
  (hbad:∀loc n st,(∀xs,st[n]?≠some (.lst xs))→k loc (.at n) st=.bad):AO X.K (tE X.K (run g s')) σ H RR:=by
 obtain⟨ι,st,loc,S,L,P⟩:=h
 obtain⟨d,st1,e1,P⟩:=a_ P
 obtain⟨s,st2,e2,P⟩:=a_ P
 obtain⟨e3,rfl⟩:=bA e2
 refine bi S L e1 fun H1 ι1 v E1 S1 r1=>?_
 cases r1 with
 |tup h r=>cases e3;exact⟨_,rfl,.inr ⟨⟨_,h⟩,hk (fc.tup h r) E1 S1 (L.ext E1) P⟩⟩
 |fl h r=>cases e3;exact⟨_,rfl,.inl ⟨⟨_,h.sql⟩,hk (fc.fl h r) E1 S1 (L.ext E1) P⟩⟩
 | @ref n hn=>
  cases e3
  cases q:st2[n]? with
  |none=>
   rw[hbad loc n st2 (fun xs z=>by rw[q] at z;cases z)] at P
   exact P.elim
  |some o=>
   cases o with
   |lst xs=>
    obtain⟨vs,h1,_⟩:=S1.ob n _ q
    exact⟨_,rfl,.inl ⟨⟨vs,dz.of h1⟩,hk (fc.ref hn) E1 S1 (L.ext E1) P⟩⟩
   |_=>
    rw[hbad loc n st2 (fun xs z=>by rw[q] at z;cases z)] at P
    exact P.elim
 |_=>cases e3
theorem vd{s':Ex}{k:Loc→Src→M D}(h:tE X.K (fun loc=>ba (run g s' loc) fun d=>ba (dU (fe true d)) fun s=>k loc s) σ H Q)
  (hk:∀{J:It}{s:Src}{ι ι1:Nat→Addr}{st st1:aS}{loc:Loc}{H1:Hp},fc X.K J s H1 ι1 st1.length→Ext H H1 ι ι1 st.length st1.length→Sim X.K H1 ι1 st1→LRel X.K H1 ι1 st1.length loc σ→cv X.K H ι st (k loc s st1) Q→RR J H1):
  w5 (mj (tE X.K (run g s')) nM) σ H RR:=by
 obtain⟨ι,st,loc,S,L,P⟩:=h
 obtain⟨d,st1,e1,P⟩:=a_ P
 obtain⟨s,st2,e2,P⟩:=a_ P
 obtain⟨e3,rfl⟩:=bA e2
 refine bi S L e1 fun H1 ι1 v E1 S1 r1=>?_
 cases r1 with
 |int j=>
  simp only[fe] at e3
  split at e3
  ·rename_i hj
   cases e3
   exact⟨j,rfl,by omega,by omega,hk fc.rng E1 S1 (L.ext E1) P⟩
  ·cases e3
 |_=>cases e3
theorem pN{st:aS}(h:∀xs,st[n]?≠some (.lst xs)):gR (.at n) i st=none:=by
 unfold gR
 show(match st[n]? with|some (.lst xs)=>some xs[i]?|_=>none)=none
 cases q:st[n]? with
 |none=>rfl
 |some o=>
  cases o with
  |lst xs=>exact absurd q (h xs)
  |_=>rfl
theorem uu{f:D→M (Option D)}(n:Nat)(st:aS)(h:∀xs,st[n]?≠some (.lst xs)):cf f (.at n) st=.bad:=by
 unfold cf
 split
 ·simp only[ba,c6,pN h]
 ·rfl
noncomputable def gF(g:c_)(X:Cx)(x:Str)(px:Pos)(iter:Expr)(ifs:List Expr)(elt:Expr)(scope:Scope)(y:Ex):Prop:=
 ∃wi tc te,PI X (.Name x px) iter wi∧(∀fp s H,uH (bw X x scope fp s H) ifs tc)∧(∀fp s H,PE (bw X x scope fp s H) elt te)∧(∀v,foldedSetIterable iter X.env v=pure v)∧∀σ H Q,tE X.K (run g y) σ H Q→pp wi tc te σ H Q
theorem gF.pe{y:Ex}(C:Ctx T g X sc N)(hcm:T.calm=true)(hc:dC sc scope N x=true)(h:gF g X x px iter ifs elt scope y):PE X (.ListComp elt [⟨.Name x px,iter,ifs,0⟩] scope pos) (tE X.K (run g y)):=by
 obtain⟨wi,tc,te,a,b,c,d,e⟩:=h
 obtain⟨h1,h2,_,_⟩:=c9 C hc
 exact(pJ (C.calm hcm) h1 h2 (by rw[C.n];exact C.nd) a b c d).imp e
theorem gF.ps{z:Str}{y:Ex}{py:Pos}(C:Ctx T g X sc N)(hcm:T.calm=true)(hc:dC sc scope N x=true)(h:gF g X x px iter ifs elt scope y)(hz:X.N[i]? =some z)(hl:L2.Loc X.env.scope z)(hf:X.fn z=true∨X.env.scope.names.lookup z=some .local):
  PS X (.Assign [.Name z py] (.ListComp elt [⟨.Name x px,iter,ifs,0⟩] scope pos) spos) (qr (tE X.K (run g y)) (eW i)):=by
 obtain⟨wi,tc,te,a,b,c,d,e⟩:=h
 obtain⟨h1,h2,_,_⟩:=c9 C hc
 exact fun pins s σ H D I q=>oa (C.calm hcm) h1 h2 (by rw[C.n];exact C.nd) a b c d hz hl hf pins s σ H D I (e _ _ _ q)
variable{x:Str}{elt it:Expr}{scope:Scope}{s' e':Ex}
theorem y8(C:Ctx T g X sc N)(hc:dC sc scope N x=true)(hs:PE X it (tE X.K (run g s')))(he:∀fp s H,PE (bw X x scope fp s H) elt (tE X.K (run g e')))(hf:∀v,foldedSetIterable it X.env v=pure v):
  gF g X x px it [] elt scope (.comp false s' e'):=by
 refine⟨_,_,_,sO hs,fun _ _ _=>lr,he,hf,fun σ H Q hp=>?_⟩
 obtain⟨ι,st,loc,S,L,P⟩:=hp
 rw[run] at P
 exact vc (k:=fun loc s=>cf (fun x=>ba (run g e' (some x::loc)) fun y=>ret (some y)) s) ⟨ι,st,loc,S,L,P⟩ (fun{J s ι ι1 st st1 loc H1} F E S1 L1 P1=>hZ (loc:=loc) (f:=fun loc x=>ba (run g e' (some x::loc)) fun y=>ret (some y)) kE F E S1 L1 P1) (fun _=>uu)
variable{a:Expr}{p3 p4:Pos}
theorem wC(C:Ctx T g X sc N)(hc:dC sc scope N x=true)(hg:bc sc "range"=true)(hst:starEach [a] X.env=[(false,eval a X.env)])(hs:PE X a (tE X.K (run g s')))(he:∀fp s H,PE (bw X x scope fp s H) elt (tE X.K (run g e'))):
  gF g X x px (.Call (.Name "range" p3) [a] [] p4) [] elt scope (.comp true s' e'):=by
 have hgl:Gl X "range":=by
  show X.env.scope.names.lookup _=some .globalImplicit
  rw[C.sc]
  simpa[bc] using hg
 refine⟨_,_,_,qB hgl (C.blt _ (by decide+kernel)) (bG hs dA hst) hst,fun _ _ _=>lr,he,fun _=>rfl,fun σ H Q hp=>?_⟩
 obtain⟨ι,st,loc,S,L,P⟩:=hp
 rw[run] at P
 exact vd (k:=fun loc s=>cf (fun x=>ba (run g e' (some x::loc)) fun y=>ret (some y)) s) ⟨ι,st,loc,S,L,P⟩ (fun{J s ι ι1 st st1 loc H1} F E S1 L1 P1=>hZ (loc:=loc) (f:=fun loc x=>ba (run g e' (some x::loc)) fun y=>ret (some y)) kE F E S1 L1 P1)
end
theorem ib{T:Tab}{sc:Scope}{x:Ex}(h:cE T n sc N b=some x)(op:CmpOp):behindInMarks op b=false:=by
 cases n with
 |zero=>cases h
 |succ n=>cases b<;>first|rfl|cases h
theorem qe{T:Tab}{sc:Scope}{x:Ex}(h:cE T n sc N b=some x)(env:Env)(v:Value):foldedSetIterable b env v=pure v:=by
 cases n with
 |zero=>cases h
 |succ n=>cases b<;>first|rfl|cases h
theorem cj{T:Tab}{sc:Scope}{x:Ex}(h:cE T n sc N b=some x)(es:List Expr)(env:Env):starEach (b::es) env=(false,eval b env)::starEach es env:=by
 cases n with
 |zero=>cases h
 |succ n=>cases b<;>first|rfl|cases h
section
variable{T:Tab}{g:c_}{X:Cx}{sc scope:Scope}{N:List Str}{pos px py pt p3 p4:Pos}{x y:Str}
theorem eG(h:dm sc scope N x y=true):dC sc scope N x=true∧scope.names.lookup y=some .local∧y∉N∧x≠y∧(y==("__debug__":Str))=false∧(y==("__classdict__":Str))=false:=by
 unfold dm at h
 simp only[Bool.and_eq_true] at h
 obtain⟨⟨⟨⟨⟨h1,h2⟩,h3⟩,h4⟩,h5⟩,h6⟩:=h
 exact⟨h1,by simpa using h2,by simpa using h3,by simpa using h4,by simpa using h5,by simpa using h6⟩
theorem gm(C:Ctx T g X sc N)(h:dm sc scope N x y=true)(fp:List Addr)(s:Shared)(H:Hp):Ctx T g (bh X x y scope fp s H) (iy sc scope) (x::y::N):=by
 obtain⟨h1,h2,h3,h4,h5,h6⟩:=eG h
 have C1:=nb C h1 fp s H
 have nx:x∉N:=(List.nodup_cons.mp C1.nd).1
 refine⟨C1.sc,?_,?_,fun z hz=>?_,C1.calm,C1.un,C1.fns,C1.csts,C1.blt,C1.cats,C1.cls,C1.ini,C1.icl,C1.icats,C1.mks,C1.ums⟩
 ·show x::y::X.N=x::y::N
  rw[C.n]
 ·refine List.nodup_cons.mpr ⟨fun z=>?_,List.nodup_cons.mpr ⟨h3,C.nd⟩⟩
  rcases List.mem_cons.mp z with z|z
  ·exact h4 z
  ·exact nx z
 ·rcases List.mem_cons.mp hz with rfl|hz
  ·exact C1.nm _ List.mem_cons_self
  ·rcases List.mem_cons.mp hz with rfl|hz
   ·exact⟨h5,h6⟩
   ·exact C.nm z hz
theorem yX{f:D→M (Option D)}(n:Nat)(st:aS)(h:∀xs,st[n]?≠some (.lst xs)):cf f (.en n) st=.bad:=by
 have hb:∀i,gR (.en n) i st=none:=fun i=>by
  unfold gR
  show(match st[n]? with|some (.lst xs)=>some (xs[i]?.map fun x=>D.tup [.int (i:Int),x])|_=>none)=none
  cases q:st[n]? with
  |none=>rfl
  |some o=>
   cases o with
   |lst xs=>exact absurd q (h xs)
   |_=>rfl
 unfold cf
 split
 ·simp only[ba,c6,hb]
 ·rfl
noncomputable def fA(g:c_)(X:Cx)(x y:Str)(px py:Pos)(k:Nat)(pt:Pos)(iter:Expr)(ifs:List Expr)(elt:Expr)(scope:Scope)(z:Ex):Prop:=
 ∃wi gg tc te,PI X (.Tuple [.Name x px,.Name y py] k pt) iter wi∧(∀fp s H,PG (bh X x y scope fp s H) (.Tuple [.Name x px,.Name y py] k pt) gg)∧(∀fp s H,uH (bh X x y scope fp s H) ifs tc)∧(∀fp s H,PE (bh X x y scope fp s H) elt te)∧(∀v,foldedSetIterable iter X.env v=pure v)∧∀σ H Q,tE X.K (run g z) σ H Q→i7 wi gg tc te σ H Q
theorem fA.pe{k:Nat}{z:Ex}(C:Ctx T g X sc N)(hcm:T.calm=true)(hc:dm sc scope N x y=true)(h:fA g X x y px py k pt iter ifs elt scope z):PE X (.ListComp elt [⟨.Tuple [.Name x px,.Name y py] k pt,iter,ifs,0⟩] scope pos) (tE X.K (run g z)):=by
 obtain⟨wi,gg,tc,te,a,b,c,d,e,f⟩:=h
 obtain⟨h1,h2,_,_⟩:=c9 C (eG hc).1
 exact(kn (C.calm hcm) h1 h2 a b c d e).imp f
theorem fA.ps{k:Nat}{z:Ex}{nm:Str}{pn:Pos}(C:Ctx T g X sc N)(hcm:T.calm=true)(hc:dm sc scope N x y=true)(h:fA g X x y px py k pt iter ifs elt scope z)(hz:X.N[i]? =some nm)(hl:L2.Loc X.env.scope nm)(hf:X.fn nm=true∨X.env.scope.names.lookup nm=some .local):
  PS X (.Assign [.Name nm pn] (.ListComp elt [⟨.Tuple [.Name x px,.Name y py] k pt,iter,ifs,0⟩] scope pos) spos) (qr (tE X.K (run g z)) (eW i)):=by
 obtain⟨wi,gg,tc,te,a,b,c,d,e,f⟩:=h
 obtain⟨h1,h2,_,_⟩:=c9 C (eG hc).1
 exact fun pins s σ H D I q=>my (C.calm hcm) h1 h2 (by rw[C.n];exact C.nd) a b c d e hz hl hf pins s σ H D I (f _ _ _ q)
theorem xu{a':Ex}{k:Loc→Src→M D}(h:tE X.K (fun loc=>ba (run g a' loc) fun d=>ba (dU (jQ d)) fun s=>k loc s) σ H Q)
  (hk:∀{J:It}{s:Src}{ι ι1:Nat→Addr}{st st1:aS}{loc:Loc}{H1:Hp},d3 X.K J s H1 ι1 st1.length→Ext H H1 ι ι1 st.length st1.length→Sim X.K H1 ι1 st1→LRel X.K H1 ι1 st1.length loc σ→cv X.K H ι st (k loc s st1) Q→RR J H1)
  (hbad:∀loc n st,(∀xs,st[n]?≠some (.lst xs))→k loc (.en n) st=.bad):tP X.K (mj (tE X.K (run g a')) nM) σ H RR:=by
 obtain⟨ι,st,loc,S,L,P⟩:=h
 obtain⟨d,st1,e1,P⟩:=a_ P
 obtain⟨s,st2,e2,P⟩:=a_ P
 obtain⟨e3,rfl⟩:=bA e2
 refine bi S L e1 fun H1 ι1 v E1 S1 r1=>?_
 have r1':=r1
 cases r1 with
 | @ref n hn=>
  cases e3
  cases q:st2[n]? with
  |none=>rw[hbad loc n st2 (fun xs z=>by rw[q] at z;cases z)] at P;exact P.elim
  |some o=>
   cases o with
   |lst xs=>
    obtain⟨vs,h1,_⟩:=S1.ob n _ q
    exact⟨_,rfl,.inl ⟨⟨vs,dz.of h1⟩,hk (d3.en hn) E1 S1 (L.ext E1) P⟩⟩
   |_=>rw[hbad loc n st2 (fun xs z=>by rw[q] at z;cases z)] at P;exact P.elim
 |tup hq r=>cases e3;exact⟨_,rfl,.inr ⟨⟨_,hq⟩,hk (d3.enT r1') E1 S1 (L.ext E1) P⟩⟩
 |_=>cases e3
theorem p7{k:Nat}{a' z:Ex}{tc:TT}{te:TE}{B:Loc→M (Option D)}(C:Ctx T g X sc N)(hcm:T.calm=true)(hc:dm sc scope N x y=true)(hg:bc sc "enumerate"=true)(hst:starEach [a] X.env=[(false,eval a X.env)])(hs:PE X a (tE X.K (run g a')))
  (ht:∀fp s H,uH (bh X x y scope fp s H) ifs tc)(he:∀fp s H,PE (bh X x y scope fp s H) elt te)
  (hz:∀loc,run g z loc=ba (run g a' loc) fun d=>ba (dU (jQ d)) fun s=>cf (fun x=>match x with| .tup [a,b]=>B (some a::some b::loc)|_=>stuck) s)
  (hB:∀{H:Hp}{ι:Nat→Addr}{st st1:aS}{loc:Loc}{σ:L2.St}{o:Option D}{Q:Option V→Hp→Prop},Sim X.K H ι st→LRel X.K H ι st.length loc σ→B loc st=.ok o st1→
   (∀H1 ι1 w,Ext H H1 ι ι1 st.length st1.length→Sim X.K H1 ι1 st1→(match o,w with|some y,some z=>VRel X.K H1 ι1 st1.length y z|none,none=>True|_,_=>False)→Q w H1)→tc σ H fun b H5=>if b=true then te σ H5 fun y H4=>Q (some y) H4 else Q none H5):
  fA g X x y px py k pt (.Call (.Name "enumerate" p3) [a] [] p4) ifs elt scope z:=by
 have hgl:Gl X "enumerate":=by
  show X.env.scope.names.lookup _=some .globalImplicit
  rw[C.sc]
  simpa[bc] using hg
 obtain⟨h1,h2,h3,h4,h5,h6⟩:=eG hc
 obtain⟨c1,c2,_,_⟩:=c9 C h1
 have lx:(relabel scope X.env).names.lookup x=some .local:=lookup_relabel_local c1.own
 have ly:(relabel scope X.env).names.lookup y=some .local:=lookup_relabel_local h2
 have nd:(x::y::X.N).Nodup:=by
  have:=(gm C hc [] X.s₀ (fun _=>none)).nd
  rw[C.n];exact this
 refine⟨_,yS X.K 2 (ky (eW 0) (ky (eW 1) wr)),_,_,mC hgl (C.blt _ (by decide+kernel)) (bG hs dA hst) hst,
  (fun fp s H=>yf (X:=bh X x y scope fp s H) (C.calm hcm) (jy (jb (i:=0) nd rfl (.inl lx) (.inr lx)) (jy (jb (i:=1) nd rfl (.inl ly) (.inr ly)) pI))),ht,he,fun _=>rfl,fun σ H Q ⟨ι,st,loc,S,L,P⟩=>?_⟩
 rw[hz] at P
 refine xu (k:=fun loc s=>cf (fun x=>match x with| .tup [a,b]=>B (some a::some b::loc)|_=>stuck) s) ⟨ι,st,loc,S,L,P⟩ (fun{J s ι ι1 st st1 loc H1} F E S1 L1 P1=>?_) (fun _=>yX)
 refine ng (tt:=fun v H' K=>∀o1 o2:Option V,yS X.K 2 (ky (eW 0) (ky (eW 1) wr)) v (o1::o2::σ) H' fun σ2 H3=>(∃p1 p2,σ2=p1::p2::σ)∧tc σ2 H3 fun b H5=>if b=true then te σ2 H5 fun y H4=>K (some y) H4 else K none H5) ⟨?_⟩ F E S1 P1
 intro H2 ι2 st3 st4 z v o K E2 S2 rv ee k o1 o2
 split at ee
 ·cases rv with
  |tup hq rr=>
   cases rr with
   |cons ra rr=>
    cases rr with
    |cons rb rr=>
     cases rr
     exact⟨_,_,rfl,hq,rfl,_,_,rfl,_,_,rfl,rfl,⟨_,_,rfl⟩,hB S2 (((L1.ext E2).cons rb).cons ra) ee k⟩
 ·cases ee
theorem mi{st st1:aS}{loc:Loc}{o:Option D}{Q:Option V→Hp→Prop}{e':Ex}(S:Sim X.K H ι st)(L:LRel X.K H ι st.length loc σ)(k:∀H1 ι1 w,Ext H H1 ι ι1 st.length st1.length→Sim X.K H1 ι1 st1→(match o,w with|some y,some z=>VRel X.K H1 ι1 st1.length y z|none,none=>True|_,_=>False)→Q w H1)(ee:ba (run g e' loc) (fun y=>ret (some y)) st=.ok o st1):tE X.K (run g e') σ H fun y H4=>Q (some y) H4:=by
 cases e5:run g e' loc st with
 |bad=>simp only[ba,e5] at ee;cases ee
 |ok w st5=>
  simp only[ba,ret,e5] at ee
  cases ee
  exact bi S L e5 fun H5 ι5 w E5 S5 r5=>k H5 ι5 (some w) E5 S5 r5
theorem wD{k:Nat}{a' e':Ex}(C:Ctx T g X sc N)(hcm:T.calm=true)(hc:dm sc scope N x y=true)(hg:bc sc "enumerate"=true)(hst:starEach [a] X.env=[(false,eval a X.env)])(hs:PE X a (tE X.K (run g a')))(he:∀fp s H,PE (bh X x y scope fp s H) elt (tE X.K (run g e'))):
  fA g X x y px py k pt (.Call (.Name "enumerate" p3) [a] [] p4) [] elt scope (.compE a' e'):=
 p7 C hcm hc hg hst hs (fun _ _ _=>lr) he (B:=fun loc=>ba (run g e' loc) fun y=>ret (some y)) (fun _=>by rw[run]<;>rfl) fun{H ι st st1 loc σ o Q} S L ee k=>Eq.mpr (if_pos (e:=Q none H) (rfl:true=true)) (mi S L k ee)
theorem qW{k:Nat}{a' c' e':Ex}(C:Ctx T g X sc N)(hcm:T.calm=true)(hc:dm sc scope N x y=true)(hg:bc sc "enumerate"=true)(hst:starEach [a] X.env=[(false,eval a X.env)])(hs:PE X a (tE X.K (run g a')))(ht:∀fp s H,PT (bh X x y scope fp s H) c (tT X.K (run g c')))(he:∀fp s H,PE (bh X x y scope fp s H) elt (tE X.K (run g e'))):
  fA g X x y px py k pt (.Call (.Name "enumerate" p3) [a] [] p4) [c] elt scope (.compEIf a' c' e'):=
 p7 C hcm hc hg hst hs (fun fp s H=>vR (ht fp s H)) he (B:=fun loc=>ba (run g c' loc) fun z=>ba (dU (fF z)) fun k=>if k then ba (run g e' loc) fun y=>ret (some y) else ret none) (fun _=>by rw[run]<;>rfl) fun{H ι st st1 loc σ o Q} S L ee k=>by
  cases e4:run g c' loc st with
  |bad=>simp only[ba,e4] at ee;cases ee
  |ok z st6=>
   cases z with
   |bl bb=>
    simp only[ba,e4,fF,dU] at ee
    refine iL S L e4 fun H6 ι6 E6 S6=>?_
    cases bb with
    |true=>
     rw[if_pos rfl] at ee ⊢
     exact mi S6 (L.ext E6) (fun H1 ι1 w E1=>k H1 ι1 w (E6.trans E1)) ee
    |false=>
     rw[if_neg av] at ee ⊢
     cases ee
     exact k H6 ι6 none E6 S6 trivial
   |_=>simp only[ba,e4,fF,dU] at ee;cases ee
end
theorem DRels.zip{K:ao}:∀{ks:List Str}{ds:List D}{vs:List V},VRels K H ι m ds vs→DRels K H ι m ((ks.zip ds).map fun p=>(Sum.inr p.1,p.2)) ((ks.zip vs).map fun q=>((Sum.inr q.1:Key),q.2))
 |[],_,_,_=>.nil
 |_::_,_,_,.nil=>.nil
 |_::_,_,_,.cons h t=>.cons h (DRels.zip t)
section
variable{T:Tab}{g:c_}{X:Cx}{sc:Scope}{N:List Str}{pos p1 p2 q1 q2:Pos}
theorem cM(C:Ctx T g X sc N)(h:bc sc x=true):Gl X x:=by
 show X.env.scope.names.lookup _=some .globalImplicit
 rw[C.sc]
 simpa[bc] using h
theorem pB{K:ao}{H:Hp}{ι:Nat→Addr}{m:Nat}:∀l:List Nat,VRels K H ι m (l.map fun(i:Nat)=>D.int (i:Int)) (l.map fun(i:Nat)=>V.int (i:Int))
 |[]=>.nil
 |a::l=>.cons (.int _) (pB l)
theorem y4{a':Ex}(C:Ctx T g X sc N)(hcm:T.calm=true)(hg:bc sc "list"=true)(hg2:bc sc "range"=true)(hst:starEach [a] X.env=[(false,eval a X.env)])(ha:PE X a (tE X.K (run g a'))):
  PE X (.Call (.Name "list" p1) [.Call (.Name "range" p2) [a] [] q2] [] q1) (tE X.K (run g (.lrng a'))):=by
 refine(v0 (C.calm hcm) (cM C hg) (C.blt _ (by decide+kernel)) (cM C hg2) (C.blt _ (by decide+kernel)) ha hst).imp fun σ H Q hp=>?_
 obtain⟨ι,st,loc,S,L,P⟩:=hp
 rw[run] at P
 obtain⟨x,st1,e1,P⟩:=a_ P
 refine bi S L e1 fun H1 ι1 v E1 S1 r1=>?_
 unfold tF at P
 split at P
 ·split at P
  ·rename_i j hj
   cases r1
   exact⟨j,rfl,hj.1,hj.2,fun p hp=>(P.mono E1).alloc S1 (pB _) p hp⟩
  ·exact P.elim
 ·exact P.elim
theorem p_{K:ao}{H:Hp}{ι:Nat→Addr}{m:Nat}:∀{ds:List D}{vs:List V}(k:Nat),VRels K H ι m ds vs→DRels K H ι m ((ds.zipIdx k).map fun q=>((Sum.inl (q.2:Int):Key),q.1)) ((vs.zipIdx k).map fun q=>((Sum.inl (q.2:Int):Key),q.1))
 |_,_,_,.nil=>.nil
 |_,_,k,.cons h t=>.cons h (p_ (k+1) t)
theorem A6{a':Ex}(C:Ctx T g X sc N)(hcm:T.calm=true)(hg:bc sc "dict"=true)(hg2:bc sc "enumerate"=true)(hst:starEach [a] X.env=[(false,eval a X.env)])(ha:PE X a (tE X.K (run g a'))):
  PE X (.Call (.Name "dict" p1) [.Call (.Name "enumerate" p2) [a] [] q2] [] q1) (tE X.K (run g (.den a'))):=by
 refine(sU (C.calm hcm) (cM C hg) (C.blt _ (by decide+kernel)) (cM C hg2) (C.blt _ (by decide+kernel)) ha hst).imp fun σ H Q hp=>?_
 obtain⟨ι,st,loc,S,L,P⟩:=hp
 rw[run] at P
 obtain⟨x,st1,e1,P⟩:=a_ P
 refine bi S L e1 fun H1 ι1 v E1 S1 r1=>?_
 unfold za at P
 split at P
 ·split at P
  ·rename_i xs q
   cases r1 with
   |ref hn=>
    obtain⟨vs,h1,r⟩:=S1.ob _ _ q
    refine⟨_,vs,rfl,dz.of h1,fun p hp=>?_⟩
    obtain⟨ι',E,e,S'⟩:=S1.laid (o:= .dct (xs.zipIdx.map fun q=>((Sum.inl (q.2:Int):Key),q.1))) (ho:= .dK (vs.zipIdx.map fun q=>((Sum.inl (q.2:Int):Key),q.1))) hp (fun ι' h1 h2=>⟨_,bd,(p_ 0 r).ext0 ⟨Nat.le_succ _,h1,fun b xs e=>by rw[az (aw e hp)];exact e,fun b ob u e=>by rw[az (aw e hp)];exact e⟩⟩)
    have l:(st1++[O.dct (xs.zipIdx.map fun q=>((Sum.inl (q.2:Int):Key),q.1))]).length=st1.length+1:=by simp
    refine P _ ι' (.ref p) (by rw[l];exact E1.trans E) S' ?_
    rw[←e,l]
    exact .ref (aG _)
  ·exact P.elim
 ·exact P.elim
theorem jf(hk:gk o=true)(m:Str)(env:Env):attributeBase o m env (eval o env)=eval o env:=by
 cases o with
 |Name=>rfl
 |Attribute=>rfl
 |Subscript=>rfl
 |Call f as ks p=>
  cases f with
  |Attribute=>rfl
  |Name=>
   cases as with
   |nil=>cases hk
   |cons=>rfl
  |_=>cases hk
 |_=>cases hk
theorem VRels.dropLast{K:ao}{ds:List D}(r:VRels K H ι m ds vs):VRels K H ι m ds.dropLast vs.dropLast:=by
 rw[List.dropLast_eq_take,List.dropLast_eq_take,←r.length]
 exact r.take _
theorem yZ{o':Ex}{m:Str}(hm:tM m=true)(hl:(ap.endLine==cp.line)=true)(hb:attributeBase o m X.env (eval o X.env)=eval o X.env)(ho:PE X o (tE X.K (run g o'))):
  PE X (.Call (.Attribute o m ap) [] [] cp) (tE X.K (run g (.pop o' false))):=by
 have hm:m= "pop":=by simpa[tM] using hm
 subst hm
 refine(yo PySem.F.plainAttrs_list PySem.F.slot_list_pop PySem.F.type_list_pop yB ho hb hl).imp fun σ H Q hp=>?_
 obtain⟨ι,st,loc,S,L,P⟩:=hp
 rw[run] at P
 obtain⟨x,st1,e1,P⟩:=a_ P
 refine bi S L e1 fun H1 ι1 v E1 S1 r1=>?_
 unfold yb at P
 split at P
 ·rename_i n
  split at P
  ·rename_i xs q
   rw[if_neg (by decide)] at P
   split at P
   ·rename_i y hy
    cases r1 with
    |ref hn=>
     obtain⟨vs,g1,g2⟩:=S1.ob _ _ q
     obtain⟨u,hu,ru⟩:=g2.get hy
     obtain⟨E4,S4⟩:=S1.write q g2.dropLast
     have E4':Ext H1 (bm H1 (ι1 n) (.lst vs.dropLast)) ι1 ι1 st1.length (st1.set n (O.lst xs.dropLast)).length:=by rw[aF];exact E4
     exact⟨.inl ⟨rfl,vs,dz.of g1⟩,_,vs,u,rfl,rfl,g1,by rw[←g2.length];exact hu,P _ ι1 _ (E1.trans E4') S4 (ru.ext E4')⟩
   ·exact P.elim
  ·exact P.elim
 ·exact P.elim
noncomputable def SD(T:Tab)(g:c_)(n:Nat):Prop:=∀{X:Cx}{sc:Scope}{N:List Str}{es:List Expr}{xs:List Ex}{ks:List Str}{keys:List (Option Expr)}(pos:Pos),Ctx T g X sc N→nC T n sc N es=some xs→p8 keys=some ks→ks.length=es.length→
 ∃trs,Bf X pos keys es trs∧keys.length=es.length∧keys.all (·.isSome)=true∧∀{σ:L2.St}{H:Hp}{ι:Nat→Addr}{st:aS}{loc:Loc}{ds:List D}{st1:aS}{Q:List (V×V)→Hp→Prop},Sim X.K H ι st→LRel X.K H ι st.length loc σ→runs g xs loc st=.ok ds st1→
  (∀H1 ι1 vs,Ext H H1 ι ι1 st.length st1.length→Sim X.K H1 ι1 st1→VRels X.K H1 ι1 st1.length ds vs→Q ((ks.zip vs).map fun p=>(V.str p.1,p.2)) H1)→k_ trs σ H Q
theorem vm(h:∀{X:Cx}{sc:Scope}{N:List Str}{e:Expr}{x:Ex},Ctx T g X sc N→cE T n sc N e=some x→PE X e (tE X.K (run g x)))(hs:SD T g n):SD T g (n+1):=by
 intro X sc N es xs ks keys pos C e hk hl
 cases keys with
 |nil=>
  cases hk
  cases es with
  |cons=>cases hl
  |nil=>
   cases e
   exact⟨[],vY,rfl,rfl,fun{σ H ι st loc ds st1 Q} S L e1 k=>by rw[runs] at e1;cases e1;exact k H ι [] (Ext.refl _ _ _) S .nil⟩
 |cons k r=>
  obtain⟨kk,h0,hk⟩:=bs hk
  obtain⟨ks2,hq,rfl⟩:=map_some hk
  obtain⟨_,_,rfl⟩:=rW h0
  cases es with
  |nil=>cases hl
  |cons a0 as0=>
   obtain⟨e',e2,e⟩:=bs e
   obtain⟨r',r2,rfl⟩:=map_some e
   obtain⟨trs,h1,h2,h3,h4⟩:=hs pos C r2 hq (by simpa using hl)
   refine⟨_,sM sQ (h C e2) h1,by simp[h2],by simp[h3],fun{σ H ι st loc ds st1 Q} S L e1 k=>?_⟩
   rw[runs] at e1
   unfold ba at e1
   cases e5:run g e' loc st with
   |bad=>rw[e5] at e1;cases e1
   |ok d st2=>
    rw[e5] at e1
    simp only[ba] at e1
    cases e6:runs g r' loc st2 with
    |bad=>rw[e6] at e1;cases e1
    |ok ds2 st3=>
     rw[e6] at e1
     cases e1
     show tE X.K (run g e') σ H _
     exact bi S L e5 fun H1 ι1 v E1 S1 r1=>h4 S1 (L.ext E1) e6 fun H2 ι2 vs E2 S2 r2=>k H2 ι2 (v::vs) (E1.trans E2) S2 (.cons (r1.ext E2) r2)
theorem y7{k:Option Expr}{ks:List (Option Expr)}{ks':List Str}{xs:List Ex}(hs:SD T g n)(C:Ctx T g X sc N)(hk:p8 (k::ks)=some ks')(he:nC T n sc N es=some xs)(hl:ks'.length=es.length)(h15:ks'.length≤15)(hn:ks'.Nodup):
  PE X (.Dict (k::ks) es pos) (tE X.K (run g (.dict ks' xs))):=by
 obtain⟨trs,h1,h2,h3,h4⟩:=hs pos C he hk hl
 refine(v5 h1 h3 h2 (by simp) (by rw[h2,←hl];exact h15)).imp fun σ H Q hp=>?_
 obtain⟨ι,st,loc,S,L,P⟩:=hp
 intro p hp
 rw[run] at P
 obtain⟨ds,st1,e1,P⟩:=a_ P
 have E0:Ext H (bm H p (.dK [])) ι ι st.length st.length:=⟨⟨af _,fun _ _=>rfl,fun b ys e=>by rw[az (aw e hp)];exact e,fun b ob u e=>by rw[az (aw e hp)];exact e⟩,fun b ob e k=>⟨by rw[az (aw e hp)];exact e,k⟩⟩
 have hap:∀n,n<st.length→ι n≠p:=fun n hn=>by obtain⟨_,h,_⟩:=S.obj hn;exact aw h hp
 have S0:Sim X.K (bm H p (.dK [])) ι st:=by
  refine⟨S.inj,fun n o e=>?_⟩
  have hn:n<st.length:=(aA e).1
  have old:=S.ob n o e
  exact old.move E0.toExt0 (az (hap n hn))
 refine h4 S0 (L.ext E0) e1 fun H1 ι1 vs E1 S1 r1=>?_
 obtain⟨hp1,ap1⟩:=E1.fr p _ bd hap
 have lv:=r1.length
 unfold oU at P
 split at P
 ·rename_i hkd
  refine⟨hp1,(ks'.zip vs).map (fun q=>((Sum.inr q.1:Key),q.2)),?_,by simp;omega,?_⟩
  ·rw[List.map_map];rfl
  ·have hmk:fV [] ((ks'.zip vs).map (fun q=>((Sum.inr q.1:Key),q.2)))=(ks'.zip vs).map (fun q=>((Sum.inr q.1:Key),q.2)):=by
    rw[iN _ [] ?_ (fun k _=>rfl),List.nil_append]
    rw[List.map_map]
    have e3:(fun q:Key×V=>q.1) ∘ (fun q:Str×V=>((Sum.inr q.1:Key),q.2))=(fun s:Str=>(Sum.inr s:Key)) ∘ Prod.fst:=rfl
    rw[e3,←List.map_map,List.map_fst_zip (by omega)]
    exact List.Pairwise.map _ (fun a b hab z=>hab (Sum.inr.inj z)) hn
   rw[hmk]
   generalize hkv:(ks'.zip vs).map (fun q=>((Sum.inr q.1:Key),q.2))=kvs
   have E2:Ext0 H1 (bm H1 p (.dK kvs)) ι1 ι1 st1.length st1.length:=⟨af _,fun _ _=>rfl,fun b ys e=>by rw[az (dW e hp1 (by intro z;cases z))];exact e,fun b ob u e=>by rw[az (dW e hp1 (by intro z;cases z))];exact e⟩
   have S2:Sim X.K (bm H1 p (.dK kvs)) ι1 st1:=by
    refine⟨S1.inj,fun n o e=>?_⟩
    have hn:n<st1.length:=(aA e).1
    have old:=S1.ob n o e
    exact old.move E2 (az (ap1 n hn))
   have rd:DRels X.K (bm H1 p (.dK kvs)) ι1 st1.length ((ks'.zip ds).map fun p=>(Sum.inr p.1,p.2)) kvs:=by
    have q:=DRels.zip (ks:=ks') (VRels.ext0 E2 r1)
    rw[hkv] at q
    exact q
   obtain⟨ι',g1,g2,g3⟩:=S2.addD bd ap1 rd
   have l:(st1++[O.dct ((ks'.zip ds).map fun p=>(Sum.inr p.1,p.2))]).length=st1.length+1:=by simp
   refine P _ ι' (.ref p) ?_ g3 ?_
   ·rw[l]
    have E6:=E0.trans E1
    refine⟨⟨Nat.le_succ_of_le E6.le,fun n hn=>(g1 n (am hn E6.le)).trans (E6.ad n hn),fun b ys e=>E2.tp b ys (E6.tp b ys e),fun b ob u e=>E2.fz b ob u (E6.fz b ob u e)⟩,fun b ob e k=>?_⟩
    obtain⟨g4,g5⟩:=E6.fr b ob e k
    refine⟨by rw[az (aw e hp)];exact g4,fun n hn=>?_⟩
    by_cases hn':n=st1.length
    ·rw[hn',g2];exact(aw e hp).symm
    ·rw[g1 n (by omega)];exact g5 n (by omega)
   ·rw[←g2,l];exact .ref (aG _)
 ·exact P.elim
end
theorem lC{T:Tab}{c:Str}(h:c∈T.yes ts):∃anc,(c,anc)∈T.cls∧(ts.any fun t=>anc.contains t)=true:=by
 obtain⟨p,hp,rfl⟩:=List.mem_map.mp h
 obtain⟨h1,h2⟩:=List.mem_filter.mp hp
 exact⟨p.2,h1,h2⟩
theorem tz{T:Tab}{c:Str}(h:c∈T.no ts):∃anc,(c,anc)∈T.cls∧(ts.any fun t=>anc.contains t)=false:=by
 obtain⟨p,hp,rfl⟩:=List.mem_map.mp h
 obtain⟨h1,h2⟩:=List.mem_filter.mp hp
 exact⟨p.2,h1,by simpa using h2⟩
section
variable{T:Tab}{g:c_}{X:Cx}{sc:Scope}{N:List Str}{pos p2 q2:Pos}
theorem FRels.look_none{K:ao}{ds:List (Str×D)}{vs:List (Str×V)}(h:FRels K H ι m ds vs)(e:ds.lookup f=none):vs.lookup f=none:=by
 induction h with
 |nil=>rfl
 | @cons k d' v ds vs h t ih=>
  rw[List.lookup_cons] at e ⊢
  cases q:f==k with
  |true=>rw[q] at e;cases e
  |false=>rw[q] at e;exact ih e
theorem lE{c:Str}(h:c∈T.ecs f):f∈T.flds∧∃anc,(c,anc)∈T.cls:=by
 unfold Tab.ecs at h
 split at h
 ·rename_i hf
  obtain⟨p,hp,rfl⟩:=List.mem_map.mp h
  exact⟨List.contains_iff_mem.mp hf,p.2,hp⟩
 ·cases h
theorem lD{c:Str}(h:c∈T.ics f):∃ic∈T.icl,ic.x=c∧f∈ic.flds:=by
 obtain⟨p,hp,rfl⟩:=List.mem_map.mp h
 obtain⟨h1,h2⟩:=List.mem_filter.mp hp
 exact⟨p,h1,rfl,List.contains_iff_mem.mp h2⟩
theorem wc{m c:Str}(h:(T.ims m).lookup c=some j):∃ic∈T.icl,ic.x=c∧(m,j)∈ic.mts:=by
 obtain⟨ic,h1,h2⟩:=List.mem_filterMap.mp (aD h)
 cases q:ic.mts.lookup m with
 |none=>rw[q] at h2;cases h2
 |some i=>
  rw[q] at h2
  cases h2
  exact⟨ic,h1,rfl,aD q⟩
theorem A4{o':Ex}(C:Ctx T g X sc N)(hb:attributeBase o f X.env (eval o X.env)=eval o X.env)(ho:PE X o (tE X.K (run g o'))):PE X (.Attribute o f pos) (tE X.K (run g (.fld o' f (T.ecs f) (T.ics f)))):=by
 refine((v4 ho hb).or (yn ho hb)).imp fun σ H Q hp=>?_
 obtain⟨ι,st,loc,S,L,P⟩:=hp
 rw[run] at P
 obtain⟨x,st1,e1,P⟩:=a_ P
 unfold oH at P
 split at P
 ·rename_i n
  split at P
  ·rename_i c fs q
   split at P
   ·rename_i d hl
    split at P
    ·rename_i hc
     obtain⟨ic,hi,rfl,hf⟩:=lD hc
     obtain⟨C0,n0,cl,na,_⟩:=C.icl ic hi
     refine .inr (bi S L e1 fun H1 ι1 v E1 S1 r1=>?_)
     cases r1 with
     |ref hn=>
      obtain⟨C1,dx,vs,n1,h1,h2,_⟩:=S1.ob n _ q
      rw[n0] at n1
      cases n1
      obtain⟨w,lw,rw'⟩:=h2.look hl
      exact⟨_,C0,dx,vs,w,rfl,h1,cl,na f hf,lw,(P.mono E1).same S1 rw'⟩
    ·exact P.elim
   ·exact P.elim
  ·rename_i c m t q
   split at P
   ·rename_i fs q2
    split at P
    ·rename_i d hl
     split at P
     ·rename_i hc
      refine .inl (bi S L e1 fun H1 ι1 v E1 S1 r1=>?_)
      cases r1 with
      |ref hn=>
       obtain⟨hf,anc,hp⟩:=lE hc
       obtain⟨C0,n0,ec,fl,_⟩:=C.cls c anc hp
       obtain⟨C1,n1,h1,h2⟩:=S1.ob n _ q
       rw[n0] at n1
       cases n1
       obtain⟨vs,g1,g2,g3⟩:=S1.ob m _ q2
       obtain⟨w,lw,rw'⟩:=g2.look hl
       exact⟨_,C0,ι1 m,vs,t,w,rfl,h1,g1,ec,fl f hf,lw,(P.mono E1).same S1 rw'⟩
     ·exact P.elim
    ·exact P.elim
   ·exact P.elim
  ·exact P.elim
 ·exact P.elim
theorem Sim.aside{K:ao}{st:aS}(S:Sim K H ι st){p:Addr}(hp:H p=none)(ho:HO):Ext H (bm H p ho) ι ι st.length st.length∧Sim K (bm H p ho) ι st:=by
 have E:Ext H (bm H p ho) ι ι st.length st.length:=⟨⟨af _,fun _ _=>rfl,fun b xs e=>by rw[az (aw e hp)];exact e,fun b ob u e=>by rw[az (aw e hp)];exact e⟩,fun b ob e k=>⟨by rw[az (aw e hp)];exact e,k⟩⟩
 exact⟨E,S.inj,fun n o e=>(S.ob n o e).move E.toExt0 (az (by obtain⟨_,h,_⟩:=S.obj (aA e).1;exact aw h hp))⟩
theorem AX{as:List Expr}{xs:List Ex}(C:Ctx T g X sc N)(hg:bc sc x=true)(hi:T.mks.lookup x=some j)(ha:PA X (a::as) (tA X.K (runs g xs)))
  (he:starEach (a::as) X.env=(false,eval a X.env)::starEach as X.env)(hpl:(backTo pos (starEach as X.env)).any (·.1)=false):PE X (.Call (.Name x p2) (a::as) [] pos) (tE X.K (run g (.new x j xs))):=by
 obtain⟨hd,C0,ad,fd,ps,k,hn,hm,mk,hb,hr,har,F⟩:=C.mks x j (aD hi)
 refine(vZ mk F hr (cM C hg) hm hb .nil sX ha hd he hpl).imp fun σ H Q hp=>?_
 obtain⟨ι,st,loc,S,L,P⟩:=hp
 rw[run] at P
 obtain⟨ds,st1,e1,P⟩:=a_ P
 refine gw S L e1 fun H1 ι1 vs E1 S1 r1 ax dx hx hdx hne=>?_
 rw[List.append_nil]
 unfold tx at P
 obtain⟨r,st2,e2,P⟩:=a_ P
 obtain⟨E2,S2⟩:=S1.aside hdx (.own ax)
 have hx2:bm H1 dx (.own ax) ax=none:=by rw[az hne.symm];exact hx
 obtain⟨ι2,E3,e3,S3⟩:=S2.laid (o:= .ins x []) (ho:= .ins C0 dx []) hx2 (fun ι' h1 h2=>⟨C0,dx,[],hn,bd,.nil,by decide⟩)
 have l:(st1++[O.ins x []]).length=st1.length+1:=by simp
 have rr:VRels X.K (bm (bm H1 dx (.own ax)) ax (.ins C0 dx [])) ι2 (st1++[O.ins x []]).length (.ref st1.length::ds) (.ref ax::vs):=by
  rw[l]
  refine .cons ?_ (r1.ext (E2.trans E3))
  rw[←e3]
  exact .ref (aG _)
 have hlen:(V.ref ax::vs).length=ps.length:=by
  rw[←rr.length]
  by_cases hps:(D.ref st1.length::ds).length=ps.length
  ·exact hps
  ·rw[har _ _ hps] at e2;cases e2
 refine⟨hlen,ι2,_,_,S3,rr,?_⟩
 rw[e2]
 cases r with
 |x n=>exact P.elim
 |v d=>
  cases d with
  |non=>
   intro H' ι' v E' S' rv
   cases rv
   have E4:Ext H H' ι ι' st.length st2.length:=((E1.trans E2).trans (by rw[←l] at E3;exact E3)).trans E'
   refine⟨rfl,P H' ι' _ E4 S' ?_⟩
   have e4:ι' st1.length=ax:=(E'.ad _ (by rw[l];exact aG _)).trans e3
   rw[←e4]
   have:=E'.le
   rw[l] at this
   exact .ref this
  |_=>exact P.elim
theorem pP{m:Str}{xs:List Ex}{t:TA}{x:D}{loc:Loc}{H1:Hp}{st st1:aS}(C:Ctx T g X sc N)(S1:Sim X.K H1 ι1 st1)(L:LRel X.K H ι st.length loc σ)(E1:Ext H H1 ι ι1 st.length st1.length)(r1:VRel X.K H1 ι1 st1.length x v)
  (P:cv X.K H ι st (ba (pQ m (T.ims m) x) (fun j=>ba (runs g xs loc) fun ds=>ba (g j (x::ds)) fun r=>dU r.val?) st1) Q)
  (ht:∀Q':List V→Hp→Prop,tA X.K (runs g xs) σ H1 Q'→t σ H1 Q'):
  ∃a C dx fs f k fd ps sp,v=.ref a∧H1 a=some (.ins C dx fs)∧fs.lookup m=none∧Cls X.K C∧Meth X.K C m f∧FnOk X.prog X.w X.K X.mg X.base (ji X.prog X.w) k f fd ps sp∧Room k X.A∧Binds X.K fd ps []∧t σ H1 fun vs H2=>∀E:XK,sp (.ref a::vs) H2 Q E:=by
 obtain⟨j,st2,e2,P2⟩:=a_ P
 obtain⟨ds,st3,e3,P3⟩:=a_ P2
 unfold pQ at e2
 cases x with
 |ref nn=>
  dsimp only at e2
  split at e2
  ·rename_i c fs q
   split at e2
   ·rename_i i hl hj
    cases e2
    obtain⟨ic,hi,rfl,hm⟩:=wc hj
    obtain⟨C0,n0,cl,na,ms,_⟩:=C.icl ic hi
    obtain⟨a,fd,ps,k,M,hb,hr,har,F⟩:=ms m _ hm
    have rr:=r1
    cases r1 with
    |ref hn=>
     obtain⟨C1,dx,vs,n1,h1,h2,_⟩:=S1.ob nn _ q
     rw[n0] at n1
     cases n1
     refine⟨_,C0,dx,vs,a,k,fd,ps,_,rfl,h1,h2.look_none hl,cl,M,F,hr,hb,ht _ (gw S1 (L.ext E1) e3 fun H2 ι2 ws E2 S2 r2 E=>?_)⟩
     have r3:VRels X.K H2 ι2 st3.length (.ref nn::ds) (.ref (ι1 nn)::ws):= .cons (rr.ext E2) r2
     refine⟨?_,ι2,st3,_,S2,r3,(dE.val P3).mono (E1.trans E2)⟩
     rw[←r3.length]
     by_cases hps:(D.ref nn::ds).length=ps.length
     ·exact hps
     ·have P4:=dE.val (E:=E) P3
      rw[har _ _ hps] at P4;exact P4.elim
   ·cases e2
  ·cases e2
 |_=>cases e2
theorem tZ{as:List Expr}(hpl:(backTo pos (starEach as X.env)).any (·.1)=false)(hz:as.length<29):methodCallForm (as.length+([]:List Keyword).length) (backTo pos (starEach as X.env)) (backToKw pos (keywordEach [] X.env))=true:=by
 unfold methodCallForm
 have h1:(backTo pos (starEach as X.env)).all (!·.1)=true:=by
  rw[List.all_eq_true]
  intro p hp
  cases q:p.1 with
  |false=>rfl
  |true=>
   have:=List.any_eq_false.mp hpl p hp
   rw[q] at this
   exact absurd rfl this
 rw[h1]
 have h2:(backToKw pos (keywordEach [] X.env)).all (·.1.isSome)=true:=rfl
 have h3:(backToKw pos (keywordEach [] X.env)).isEmpty=true:=rfl
 rw[h2,h3]
 simp only[Bool.and_self,Bool.true_and,List.length_nil,Nat.add_zero,if_true,decide_eq_true_eq]
 omega
theorem y3{as:List Expr}{o':Ex}{m:Str}{xs:List Ex}(C:Ctx T g X sc N)(hl:(ap.endLine==pos.line)=true)(hz:(a::as).length<29)(hb:attributeBase o m X.env (eval o X.env)=eval o X.env)(ho:PE X o (tE X.K (run g o')))(ha:PA X (a::as) (tA X.K (runs g xs)))
  (he:starEach (a::as) X.env=(false,eval a X.env)::starEach as X.env)(hpl:(backTo pos (starEach as X.env)).any (·.1)=false)(hpl1:(backTo pos (starEach (a::as) X.env)).any (·.1)=false):PE X (.Call (.Attribute o m ap) (a::as) [] pos) (tE X.K (run g (.meth o' m (T.ims m) xs))):=by
 refine(sS ho hb hl (tZ hpl1 hz) ha he hpl).imp fun σ H Q hp=>?_
 obtain⟨ι,st,loc,S,L,P⟩:=hp
 rw[run] at P
 obtain⟨x,st1,e1,P⟩:=a_ P
 exact bi S L e1 fun H1 ι1 v E1 S1 r1=>pP C S1 L E1 r1 P fun _ h=>h
theorem wB{o':Ex}{m:Str}(C:Ctx T g X sc N)(hl:(ap.endLine==pos.line)=true)(hb:attributeBase o m X.env (eval o X.env)=eval o X.env)(ho:PE X o (tE X.K (run g o'))):PE X (.Call (.Attribute o m ap) [] [] pos) (tE X.K (run g (.meth o' m (T.ims m) []))):=by
 refine(qC ho hb hl).imp fun σ H Q hp=>?_
 obtain⟨ι,st,loc,S,L,P⟩:=hp
 rw[run] at P
 obtain⟨x,st1,e1,P⟩:=a_ P
 refine bi S L e1 fun H1 ι1 v E1 S1 r1=>pP C S1 L E1 r1 P fun Q' h=>?_
 obtain⟨ι2,st2,loc2,S2,L2',P2⟩:=h
 rw[runs] at P2
 exact P2 H1 ι2 [] (Ext.refl _ _ _) S2 .nil
theorem Ca{as:List Expr}{m:Str}{xs:List Ex}(C:Ctx T g X sc N)(hu:Bl T sc o m=some j)(hl:(ap.endLine==pos.line)=true)(hz:(a::as).length<29)(ha:PA X (a::as) (tA X.K (runs g xs)))
  (he:starEach (a::as) X.env=(false,eval a X.env)::starEach as X.env)(hpl:(backTo pos (starEach as X.env)).any (·.1)=false)(hpl1:(backTo pos (starEach (a::as) X.env)).any (·.1)=false):PE X (.Call (.Attribute o m ap) (a::as) [] pos) (tE X.K (run g (.fn j xs))):=by
 obtain⟨x,px,rfl,hg,hm⟩:=uZ hu
 obtain⟨hd,C0,ad,fd,ps,k,hmg,u,hb,hr,har,F⟩:=C.ums x m j hm
 refine(Ay (cM C hg) hmg hd u F hr hb hl (tZ hpl1 hz) ha he hpl).imp fun σ H Q hp=>?_
 obtain⟨ι,st,loc,S,L,P⟩:=hp
 rw[run] at P
 obtain⟨ds,st1,e1,P⟩:=a_ P
 refine gw S L e1 fun H1 ι1 vs E1 S1 r1 E=>⟨?_,ι1,st1,ds,S1,r1,(dE.val P).mono E1⟩
 by_cases hps:ds.length=ps.length
 ·rw[←r1.length];exact hps
 ·have P2:=dE.val (E:=E) P
  rw[har ds st1 hps] at P2;exact P2.elim
theorem A1{a':Ex}(C:Ctx T g X sc N)(hg:bc sc "isinstance"=true)(hgt:bc sc t=true)(ht:T.icats.contains t=true)(ha:PE X a (tE X.K (run g a')))
  (he:starEach [a,.Name t p3] X.env=(false,eval a X.env)::starEach [.Name t p3] X.env):PE X (.Call (.Name "isinstance" p2) [a,.Name t p3] [] pos) (tE X.K (run g (.isk a' (T.iyes t) (T.ino t)))):=by
 obtain⟨hdb,D,n1,m1⟩:=C.icats t (List.contains_iff_mem.mp ht)
 refine(eT uA (cM C hg) (C.blt _ (by decide+kernel)) (by decide+kernel) (bG ha (bG (lB (v:= .ref D) (cM C hgt) m1 rfl hdb) dA) he) (by decide+kernel) (by decide+kernel) he rfl).imp fun σ H Q hp=>?_
 obtain⟨ι,st,loc,S,L,P⟩:=hp
 rw[run] at P
 obtain⟨x,st1,e1,P⟩:=a_ P
 refine bi S L e1 fun H1 ι1 v E1 S1 r1=>?_
 unfold yM at P
 split at P
 ·rename_i n
  split at P
  ·rename_i c fs q
   cases r1 with
   |ref hn=>
    obtain⟨C1,dx,vs,n2,h1,h2,_⟩:=S1.ob n _ q
    have fin:∀ic∈T.icl,ic.x=c→cv X.K H ι st (.ok (.bl (ic.anc.contains t)) st1) Q→As X.K [.ref (ι1 n),.ref D] H1 Q:=fun ic hi hc P=>by
     obtain⟨C0,n0,cl,_,_,⟨f1,f2,f3,f4⟩,kk⟩:=C.icl ic hi
     rw[hc,n2] at n0
     cases n0
     exact⟨_,C1,dx,vs,.ref D,.ref D,_,rfl,h1,cl,f1,f2,f3,f4,fun u ru=>ru,kk t (List.contains_iff_mem.mp ht) D n1,(P.mono E1).same S1 (.bl _)⟩
    split at P
    ·rename_i hc
     obtain⟨ic,hp,rfl⟩:=List.mem_map.mp hc
     obtain⟨g1,g2⟩:=List.mem_filter.mp hp
     exact fin ic g1 rfl (by rw[g2];exact P)
    ·split at P
     ·rename_i hc
      obtain⟨ic,hp,rfl⟩:=List.mem_map.mp hc
      obtain⟨g1,g2⟩:=List.mem_filter.mp hp
      have g3:ic.anc.contains t=false:=by simpa using g2
      exact fin ic g1 rfl (by rw[g3];exact P)
     ·exact P.elim
  ·exact P.elim
 ·exact P.elim
theorem tL{x:D}{st:aS}{H0:Hp}{st0:aS}(C:Ctx T g X sc N)(S:Sim X.K H ι st)(rv:VRel X.K H ι st.length x v)(E:Ext H0 H ι0 ι st0.length st.length)(P:cv X.K H0 ι0 st0 (wk (T.yes cs) (T.no cs) x st) Q):
  ∃a C0 d t c anc,v=.ref a∧H a=some (bN a C0 d t)∧(∀dx,d=some dx→∃fs,H dx=some (kU dx fs))∧(c,anc)∈T.cls∧PySem.W.nsIn X.K mainGlobals c=some (some (.ref C0))∧Q (.bl (cs.any fun t=>anc.contains t)) H:=by
 unfold wk at P
 split at P
 ·rename_i n
  split at P
  ·rename_i c d t q
   split at P
   ·rename_i hd
    cases rv with
    |ref hn=>
     obtain⟨C1,n1,h1,h2⟩:=S.ob n _ q
     have hdx:∀dx,d.map ι=some dx→∃fs,H dx=some (kU dx fs):=fun dx e=>by
      cases d with
      |none=>cases e
      |some m=>
       cases e
       simp only[jR] at hd
       split at hd
       ·rename_i fs q2
        obtain⟨vs,g1,_⟩:=S.ob m _ q2
        exact⟨vs,g1⟩
       ·cases hd
     split at P
     ·rename_i hc
      obtain⟨anc,m1,m2⟩:=lC hc
      exact⟨_,C1,_,t,c,anc,rfl,h1,hdx,m1,n1,by rw[m2];exact(P.mono E).same S (.bl true)⟩
     ·split at P
      ·rename_i hc
       obtain⟨anc,m1,m2⟩:=tz hc
       exact⟨_,C1,_,t,c,anc,rfl,h1,hdx,m1,n1,by rw[m2];exact(P.mono E).same S (.bl false)⟩
      ·exact P.elim
   ·exact P.elim
  ·exact P.elim
 ·exact P.elim
theorem A3{a':Ex}(C:Ctx T g X sc N)(hg:bc sc "isinstance"=true)(ht:uw T sc t=true)(ha:PE X a (tE X.K (run g a')))
  (he:starEach [a,.Name t p3] X.env=(false,eval a X.env)::starEach [.Name t p3] X.env):PE X (.Call (.Name "isinstance" p2) [a,.Name t p3] [] pos) (tE X.K (run g (.isc a' (T.yes [t]) (T.no [t])))):=by
 unfold uw at ht
 simp only[Bool.and_eq_true,Bool.or_eq_true] at ht
 obtain⟨hgt,ht⟩:=ht
 by_cases hc:T.cats.contains t=true
 ·obtain⟨hdb,D,n1,m1,ec⟩:=C.cats t (List.contains_iff_mem.mp hc)
  refine(eT np (cM C hg) (C.blt _ (by decide+kernel)) (by decide+kernel) (bG ha (bG (lB (v:= .ref D) (cM C hgt) m1 rfl hdb) dA) he) (by decide+kernel) (by decide+kernel) he rfl).imp fun σ H Q hp=>?_
  obtain⟨ι,st,loc,S,L,P⟩:=hp
  rw[run] at P
  obtain⟨x,st1,e1,P⟩:=a_ P
  refine bi S L e1 fun H1 ι1 v E1 S1 r1=>?_
  obtain⟨b,C0,d,tt,c,anc,rfl,h1,h2,h3,h4,q⟩:=tL C S1 r1 E1 P
  obtain⟨C1,n2,ec2,_,kk,_⟩:=C.cls c anc h3
  obtain rfl:C1=C0:=by rw[n2] at h4;cases h4;rfl
  refine⟨b,C1,d,tt,.ref D,.ref D,_,rfl,h1,h2,ec2,fun u ru=>ru,(kk t (List.contains_iff_mem.mp hc) D n1).1,?_⟩
  simpa using q
 ·have htv:t= "ValueError":=by
   rcases ht with ht|ht
   ·exact absurd ht hc
   ·simpa using ht
  subst htv
  have hpe:PE X (.Name "ValueError" p3) (tC (.ty "ValueError")):=pK (cM C hgt) (C.blt _ (by decide+kernel)) (by decide+kernel) rfl (by decide+kernel) (by decide+kernel)
  refine(eT np (cM C hg) (C.blt _ (by decide+kernel)) (by decide+kernel) (bG ha (bG hpe dA) he) (by decide+kernel) (by decide+kernel) he rfl).imp fun σ H Q hp=>?_
  obtain⟨ι,st,loc,S,L,P⟩:=hp
  rw[run] at P
  obtain⟨x,st1,e1,P⟩:=a_ P
  refine bi S L e1 fun H1 ι1 v E1 S1 r1=>?_
  obtain⟨b,C0,d,tt,c,anc,rfl,h1,h2,h3,h4,q⟩:=tL C S1 r1 E1 P
  obtain⟨C1,n2,ec2,_,_,kv⟩:=C.cls c anc h3
  obtain rfl:C1=C0:=by rw[n2] at h4;cases h4;rfl
  refine⟨b,C1,d,tt,.ty "ValueError",.type "ValueError",_,rfl,h1,h2,ec2,fun u ru=>ru,kv,?_⟩
  simpa using q
end
set_option maxHeartbeats 16000000
noncomputable def Plain(es:List Expr)(env:Env)(pos:Pos):Prop:=(backTo pos (starEach es env)).any (·.1)=false
theorem oi{env:Env}(h:starEach (e::es) env=(false,eval e env)::starEach es env)(k:Plain es env pos):Plain (e::es) env pos:=by
 unfold Plain at k ⊢
 rw[h]
 simpa[backTo] using k
noncomputable def SX(g:c_)(X:Cx)(e:Expr)(x:Ex):Prop:=PE X e (tE X.K (run g x))∧PT X e (tT X.K (run g x))
noncomputable def SE(T:Tab)(g:c_)(n:Nat):Prop:=∀{X:Cx}{sc:Scope}{N:List Str}{e:Expr}{x:Ex},Ctx T g X sc N→cE T n sc N e=some x→SX g X e x
noncomputable def Be(T:Tab)(g:c_)(n:Nat):Prop:=∀{X:Cx}{sc:Scope}{N:List Str}{es:List Expr}{xs:List Ex},Ctx T g X sc N→nC T n sc N es=some xs→
 PA X es (tA X.K (runs g xs))∧es.length=xs.length∧(∀pos,Plain es X.env pos)∧∀e r,es=e::r→starEach (e::r) X.env=(false,eval e X.env)::starEach r X.env∧∀pos,Plain r X.env pos
noncomputable def SC(T:Tab)(g:c_)(n:Nat):Prop:=∀{X:Cx}{sc scope:Scope}{N:List Str}{x:Str}{elt src:Expr}{ifs:List Expr}{y:Ex}{px:Pos},Ctx T g X sc N→dC sc scope N x=true→
 (kK T n sc N false src x elt ifs scope=some y→gF g X x px src ifs elt scope y)∧
 (∀p3 p4,bc sc "range"=true→kK T n sc N true src x elt ifs scope=some y→gF g X x px (.Call (.Name "range" p3) [src] [] p4) ifs elt scope y)
theorem rZ{T:Tab}{g:c_}(h:SE T g n)(hs:Be T g n):Be T g (n+1):=by
 intro X sc N es xs C e
 cases es with
 |nil=>
  cases e
  refine⟨dA.imp fun σ H Q hp=>?_,rfl,fun pos=>rfl,fun _ _ z=>nomatch z⟩
  obtain⟨ι,st,loc,S,L,P⟩:=hp
  rw[runs] at P
  exact P H ι [] (Ext.refl _ _ _) S .nil
 |cons a0 as0=>
  obtain⟨e1,e2,e⟩:=bs e
  obtain⟨r1,r2,rfl⟩:=map_some e
  have h1:=h C e2
  obtain⟨h2,h3,h4,_⟩:=hs C r2
  have st:=cj e2 as0 X.env
  refine⟨(bG h1.1 h2 st).imp fun σ H Q hp=>?_,by simp[h3],fun pos=>oi st (h4 pos),fun a b z=>by cases z;exact⟨st,h4⟩⟩
  obtain⟨ι,st,loc,S,L,P⟩:=hp
  rw[runs] at P
  obtain⟨d,st1,e1,P⟩:=nr P
  obtain⟨ds,st2,e2,P⟩:=nr P
  exact bi S L e1 fun H1 ι1 v E1 S1 r1=>gw S1 (L.ext E1) e2 fun H2 ι2 vs E2 S2 r2=>P H2 ι2 (v::vs) (E1.trans E2) S2 (.cons (r1.ext E2) r2)
theorem vn{T:Tab}{g:c_}(h:SE T g n):SC T g (n+1):=by
 intro X sc scope N x elt src ifs y px C hc
 have k:∀{b:Bool},kK T (n+1) sc N b src x elt ifs scope=some y→∃s' e',cE T n sc N src=some s'∧(∀fp s H,PE (bw X x scope fp s H) elt (tE X.K (run g e')))∧ifs=[]∧y=.comp b s' e':=by
  intro b e
  obtain⟨s',e1,e⟩:=bs e
  obtain⟨e',e2,e⟩:=bs e
  cases ifs with
  |nil=>cases e;exact⟨s',e',e1,fun fp s H=>(h (nb C hc fp s H) e2).1,rfl,rfl⟩
  |cons=>cases e
 refine⟨fun e=>?_,fun p3 p4 hg e=>?_⟩
 ·obtain⟨s',e',e1,h2,rfl,rfl⟩:=k e
  exact y8 C hc (h C e1).1 h2 (qe e1 X.env)
 ·obtain⟨s',e',e1,h2,rfl,rfl⟩:=k e
  exact wC C hc hg (cj e1 [] X.env) (h C e1).1 h2
theorem zO{g:c_}{c' a' b':Ex}(hc:PT X c (tT X.K (run g c')))(ha:PT X a (tT X.K (run g a')))(hb:PT X b (tT X.K (run g b'))):PT X (.IfExp c a b pos) (tT X.K (run g (.ite c' a' b'))):=by
 intro pins s σ H Q I h
 obtain⟨ι,st,loc,S,L,P⟩:=h
 rw[run] at P
 obtain⟨x,st1,e1,P⟩:=dw P
 obtain⟨i,st2,e2,P⟩:=dw P
 obtain⟨e3,rfl⟩:=bA e2
 have:=bR e3
 subst this
 refine isTrue_IfExp (bC (hc pins s σ H (fun k H1=>if k=true then tT X.K (run g a') σ H1 Q else tT X.K (run g b') σ H1 Q) I (iL S L e1 fun H1 ι1 E1 S1=>?_)) fun k s1 ⟨H1,I1,q1⟩=>?_)
 ·cases i with
  |true=>rw[if_pos rfl];exact⟨ι1,st2,loc,S1,L.ext E1,P.mono E1⟩
  |false=>rw[if_neg av];exact⟨ι1,st2,loc,S1,L.ext E1,P.mono E1⟩
 ·cases k with
  |true=>exact ha pins s1 σ H1 Q I1 (by simpa using q1)
  |false=>exact hb pins s1 σ H1 Q I1 (by simpa using q1)
theorem both{m:Loc→M D}(h:PE X e (tE X.K m))(he:∀whole,isTrue e X.env whole=(do let v ←whole;standAt e.pos;holding [v] (truthy v))):PE X e (tE X.K m)∧PT X e (tT X.K m):=⟨h,sG h he⟩
theorem qf{T:Tab}{g:c_}(h:SE T g n)(hc:SC T g n){sc:Scope}{gens:List Comprehension}{y:Ex}(C:Ctx T g X sc N)(ex:cE T (n+1) sc N (.ListComp elt gens scope pos)=some y){G:Prop}
  (k1:∀x px it ifs,gens=[⟨.Name x px,it,ifs,0⟩]→T.calm=true→dC sc scope N x=true→gF g X x px it ifs elt scope y→G)
  (k2:∀x z px py k pt it ifs,gens=[⟨.Tuple [.Name x px,.Name z py] k pt,it,ifs,0⟩]→T.calm=true→dm sc scope N x z=true→fA g X x z px py k pt it ifs elt scope y→G):G:=by
 obtain⟨q,hg,ex⟩:=bs ex
 have hg:=tV hg
 obtain⟨t,it,ifs⟩:=q
 rcases pM ex with⟨x,hx,ex⟩|⟨_,ex⟩
 ·obtain⟨px,e⟩:=dF hx
  cases e
  obtain⟨⟨hcm,hk⟩,ex⟩:=fU ex
  refine k1 x px it ifs hg hcm hk ?_
  rcases pM ex with⟨⟨r,a⟩,hr,ex⟩|⟨_,ex⟩
  ·obtain⟨p3,p4,e⟩:=gn hr
   cases e
   rcases B1 ex with⟨⟨e,hg2⟩,ex⟩|ex
   ·cases e
    exact(hc C hk).2 _ _ hg2 ex
   ·exact(hc C hk).1 ex
  ·exact(hc C hk).1 ex
 ·obtain⟨⟨x,z⟩,hz,ex⟩:=bs ex
  obtain⟨⟨r,a⟩,hr,ex⟩:=bs ex
  obtain⟨⟨⟨⟨e,hg2⟩,hk⟩,hcm⟩,ex⟩:=fU ex
  cases e
  obtain⟨_,_,_,_,e⟩:=qE hz
  cases e
  obtain⟨_,_,e⟩:=gn hr
  cases e
  obtain⟨a',e1,ex⟩:=bs ex
  obtain⟨e',e2,ex⟩:=bs ex
  refine k2 _ _ _ _ _ _ _ _ hg hcm hk ?_
  cases ifs with
  |nil=>
   cases ex
   exact wD C hcm hk hg2 (cj e1 [] _) (h C e1).1 fun fp s H=>(h (gm C hk fp s H) e2).1
  |cons c l=>
   cases l with
   |cons=>cases ex
   |nil=>
    obtain⟨c',e3,rfl⟩:=map_some ex
    exact qW C hcm hk hg2 (cj e1 [] _) (h C e1).1 (fun fp s H=>(h (gm C hk fp s H) e3).2) fun fp s H=>(h (gm C hk fp s H) e2).1
theorem wA{T:Tab}{g:c_}{sc:Scope}{o':Ex}{m:Str}{xs:List Ex}(C:Ctx T g X sc N)(hl:(ap.endLine==pos.line)=true)(hz:args.length<29)(hb:attributeBase o m X.env (eval o X.env)=eval o X.env)(ho:PE X o (tE X.K (run g o')))
  (hA:PA X args (tA X.K (runs g xs))∧args.length=xs.length∧(∀pos,Plain args X.env pos)∧∀e r,args=e::r→starEach (e::r) X.env=(false,eval e X.env)::starEach r X.env∧∀pos,Plain r X.env pos):PE X (.Call (.Attribute o m ap) args [] pos) (tE X.K (run g (.meth o' m (T.ims m) xs))):=by
 obtain⟨h1,h2,h0,h3⟩:=hA
 cases args with
 |nil=>
  have:xs=[]:=List.length_eq_zero_iff.mp h2.symm
  subst this
  exact wB C hl hb ho
 |cons a as=>
  obtain⟨h4,h5⟩:=h3 _ _ rfl
  exact y3 C hl hz hb ho h1 h4 (h5 _) (h0 _)
theorem AV{T:Tab}{g:c_}{sc:Scope}{m:Str}{xs:List Ex}(C:Ctx T g X sc N)(hu:Bl T sc o m=some j)(hl:(ap.endLine==pos.line)=true)(hz:args.length<29)(hne:(!args.isEmpty)=true)
  (hA:PA X args (tA X.K (runs g xs))∧args.length=xs.length∧(∀pos,Plain args X.env pos)∧∀e r,args=e::r→starEach (e::r) X.env=(false,eval e X.env)::starEach r X.env∧∀pos,Plain r X.env pos):PE X (.Call (.Attribute o m ap) args [] pos) (tE X.K (run g (.fn j xs))):=by
 obtain⟨h1,h2,h0,h3⟩:=hA
 cases args with
 |nil=>cases hne
 |cons a as=>
  obtain⟨h4,h5⟩:=h3 _ _ rfl
  exact Ca C hu hl hz h1 h4 (h5 _) (h0 _)
theorem vj{T:Tab}{g:c_}(h:SE T g n)(hs:Be T g n){sc:Scope}{fp:Pos}{x:Ex}(C:Ctx T g X sc N)(ex:cE T (n+1) sc N (.Call (.Name f fp) args [] cp)=some x):SX g X (.Call (.Name f fp) args [] cp) x:=by
 obtain⟨hg,ex⟩:=fU ex
 rcases pM ex with⟨a,hr,ex⟩|⟨_,ex⟩
 ·obtain⟨hk,ex⟩:=fU ex
  obtain⟨a',ha,rfl⟩:=map_some ex
  obtain⟨rfl,_,_,rfl⟩:=mK hr
  exact both (y4 C hk.2 hg hk.1.1 (cj ha [] _) (h C ha).1) fun _=>rfl
 rcases pM ex with⟨a,hr,ex⟩|⟨_,ex⟩
 ·obtain⟨hk,ex⟩:=fU ex
  obtain⟨a',ha,rfl⟩:=map_some ex
  obtain⟨rfl,_,_,rfl⟩:=mK hr
  exact both (A6 C hk.2 hg hk.1.1 (cj ha [] _) (h C ha).1) fun _=>rfl
 cases args with
 |nil=>cases ex
 |cons a as=>
  have kk:∀{xs:List Ex},nC T n sc N (a::as)=some xs→PA X (a::as) (tA X.K (runs g xs))∧(a::as).length=xs.length∧starEach (a::as) X.env=(false,eval a X.env)::starEach as X.env∧∀pos,Plain as X.env pos:=fun hx=>by
   obtain⟨h1,h2,_,h3⟩:=hs C hx
   exact⟨h1,h2,h3 _ _ rfl⟩
  rcases pM ex with⟨i,hi,ex⟩|⟨_,ex⟩
  ·obtain⟨xs,hx,rfl⟩:=map_some ex
   obtain⟨h1,h2,h4,h5⟩:=kk hx
   exact both (Ce C hg hi h1 h2 h4 (h5 _)) fun _=>rfl
  rcases pM ex with⟨j,hj,ex⟩|⟨_,ex⟩
  ·obtain⟨xs,hx,rfl⟩:=map_some ex
   obtain⟨h1,_,h4,h5⟩:=kk hx
   exact both (AX C hg hj h1 h4 (h5 _)) fun _=>rfl
  rcases pM ex with⟨b,hb,ex⟩|⟨_,ex⟩
  ·obtain⟨hcm,ex⟩:=fU ex
   obtain⟨xs,hx,rfl⟩:=map_some ex
   obtain⟨h1,_,h4,h5⟩:=kk hx
   exact both (Cf C hcm hg hb h1 h4 (h5 _)) fun _=>rfl
  obtain⟨hf,ex⟩:=fU ex
  obtain⟨t',h1,ex⟩:=bs ex
  obtain⟨t,h2,ex⟩:=bs ex
  obtain⟨hgt,ex⟩:=fU ex
  obtain⟨a',ha,ex⟩:=bs ex
  have hh:=d8 h1
  have h3:=dF h2
  rcases pM ex with⟨ty,ht,ex⟩|⟨_,ex⟩
  ·cases ex
   obtain⟨_,rfl⟩:=h3
   subst hh hf
   exact both (A2 C hg hgt ht (h C ha).1 (cj ha _ _)) fun _=>rfl
  rcases B1 ex with⟨hct,ex⟩|ex
  ·cases ex
   obtain⟨_,rfl⟩:=h3
   subst hh hf
   exact both (A3 C hg hct (h C ha).1 (cj ha _ _)) fun _=>rfl
  obtain⟨hct,ex⟩:=fU ex
  cases ex
  obtain⟨_,rfl⟩:=h3
  subst hh hf
  exact both (A1 C hg hgt hct (h C ha).1 (cj ha _ _)) fun _=>rfl
theorem vi{T:Tab}{g:c_}(h:SE T g n)(hs:Be T g n)(hc:SC T g n)(hd:SD T g n):SE T g (n+1):=by
 intro X sc N e x C ex
 cases e with
 |Constant k _ _=>
  cases k with
  |int=>cases ex;exact both (hX (X:=X) (g:=g) ym (d:= .int _) (fun _ _ _=>.int _)) fun _=>rfl
  |str=>cases ex;exact both (hX (X:=X) (g:=g) sQ (d:= .str _) (fun _ _ _=>.str _)) fun _=>rfl
  |bool=>cases ex;exact both (hX (X:=X) (g:=g) AD (d:= .bl _) (fun _ _ _=>.bl _)) fun _=>rfl
  |none=>cases ex;exact both (hX (X:=X) (g:=g) yk (d:= .non) (fun _ _ _=>.non)) fun _=>rfl
  |_=>cases ex
 |Name y _=>
  obtain⟨k,q,ex⟩:=bs ex
  cases k with
  |«local»=>
   obtain⟨i,hi,rfl⟩:=map_some ex
   exact both (uk C hi (.inl q)) fun _=>rfl
  |cell=>
   obtain⟨i,hi,rfl⟩:=map_some ex
   exact both (uk C hi (.inr (.inl q))) fun _=>rfl
  |free=>
   obtain⟨i,hi,rfl⟩:=map_some ex
   exact both (uk C hi (.inr (.inr q))) fun _=>rfl
  |globalImplicit=>
   obtain⟨d,hd,rfl⟩:=map_some ex
   obtain⟨a1,u,v,a2,a3,a4⟩:=C.csts _ _ hd
   exact both (hX (lB (by show X.env.scope.names.lookup _=_;rw[C.sc];exact q) a2 a3 a1) a4) fun _=>rfl
  |_=>cases ex
 |Tuple es _ _=>
  obtain⟨hz,ex⟩:=fU ex
  obtain⟨xs,hx,rfl⟩:=map_some ex
  obtain⟨h1,h2,_⟩:=hs C hx
  exact both (w9 h1 hz h2) fun _=>rfl
 |List es _=>
  obtain⟨hz,ex⟩:=fU ex
  obtain⟨xs,hx,rfl⟩:=map_some ex
  obtain⟨h1,h2,_⟩:=hs C hx
  exact both (AZ h1 hz h2) fun _=>rfl
 |Dict ks vs _=>
  cases ks with
  |nil=>
   cases vs with
   |nil=>cases ex;exact both (A5 (X:=X) (g:=g)) fun _=>rfl
   |cons=>cases ex
  |cons k ks=>
   obtain⟨ks',hk,ex⟩:=bs ex
   obtain⟨vs',he,ex⟩:=bs ex
   obtain⟨hl,ex⟩:=fU ex
   cases ex
   exact both (y7 hd C hk he hl.1 hl.2.1 hl.2.2) fun _=>rfl
 |BinOp a op b _=>
  obtain⟨a',e1,ex⟩:=bs ex
  obtain⟨o,e2,ex⟩:=bs ex
  obtain⟨b',e3,rfl⟩:=map_some ex
  exact both (A8 e2 (h C e1).1 (h C e3).1) fun _=>rfl
 |UnaryOp op a _=>
  cases op with
  |Not=>
   obtain⟨a',ha,rfl⟩:=map_some ex
   exact⟨AW (h C ha).1,zN (h C ha).2⟩
  |USub=>
   obtain⟨a',ha,rfl⟩:=map_some ex
   exact both (AY (h C ha).1) fun _=>rfl
  |_=>cases ex
 |BoolOp op es p=>
  rcases es with _|⟨a,_|⟨b,r⟩⟩
  ·cases ex
  ·exact⟨yi (h C ex).1,zM (h C ex).2⟩
  ·obtain⟨a',e1,ex⟩:=bs ex
   obtain⟨b',e2,rfl⟩:=map_some ex
   cases op with
   |And=>exact⟨A9 (h C e1).1 (h C e2).1,zQ (h C e1).2 (h C e2).2⟩
   |Or=>exact⟨Cb (h C e1).1 (h C e2).1,By (h C e1).2 (h C e2).2⟩
 |Compare a ops bs' _=>
  rcases pM ex with⟨op,ho,ex⟩|⟨_,ex⟩
  ·obtain⟨b,hb,ex⟩:=bs ex
   obtain⟨a',e1,ex⟩:=bs ex
   obtain⟨b',e2,rfl⟩:=map_some ex
   cases d8 ho
   cases d8 hb
   exact⟨A7 C.un (ib e2 _) (h C e1).1 (h C e2).1,zP C.un (ib e2 _) (h C e1).1 (h C e2).1⟩
  ·obtain⟨o,ho,ex⟩:=bs ex
   obtain⟨b,hb,ex⟩:=bs ex
   obtain⟨a',e1,ex⟩:=bs ex
   obtain⟨b',e2,ex⟩:=bs ex
   obtain⟨c',e3,rfl⟩:=map_some ex
   cases gj ho
   cases gj hb
   exact⟨wE C.un (ib e3 _) (h C e1).1 (h C e2).1 (h C e3).1,u9 C.un (ib e3 _) (h C e1).1 (h C e2).1 (h C e3).1⟩
 |Subscript a b _=>
  rcases pM ex with⟨⟨lo,hi⟩,hq,ex⟩|⟨_,ex⟩
  ·obtain⟨p,rfl⟩:=ve hq
   cases lo with
   |none=>
    obtain⟨hh,e0,ex⟩:=bs ex
    cases e0
    obtain⟨a',e1,ex⟩:=bs ex
    obtain⟨h',e2,rfl⟩:=map_some ex
    exact both (yY (h C e1).1 pG (ja (h C e2).1) pL gY) fun _=>rfl
   |some l=>
    obtain⟨a',e1,ex⟩:=bs ex
    obtain⟨l',e2,ex⟩:=bs ex
    cases hi with
    |none=>cases ex;exact both (yY (h C e1).1 (ja (h C e2).1) pG gY pL) fun _=>rfl
    |some hh=>
     obtain⟨h',e3,rfl⟩:=map_some ex
     exact both (yY (h C e1).1 (ja (h C e2).1) (ja (h C e3).1) gY gY) fun _=>rfl
  ·obtain⟨hp,ex⟩:=fU ex
   obtain⟨a',e1,ex⟩:=bs ex
   obtain⟨b',e2,rfl⟩:=map_some ex
   exact both (Cc C.un hp (h C e1).1 (h C e2).1) fun _=>rfl
 |Call f args kws cp=>
  cases kws with
  |cons=>cases ex
  |nil=>
   cases f with
   |Name f _=>exact vj h hs C ex
   |Attribute o m ap=>
    rcases pM ex with⟨j,hu,ex⟩|⟨_,ex⟩
    ·obtain⟨hm,ex⟩:=fU ex
     simp only[Bool.and_eq_true,decide_eq_true_eq] at hm
     obtain⟨xs,hx,rfl⟩:=map_some ex
     exact both (AV C hu hm.1.1 hm.1.2 hm.2 (hs C hx)) fun _=>rfl
    rcases B1 ex with⟨hm,ex⟩|ex
    ·simp only[Bool.and_eq_true] at hm
     cases args with
     |cons=>cases ex
     |nil=>
      obtain⟨o',ho,rfl⟩:=map_some ex
      exact both (yZ hm.1.1 hm.1.2 (jf hm.2 _ _) (h C ho).1) fun _=>rfl
    ·obtain⟨hm,ex⟩:=fU ex
     simp only[Bool.and_eq_true,decide_eq_true_eq] at hm
     obtain⟨o',e1,ex⟩:=bs ex
     obtain⟨as',e2,rfl⟩:=map_some ex
     exact both (wA C hm.1.2 hm.2 (jf hm.1.1 _ _) (h C e1).1 (hs C e2)) fun _=>rfl
   |_=>cases ex
 |ListComp elt gens scope pos=>
  exact qf h hc C ex (fun x px it ifs e hcm hk hd=>by cases e;exact both (hd.pe C hcm hk) fun _=>rfl) fun x z px py k pt it ifs e hcm hk hd=>by cases e;exact both (hd.pe C hcm hk) fun _=>rfl
 |IfExp c a b _=>
  obtain⟨c',e1,ex⟩:=bs ex
  obtain⟨a',e2,ex⟩:=bs ex
  obtain⟨b',e3,rfl⟩:=map_some ex
  exact⟨A0 (h C e1).2 (h C e2).1 (h C e3).1,zO (h C e1).2 (h C e2).2 (h C e3).2⟩
 |Attribute o f _=>
  obtain⟨hf,ex⟩:=fU ex
  obtain⟨o',ho,rfl⟩:=map_some ex
  exact both (A4 C (jf hf _ _) (h C ho).1) fun _=>rfl
 |_=>cases ex
theorem sound(T:Tab)(g:c_):∀n,SE T g n∧Be T g n∧SC T g n∧SD T g n
 |0=>by
  refine⟨?_,?_,?_,?_⟩
  ·intro X sc N e x C h
   cases h
  ·intro X sc N e x C h
   cases h
  ·intro X sc scope N x elt src ifs y px C hc
   exact⟨fun h=>(by cases h),fun _ _ _ h=>(by cases h)⟩
  ·intro X sc N es xs ks keys pos C h
   cases h
 |n+1=>by
  obtain⟨a,b,c,d⟩:=sound T g n
  exact⟨vi a b c d,rZ a b,vn a,vm (fun C e=>(a C e).1) d⟩
noncomputable def isLocal(sc:Scope)(x:Str):Bool:=sc.names.lookup x==some .local||sc.names.lookup x==some .cell
noncomputable def lG:Expr→Bool
 | .ListComp .. =>true
 |_=>false
noncomputable def hG(s:Str):Bool:=s== "append"
noncomputable def wl:Expr→Bool
 | .Name .. =>true
 | .Call .. =>true
 | .Subscript .. =>true
 | .Constant .. =>true
 | .BinOp .. =>true
 | .Attribute .. =>true
 | .List .. =>true
 | .Tuple .. =>true
 | .Dict .. =>true
 | .UnaryOp .. =>true
 | .Compare .. =>true
 |_=>false
noncomputable def rP(sc:Scope)(N:List Str):List Expr→Option (List Nat)
 |[]=>some []
 |e::r=>(uL e).bind fun x=>if isLocal sc x=true then(dX N x).bind fun i=>(rP sc N r).map fun is=>i::is else none
noncomputable def oP(T:Tab)(n:Nat)(sc:Scope)(N:List Str)(k:Tg)(e:Expr):Option S:=(uB e).bind fun p=>if bc sc p.1=true∧p.2≠[] then(dX T.fns p.1).bind fun i=>(nC T n sc N p.2).map fun as'=>.callx k i as' else none
noncomputable def cX(T:Tab)(n:Nat)(sc:Scope)(N:List Str)(s:Stmt):Option S:=match s with
 | .Expr e _=>oP T n sc N .no e
 | .Assign ts e _=>(one ts).bind fun t=>(uL t).bind fun x=>if isLocal sc x=true then(dX N x).bind fun j=>oP T n sc N (.set j) e else none
 | .Raise o c _=>(match c with
  |none=>o.bind fun e=>(uB e).bind fun p=>if bc sc p.1=true∧p.2.length≤900 then(T.ini.lookup p.1).bind fun j=>(nC T n sc N p.2).map fun as'=>.rais p.1 j as' else none
  |_=>none)
 |_=>none
noncomputable def w6(sc:Scope)(e:Expr):Option Expr:=(jW e).bind fun p=>if p.1= "enumerate" ∧bc sc p.1=true then some p.2 else none
theorem qU{sc:Scope}(h:w6 sc e=some a):bc sc "enumerate"=true∧∃p q,e= .Call (.Name "enumerate" p) [a] [] q:=by
 obtain⟨⟨r,b⟩,h1,h⟩:=bs h
 obtain⟨⟨e,hg⟩,h⟩:=fU h
 cases h
 cases e
 exact⟨hg,gn h1⟩
noncomputable def zz(sc:Scope)(e:Expr):Option (Expr×Expr):=(uB e).bind fun p=>if p.1= "zip" ∧bc sc p.1=true then mD p.2 else none
theorem ri{sc:Scope}{z:Expr×Expr}(h:zz sc e=some z):bc sc "zip"=true∧∃p q,e= .Call (.Name "zip" p) [z.1,z.2] [] q:=by
 obtain⟨⟨r,as⟩,h1,h⟩:=bs h
 obtain⟨⟨e,hg⟩,h⟩:=fU h
 cases e
 cases gj h
 exact⟨hg,ia h1⟩
noncomputable def Cs{α:Type}:List α→Option (α×List α)
 |[]=>none
 |a::l=>some (a,l)
theorem uX{l:List α}{p:α×List α}(h:Cs l=some p):l=p.1::p.2:=by
 cases l<;>cases h
 rfl
noncomputable def B9:ExceptHandler→Option (Str×Str×Stmt×List Stmt)
 | .ExceptHandler o y l _=>o.bind fun e=>(uL e).bind fun t=>y.bind fun x=>(Cs l).map fun q=>(t,x,q)
theorem p5{h:ExceptHandler}{z:Str×Str×Stmt×List Stmt}(e:B9 h=some z):∃p q,h= .ExceptHandler (some (.Name z.1 p)) (some z.2.1) (z.2.2.1::z.2.2.2) q:=by
 obtain⟨o,y,l,q⟩:=h
 obtain⟨e1,h1,e⟩:=bs e
 obtain⟨t,h2,e⟩:=bs e
 obtain⟨x,h3,e⟩:=bs e
 obtain⟨b,h4,rfl⟩:=map_some e
 obtain⟨p,rfl⟩:=dF h2
 cases h1
 cases h3
 cases uX h4
 exact⟨p,q,rfl⟩
noncomputable def Bc:Expr→Option (Expr×Expr)
 | .Call (.Attribute o m ap) as ks cp=>(match ks with
  |[]=>(one as).bind fun a=>if(hG m&&(ap.endLine==cp.line)&&gk o)=true then some (o,a) else none
  |_=>none)
 |_=>none
theorem uE{z:Expr×Expr}(h:Bc e=some z):∃m ap cp,e= .Call (.Attribute z.1 m ap) [z.2] [] cp∧(hG m&&(ap.endLine==cp.line)&&gk z.1)=true:=by
 cases e with
 |Call f as ks cp=>
  cases f with
  |Attribute o m ap=>
   cases ks with
   |cons=>cases h
   |nil=>
    obtain⟨a,h1,h⟩:=bs h
    obtain⟨h2,h⟩:=fU h
    cases h
    cases d8 h1
    exact⟨m,ap,cp,rfl,h2⟩
  |_=>cases h
 |_=>cases h
noncomputable def Tab.suite(T:Tab):Tab:={T with fns:=[],ini:=[],calm:=false,rz:=false,icl:=[],mks:=[],ums:=[]}
mutual
noncomputable def cS(T:Tab)(n:Nat)(sc:Scope)(N:List Str)(s:Stmt):Option S:=match n with
 |0=>none
 |n+1=>(if T.rz=true then cX T n sc N s else none).elim (CA T n sc N s) some
noncomputable def CA(T:Tab)(n:Nat)(sc:Scope)(N:List Str)(s:Stmt):Option S:=match n with
 |0=>none
 |n+1=>match s with
  | .Assign ts e _=>(one ts).bind fun t=>match t with
   | .Name x _=>if isLocal sc x=true then(dX N x).bind fun i=>(cE T n sc N e).map fun e'=>.set i e' else none
   | .Subscript o i _=>if gW i=true∧wl e=true then(cE T n sc N o).bind fun o'=>(cE T n sc N i).bind fun i'=>(cE T n sc N e).map fun e'=>.setix o' i' e' else none
   | .Attribute o f _=>if wl e=true then(cE T n sc N o).bind fun o'=>(cE T n sc N e).map fun e'=>.setf o' f e' (T.ecs f) (T.ics f) else none
   |_=>none
  | .Return o _=>(match o with
   |some e=>some ((cE T n sc N e).elim .stop .ret)
   |none=>some .ret0)
  | .Expr e _=>(Bc e).elim (if lG e=false then(cE T n sc N e).map .ex else none) fun q=>(cE T n sc N q.1).bind fun o'=>(cE T n sc N q.2).map fun e'=>.app o' e'
  | .AugAssign t op e _=>(match t with
   | .Attribute o f _=>(match op with
    | .Add=>(cE T n sc N o).bind fun o'=>(cE T n sc N e).map fun e'=>.augf o' f e' (T.ics f)
    |_=>none)
   |_=>none)
  | .If c a b _=>(cE T n sc N c).bind fun c'=>(uC T n sc N a).bind fun a'=>(uC T n sc N b).map fun b'=>.ite c' a' b'
  | .For t it body els _=>(match els with
   |[]=>(match t with
   | .Name x _=>if isLocal sc x=true∧T.calm=true then(dX N x).bind fun i=>(uC T n sc N body).bind fun b'=>(cE T n sc N it).map fun a'=>.for_ i false a' b' else none
   | .Tuple ts _ _=>if T.calm=true then(rP sc N ts).bind fun is=>(uC T n sc N body).bind fun b'=>(w6 sc it).elim ((zz sc it).bind fun q=>(cE T n sc N q.1).bind fun a'=>(cE T n sc N q.2).map fun c'=>.forZ is a' c' b') fun a=>(cE T n sc N a).map fun a'=>.forE is a' b' else none
   |_=>none)
   |_=>none)
  | .While c body els _=>(match els with
   |[]=>(cE T n sc N c).bind fun c'=>(uC T n sc N body).map fun b'=>.whil c' b'
   |_=>none)
  | .Pass _=>some .pass
  | .Try body hs els fin _=>(match els with
   |[]=>(match fin with
   |[]=>(mD hs).bind fun h=>(B9 h.1).bind fun p=>(B9 h.2).bind fun q=>if((((bc sc p.1&&T.cats.contains p.1)&&(sc.names.lookup p.2.1==some .local))&&((bc sc q.1&&T.cats.contains q.1)&&(sc.names.lookup q.2.1==some .local)))=true)∧T.calm=true then(dX N p.2.1).bind fun i=>(dX N q.2.1).bind fun i2=>(uC T n sc N body).bind fun b'=>(uC T.suite n sc N (p.2.2.1::p.2.2.2)).bind fun s'=>(uC T.suite n sc N (q.2.2.1::q.2.2.2)).map fun s2'=>.try2 b' (T.yes [p.1]) (T.no [p.1]) i s' (T.yes [q.1]) i2 s2' else none
   |_=>none)
   |_=>none)
  |_=>none
noncomputable def uC(T:Tab)(n:Nat)(sc:Scope)(N:List Str)(ss:List Stmt):Option (List S):=match n with
 |0=>none
 |n+1=>match ss with
  |[]=>some []
  |s::r=>(uC T n sc N r).map fun r'=>(cS T n sc N s).getD .stop::r'
end
noncomputable def c7(K:ao)(Xw:Addr→L2.St→Hp→Prop)(H:Hp)(ι:Nat→Addr)(st:aS)(r:R Fl)(D:Ends):Prop:=match r with
 | .ok (.nx loc) st'=>∀H' ι' σ',Ext H H' ι ι' st.length st'.length→Sim K H' ι' st'→LRel K H' ι' st'.length loc σ'→D.nx σ' H'
 | .ok (.rt d) st'=>∀H' ι' v,Ext H H' ι ι' st.length st'.length→Sim K H' ι' st'→VRel K H' ι' st'.length d v→D.rt v H'
 | .ok (.ex n loc) st'=>∀H' ι' σ',Ext H H' ι ι' st.length st'.length→Sim K H' ι' st'→LRel K H' ι' st'.length loc σ'→Xw (ι' n) σ' H'
 | .bad=>False
noncomputable def tS(K:ao)(Xw:Addr→L2.St→Hp→Prop)(m:Loc→M Fl):TS:=fun D σ H=>∃ι st loc,Sim K H ι st∧LRel K H ι st.length loc σ∧c7 K Xw H ι st (m loc st) D
section
variable{K:ao}{Xw:Addr→L2.St→Hp→Prop}{H:Hp}{ι:Nat→Addr}{st:aS}
theorem aU{m:M α}{f:α→M Fl}{st0:aS}{D:Ends}(P:c7 K Xw H ι st (ba m f st0) D):∃a st1,m st0=.ok a st1∧c7 K Xw H ι st (f a st1) D:=by
 unfold ba at P
 cases e:m st0 with
 |ok a st1=>rw[e] at P;exact⟨a,st1,rfl,P⟩
 |bad=>rw[e] at P;exact P.elim
theorem c7.mono{r:R Fl}{D:Ends}{H1:Hp}{st1:aS}(P:c7 K Xw H ι st r D)(E:Ext H H1 ι ι1 st.length st1.length):c7 K Xw H1 ι1 st1 r D:=by
 cases r with
 |ok f st2=>
  cases f with
  |nx loc=>exact fun H' ι' σ' E' S' r'=>P H' ι' σ' (E.trans E') S' r'
  |rt d=>exact fun H' ι' v E' S' r'=>P H' ι' v (E.trans E') S' r'
  |ex n loc=>exact fun H' ι' σ' E' S' r'=>P H' ι' σ' (E.trans E') S' r'
 |bad=>exact P
end
theorem _root_.L2.PS.imp{X:Cx}{s:Stmt}{t t':TS}(h:PS X s t)(k:∀D σ H,t' D σ H→t D σ H):PS X s t':=fun pins s σ H D I q=>h pins s σ H D I (k D σ H q)
theorem _root_.L2.PSs.imp{X:Cx}{s:List Stmt}{t t':TS}(h:PSs X s t)(k:∀D σ H,t' D σ H→t D σ H):PSs X s t':=fun pins s σ H D I q=>h pins s σ H D I (k D σ H q)
section
variable{T:Tab}{g:c_}{X:Cx}{sc:Scope}{N:List Str}{pos p2 p3:Pos}{Xw:Addr→L2.St→Hp→Prop}
theorem iD(C:Ctx T g X sc N)(h:isLocal sc x=true):L2.Loc X.env.scope x:=by
 show X.env.scope.names.lookup x=_∨X.env.scope.names.lookup x=_
 rw[C.sc]
 simpa[isLocal] using h
theorem n8{e':Ex}{D:Ends}(h:tS X.K Xw (exec g (.set i e')) D σ H):qr (tE X.K (run g e')) (eW i) D σ H:=by
 obtain⟨ι,st,loc,S,L,P⟩:=h
 rw[exec] at P
 obtain⟨d,st1,e1,P⟩:=aU P
 exact bi S L e1 fun H1 ι1 v E1 S1 r1=>P H1 ι1 _ E1 S1 ((L.ext E1).set i r1)
theorem DRels.anyK{K:ao}{k:Key}{kvs:List (Key×D)}{vs:List (Key×V)}(h:DRels K H ι m kvs vs):(kvs.any fun kv=>decide (kv.1=k))=vs.any fun kv=>decide (kv.1=k):=by
 induction h with
 |nil=>rfl
 |cons h t ih=>rw[List.any_cons,List.any_cons,ih]
theorem DRels.repl{K:ao}{k:Key}{d:D}{kvs:List (Key×D)}{vs:List (Key×V)}(h:DRels K H ι m kvs vs)(q:VRel K H ι m d v):DRels K H ι m (kvs.map fun kv=>if kv.1=k then(kv.1,d) else kv) (vs.map fun kv=>if kv.1=k then(kv.1,v) else kv):=by
 induction h with
 |nil=>exact .nil
 | @cons k' d' v' ds vs h t ih=>
  rw[List.map_cons,List.map_cons]
  by_cases e:k'=k
  ·rw[if_pos e,if_pos e];exact .cons q ih
  ·rw[if_neg e,if_neg e];exact .cons h ih
theorem DRels.put{K:ao}{k:Key}{d:D}{kvs:List (Key×D)}{vs:List (Key×V)}(h:DRels K H ι m kvs vs)(q:VRel K H ι m d v):DRels K H ι m (jx kvs k d) (putK vs k v):=by
 unfold jx putK
 rw[h.anyK]
 split
 ·exact h.repl q
 ·exact h.append (.cons q .nil)
theorem vq{i:Expr}{o' i' e':Ex}(hu:X.A.units+1<cLine)(hp:gW i=true)(hn:wl e=true)(ho:PE X o (tE X.K (run g o')))(hi:PE X i (tE X.K (run g i')))(he:PE X e (tE X.K (run g e'))):PS X (.Assign [.Subscript o i p2] e pos) (tS X.K Xw (exec g (.setix o' i' e'))):=by
 refine(vX hu ho hi he (by cases e<;>first|rfl|cases hn)).imp fun D σ H hp=>?_
 obtain⟨ι,st,loc,S,L,P⟩:=hp
 rw[exec] at P
 obtain⟨d,st1,e1,P⟩:=aU P
 obtain⟨x,st2,e2,P⟩:=aU P
 obtain⟨k,st3,e3,P⟩:=aU P
 obtain⟨u,st4,e4,P⟩:=aU P
 have sz:sizeLine=16777216:=sizeLine_eq
 unfold gU at e4
 cases x with
 |ref n0=>
  dsimp only at e4
  split at e4
  ·rename_i kvs q
   split at e4
   ·rename_i kk hk
    split at e4
    ·rename_i hl
     cases e4
     refine bi S L e1 fun H1 ι1 v E1 S1 r1=>bi S1 (L.ext E1) e2 fun H2 ι2 vx E2 S2 r2=>bi S2 ((L.ext E1).ext E2) e3 fun H3 ι3 vk E3 S3 r3=>?_
     have r2':=r2.ext E3
     have r1':=(r1.ext E2).ext E3
     have hv:=wf hk r3
     subst hv
     cases r2' with
     |ref hn=>
      obtain⟨vs,g1,g2⟩:=S3.ob _ _ q
      have ll:=g2.length
      obtain⟨E4,S4⟩:=S3.writeD q (g2.put (k:=kk) r1')
      refine⟨_,_,rfl,uJ.k (k:=kk) g1 (by omega),?_⟩
      have E5:=(E1.trans E2).trans E3
      have E4':Ext H3 (bm H3 (ι3 n0) (.dK (putK vs kk v))) ι3 ι3 st3.length (st3.set n0 (O.dct (jx kvs kk d))).length:=by rw[aF];exact E4
      exact P _ ι3 σ (E5.trans E4') S4 (((L.ext E5)).ext E4')
    ·cases e4
   ·cases e4
  ·cases e4
 |_=>cases e4
theorem Ah{e':Ex}(he:PE X e (tE X.K (run g e'))):PS X (.Return (some e) pos) (tS X.K Xw (exec g (.ret e'))):=
 (x_ he).imp fun D σ H hp=>by
  obtain⟨ι,st,loc,S,L,P⟩:=hp
  rw[exec] at P
  obtain⟨d,st1,e1,P⟩:=aU P
  exact bi S L e1 fun H1 ι1 v E1 S1 r1=>P H1 ι1 v E1 S1 r1
theorem sg{s₀:Stmt}:PS X s₀ (tS X.K Xw (exec g .stop)):=by
 intro pins s σ H D I h
 obtain⟨ι,st,loc,S,L,P⟩:=h
 rw[exec] at P
 exact False.elim P
theorem xH:PS X (.Return none pos) (tS X.K Xw (exec g .ret0)):=
 vU.imp fun D σ H hp=>by
  obtain⟨ι,st,loc,S,L,P⟩:=hp
  rw[exec] at P
  exact P H ι .non (Ext.refl _ _ _) S .non
theorem BP{e':Ex}(hk:lG e=false)(hm:∃n sc N,cE T n sc N e=some e')(he:PE X e (tE X.K (run g e'))):PS X (.Expr e pos) (tS X.K Xw (exec g (.ex e'))):=by
 obtain⟨n,sc',N',hm⟩:=hm
 have hs:swapsWith e none pos.line X.env=pure false:=by
  cases n with
  |zero=>cases hm
  |succ n=>cases e<;>first|rfl|(cases hm;done)|cases hk
 refine(lu he hs).imp fun D σ H hp=>?_
 obtain⟨ι,st,loc,S,L,P⟩:=hp
 rw[exec] at P
 obtain⟨d,st1,e1,P⟩:=aU P
 exact bi S L e1 fun H1 ι1 v E1 S1 r1=>P H1 ι1 σ E1 S1 (L.ext E1)
theorem An{o' e':Ex}{m:Str}(hm:hG m=true)(hl:(ap.endLine==cp.line)=true)(hst:starEach [e] X.env=[(false,eval e X.env)])(hb:attributeBase o m X.env (eval o X.env)=eval o X.env)(ho:PE X o (tE X.K (run g o')))(he:PE X e (tE X.K (run g e'))):
  PS X (.Expr (.Call (.Attribute o m ap) [e] [] cp) pos) (tS X.K Xw (exec g (.app o' e'))):=by
 have hm:m= "append":=by simpa[hG] using hm
 subst hm
 refine(lu (AC PySem.F.plainAttrs_list PySem.F.slot_list_append PySem.F.type_list_append iB ho (bG he dA hst) hb (by rw[hst];rfl) hl hst rfl)).imp fun D σ H hp=>?_
 obtain⟨ι,st,loc,S,L,P⟩:=hp
 rw[exec] at P
 obtain⟨x,st1,e1,P⟩:=aU P
 obtain⟨u0,st0,e0,P⟩:=aU P
 obtain⟨d,st2,e2,P⟩:=aU P
 obtain⟨u,st3,e3,P⟩:=aU P
 have sz:sizeLine=16777216:=sizeLine_eq
 unfold append at e3
 split at e3
 ·rename_i n z1 z0
  split at e3
  ·rename_i xs q
   split at e3
   ·rename_i hz
    cases e3
    simp only[mI] at e0
    split at e0
    ·rename_i zs q0
     cases e0
     refine bi S L e1 fun H1 ι1 vx E1 S1 r1=>?_
     cases r1 with
     |ref hn=>
      obtain⟨ws,w1,_⟩:=S1.ob _ _ q0
      refine⟨.inl ⟨rfl,ws,dz.of w1⟩,bi S1 (L.ext E1) e2 fun H2 ι2 v E2 S2 r2=>?_⟩
      obtain⟨vs,g1,g2⟩:=S2.ob _ _ q
      have l:=g2.length
      have rr:=g2.append (.cons r2 .nil)
      obtain⟨E4,S4⟩:=S2.write q rr
      rw[E2.ad n hn] at g1 E4 S4
      refine⟨_,_,_,rfl,rfl,g1,by omega,?_⟩
      have E5:=E1.trans E2
      have E4':Ext H2 (bm H2 (ι1 n) (.lst (vs++[v]))) ι2 ι2 st2.length (st2.set n (O.lst (xs++[d]))).length:=by rw[aF];exact E4
      exact P _ ι2 σ (E5.trans E4') S4 ((L.ext E5).ext E4')
    ·cases e0
   ·cases e3
  ·cases e3
 ·cases e3
theorem BO{a b:List Stmt}{c':Ex}{a' b':List S}(hc:PT X c (tT X.K (run g c')))(ha:PSs X a (tS X.K Xw (execs g a')))(hb:PSs X b (tS X.K Xw (execs g b'))):PS X (.If c a b pos) (tS X.K Xw (exec g (.ite c' a' b'))):=
 (Aw hc ha hb).imp fun D σ H hp=>by
  obtain⟨ι,st,loc,S,L,P⟩:=hp
  rw[exec] at P
  obtain⟨x,st1,e1,P⟩:=aU P
  obtain⟨i,st2,e2,P⟩:=aU P
  obtain⟨e3,rfl⟩:=bA e2
  have:=bR e3
  subst this
  refine iL S L e1 fun H1 ι1 E1 S1=>?_
  cases i with
  |true=>rw[if_pos rfl];exact⟨ι1,st2,loc,S1,L.ext E1,P.mono E1⟩
  |false=>rw[if_neg av];exact⟨ι1,st2,loc,S1,L.ext E1,P.mono E1⟩
theorem xJ:PS X (.Pass pos) (tS X.K Xw (exec g .pass)):=
 vV.imp fun D σ H hp=>by
  obtain⟨ι,st,loc,S,L,P⟩:=hp
  rw[exec] at P
  exact P H ι σ (Ext.refl _ _ _) S L
theorem xy{body:List Stmt}{c':Ex}{b':List S}(hp:PassesOwn (model X.prog X.w) X.A X.env X.xe)(hc:PT X c (tT X.K (run g c')))(hb:PSs X body (tS X.K Xw (execs g b'))):PS X (.While c body [] pos) (tS X.K Xw (exec g (.whil c' b'))):=by
 refine(sJ hp hc hb).imp fun D σ H hp=>?_
 obtain⟨ι,st,loc,S,L,P⟩:=hp
 rw[exec] at P
 refine⟨fun m σ2 H2=>∃ι2 st2 loc2,Ext H H2 ι ι2 st.length st2.length∧Sim X.K H2 ι2 st2∧LRel X.K H2 ι2 st2.length loc2 σ2∧c7 X.K Xw H ι st (gG (run g c') (execs g b') m loc2 st2) D,⟨yU,ι,st,loc,Ext.refl _ _ _,S,L,P⟩,?_⟩
 rintro m σ2 H2 ⟨ι2,st2,loc2,E2,S2,L2',P2⟩
 cases m with
 |zero=>exact P2.elim
 |succ m=>
  rw[gG] at P2
  obtain⟨x,st3,e3,P3⟩:=aU P2
  obtain⟨b,st4,e4,P4⟩:=aU P3
  obtain⟨e5,rfl⟩:=bA e4
  have:=bR e5
  subst this
  refine iL S2 L2' e3 fun H3 ι3 E3 S3=>?_
  cases b with
  |false=>
   rw[if_neg av]
   exact P4 H3 ι3 σ2 (E2.trans E3) S3 (L2'.ext E3)
  |true=>
   rw[if_pos rfl]
   refine⟨fun σ4 H4=>∃ι4 st5 loc5,Ext H H4 ι ι4 st.length st5.length∧Sim X.K H4 ι4 st5∧LRel X.K H4 ι4 st5.length loc5 σ4∧c7 X.K Xw H ι st (gG (run g c') (execs g b') m loc5 st5) D,fun σ' H' q=>⟨m,aG _,q⟩,?_⟩
   rw[if_pos rfl] at P4
   obtain⟨r,st6,e6,P6⟩:=aU P4
   refine⟨ι3,st4,loc2,S3,L2'.ext E3,?_⟩
   rw[e6]
   cases r with
   |nx loc3=>exact fun H4 ι4 σ4 E4 S4 L4=>⟨ι4,st6,loc3,(E2.trans E3).trans E4,S4,L4,P6⟩
   |rt d=>exact fun H4 ι4 w E4 S4 r4=>P6 H4 ι4 w ((E2.trans E3).trans E4) S4 r4
   |ex n l=>exact fun H4 ι4 σ4 E4 S4 L4=>P6 H4 ι4 σ4 ((E2.trans E3).trans E4) S4 L4
noncomputable def lN:List Nat→uM
 |[]=>wr
 |i::is=>ky (eW i) (lN is)
theorem jA(C:Ctx T g X sc N)(hfn:∀y,X.fn y=true):∀{ts:List Expr}{is:List Nat},rP sc N ts=some is→zw X ts (lN is)∧(assignEach ts X.env).length=is.length∧(assignEach ts X.env).findIdx? (·.1)=none
 |[],is,h=>by cases h;exact⟨pI,rfl,rfl⟩
 |t::r,is,h=>by
  obtain⟨x,hx,h⟩:=bs h
  obtain⟨hl,h⟩:=fU h
  obtain⟨i,hi,h⟩:=bs h
  obtain⟨is',hr,rfl⟩:=map_some h
  obtain⟨px,rfl⟩:=dF hx
  obtain⟨h1,h2,h3⟩:=jA C hfn hr
  refine⟨jy (jb (i:=i) (by rw[C.n];exact C.nd) (by rw[C.n];exact b_ hi) (iD C hl) (.inl (hfn x))) h1 rfl,?_,?_⟩
  ·show(assignEach r X.env).length+1=is'.length+1
   rw[h2]
  ·show(((false,assign (.Name x px) X.env)::assignEach r X.env).findIdx? (·.1))=none
   rw[List.findIdx?_cons,h3];rfl
theorem mF{K:ao}{H:Hp}{ι:Nat→Addr}{m:Nat}{Q:L2.St→Hp→Prop}:∀{is:List Nat}{ds:List D}{vs:List V}{loc:Loc}{σ:L2.St},VRels K H ι m ds vs→ds.length=is.length→LRel K H ι m loc σ→(∀σ',LRel K H ι m (jv is ds loc) σ'→Q σ' H)→lN is vs σ H Q
 |[],_,_,_,_,.nil,_,L,k=>⟨rfl,k _ L⟩
 |i::is,_,_,_,_,.cons (v:=v) (vs:=vs) h t,hl,L,k=>⟨v,vs,rfl,mF t (by simpa using hl) (L.set i h) k⟩
 |[],_,_,_,_,.cons _ _,hl,_,_=>by simp at hl
 |_::_,_,_,_,_,.nil,hl,_,_=>by simp at hl
theorem oG{s:Src}{st st0:aS}{H0:Hp}{loc:Loc}{D:Ends}{b':List S}
  (F:fc X.K J s H ι st.length)(E0:Ext H0 H ι0 ι st0.length st.length)(Sm:Sim X.K H ι st)(L:LRel X.K H ι st.length loc σ)(P:c7 X.K Xw H0 ι0 st0 (eY (fun x loc'=>execs g b' (loc'.set i (some x))) s loc st) D):
  ∃W:Nat→Nat→L2.St→Hp→Prop,(∃m,W 0 m σ H)∧∀k m σ H,W k m σ H→
   (J.stop k H∧D.nx σ H)∨(J.go k H∧∃Nn:L2.St→Hp→Prop,(∀σ' H',Nn σ' H'→∃m',m'<m∧W (k+1) m' σ' H')∧∀x H',J.yld k H x H'→eW i x σ H' fun σ2 H2=>tS X.K Xw (execs g b') {D with nx:=Nn,ct:=Nn,bk:=D.nx} σ2 H2):=by
 refine⟨fun k m σ2 H2=>∃ι2 st2 loc2,Ext H H2 ι ι2 st.length st2.length∧Sim X.K H2 ι2 st2∧LRel X.K H2 ι2 st2.length loc2 σ2∧c7 X.K Xw H0 ι0 st0 (fi (fun x loc'=>execs g b' (loc'.set i (some x))) s m k loc2 st2) D,⟨gJ s st+1,ι,st,loc,Ext.refl _ _ _,Sm,L,P⟩,?_⟩
 rintro k m σ2 H2 ⟨ι2,st2,loc2,E2,S2,L2',P2⟩
 obtain⟨c1,c2⟩:=F H2 ι2 st2 k E2 S2
 cases m with
 |zero=>exact P2.elim
 |succ m=>
  simp only[fi] at P2
  cases en:gR s k st2 with
  |none=>rw[en] at P2;exact P2.elim
  |some ox=>
   rw[en] at P2
   cases ox with
   |none=>exact .inl ⟨c1 en,P2 H2 ι2 σ2 (E0.trans E2) S2 L2'⟩
   |some x=>
    obtain⟨hgo,hyl⟩:=c2 x en
    refine .inr ⟨hgo,fun σ3 H3=>∃ι3 st3 loc3,Ext H H3 ι ι3 st.length st3.length∧Sim X.K H3 ι3 st3∧LRel X.K H3 ι3 st3.length loc3 σ3∧c7 X.K Xw H0 ι0 st0 (fi (fun x loc'=>execs g b' (loc'.set i (some x))) s m (k+1) loc3 st3) D,fun σ' H' q=>⟨m,aG _,q⟩,fun v H' y=>?_⟩
    obtain⟨rfl,rv⟩:=hyl v H' y
    obtain⟨r,st3,e3,P3⟩:=aU P2
    refine⟨ι2,st2,loc2.set i (some x),S2,L2'.set i rv,?_⟩
    rw[e3]
    cases r with
    |nx loc3=>exact fun H3 ι3 σ3 E3 S3 L3=>⟨ι3,st3,loc3,E2.trans E3,S3,L3,P3⟩
    |rt d=>exact fun H3 ι3 w E3 S3 r3=>P3 H3 ι3 w ((E0.trans E2).trans E3) S3 r3
    |ex n l=>exact fun H3 ι3 σ3 E3 S3 L3=>P3 H3 ι3 σ3 ((E0.trans E2).trans E3) S3 L3
theorem pY{f:D→Loc→M Fl}{loc:Loc}(n:Nat)(st:aS)(h:∀xs,st[n]?≠some (.lst xs)):eY f (.at n) loc st=.bad:=by
 unfold eY
 simp only[fi,pN h]
theorem lO{s:Src}{st st0:aS}{H0:Hp}{loc:Loc}{D:Ends}{b':List S}
  (F:d3 X.K J s H ι st.length)(E0:Ext H0 H ι0 ι st0.length st.length)(Sm:Sim X.K H ι st)(L:LRel X.K H ι st.length loc σ)(P:c7 X.K Xw H0 ι0 st0 (eY (fun x loc'=>ba (items? is.length x) fun ds=>execs g b' (jv is ds loc')) s loc st) D):
  ∃W:Nat→Nat→L2.St→Hp→Prop,(∃m,W 0 m σ H)∧∀k m σ H,W k m σ H→
   (J.stop k H∧D.nx σ H)∨(J.go k H∧∃Nn:L2.St→Hp→Prop,(∀σ' H',Nn σ' H'→∃m',m'<m∧W (k+1) m' σ' H')∧∀x H',J.yld k H x H'→AR X.K is.length (lN is) x σ H' fun σ2 H2=>tS X.K Xw (execs g b') {D with nx:=Nn,ct:=Nn,bk:=D.nx} σ2 H2):=by
 refine⟨fun k m σ2 H2=>∃ι2 st2 loc2,Ext H H2 ι ι2 st.length st2.length∧Sim X.K H2 ι2 st2∧LRel X.K H2 ι2 st2.length loc2 σ2∧c7 X.K Xw H0 ι0 st0 (fi (fun x loc'=>ba (items? is.length x) fun ds=>execs g b' (jv is ds loc')) s m k loc2 st2) D,⟨gJ s st+1,ι,st,loc,Ext.refl _ _ _,Sm,L,P⟩,?_⟩
 rintro k m σ2 H2 ⟨ι2,st2,loc2,E2,S2,L2',P2⟩
 obtain⟨c1,c2⟩:=F H2 ι2 st2 k E2 S2
 cases m with
 |zero=>exact P2.elim
 |succ m=>
  simp only[fi] at P2
  cases en:gR s k st2 with
  |none=>rw[en] at P2;exact P2.elim
  |some ox=>
   rw[en] at P2
   cases ox with
   |none=>exact .inl ⟨c1 en,P2 H2 ι2 σ2 (E0.trans E2) S2 L2'⟩
   |some x=>
    obtain⟨hgo,hyl⟩:=c2 x en
    refine .inr ⟨hgo,fun σ3 H3=>∃ι3 st3 loc3,Ext H H3 ι ι3 st.length st3.length∧Sim X.K H3 ι3 st3∧LRel X.K H3 ι3 st3.length loc3 σ3∧c7 X.K Xw H0 ι0 st0 (fi (fun x loc'=>ba (items? is.length x) fun ds=>execs g b' (jv is ds loc')) s m (k+1) loc3 st3) D,fun σ' H' q=>⟨m,aG _,q⟩,fun v H' y=>?_⟩
    obtain⟨EH,SH,rv⟩:=hyl v H' y
    have EH2:=E2.trans EH
    have L3':=L2'.ext EH
    obtain⟨r,st3,e3,P3⟩:=aU P2
    unfold items? at e3
    cases es:cr st2 x with
    |none=>simp only[ba,es] at e3;cases e3
    |some xs=>
     by_cases hl:xs.length=is.length
     ·have e4:execs g b' (jv is xs loc2) st2=.ok r st3:=by
       simp only[ba,es,if_pos hl] at e3
       exact e3
      obtain⟨a,vs,rfl,hq,rw'⟩:=rv.seq SH es
      refine⟨a,vs,rfl,hq,by rw[←rw'.length];exact hl,mF rw' hl L3' fun σ' L'=>⟨ι2,st2,jv is xs loc2,SH,L',?_⟩⟩
      rw[e4]
      cases r with
      |nx loc3=>exact fun H3 ι3 σ3 E3 S3 L3=>⟨ι3,st3,loc3,EH2.trans E3,S3,L3,P3⟩
      |rt d=>exact fun H3 ι3 w E3 S3 r3=>P3 H3 ι3 w ((E0.trans EH2).trans E3) S3 r3
      |ex n l=>exact fun H3 ι3 σ3 E3 S3 L3=>P3 H3 ι3 σ3 ((E0.trans EH2).trans E3) S3 L3
     ·simp only[ba,es,if_neg hl] at e3
      cases e3
theorem d3.zp{K:ao}{a:Addr}{xs:List D}{H0:Hp}(hn:n<m0)(r:VRel K H0 ι0 m0 (.tup xs) (.ref a)):d3 K (Cm K a (ι0 n)) (.zp xs n) H0 ι0 m0:=fun H ι st i E S=>by
 have en:ι n=ι0 n:=E.ad n hn
 cases r.ext E with
 | @tup _ _ vs h' r=>
  have l:=r.length
  simp only[gR]
  cases q:st[n]? with
  |none=>exact⟨fun e=>(by cases e),fun x e=>(by cases e)⟩
  |some o=>
   cases o with
   |lst ys=>
    obtain⟨ws,g1,g2⟩:=S.ob n _ q
    have l2:=g2.length
    rw[en] at g1
    dsimp only
    refine⟨fun e=>?_,fun x e=>?_⟩
    ·have e:=aj e
     refine⟨vs,ws,h',dz.of g1,?_⟩
     cases e1:xs[i]? with
     |none=>exact .inl (by have:=List.getElem?_eq_none_iff.mp e1;omega)
     |some x=>
      cases e2:ys[i]? with
      |none=>exact .inr (by have:=List.getElem?_eq_none_iff.mp e2;omega)
      |some y=>rw[e1,e2] at e;cases e
    ·have e:=aj e
     cases e1:xs[i]? with
     |none=>rw[e1] at e;cases e
     |some x1=>
      cases e2:ys[i]? with
      |none=>rw[e1,e2] at e;cases e
      |some y1=>
       rw[e1,e2] at e
       have e:D.tup [x1,y1]=x:=aj e
       subst e
       obtain⟨v,hv,rv⟩:=r.get e1
       obtain⟨u,hu,ru⟩:=g2.get e2
       refine⟨⟨vs,ws,v,u,h',dz.of g1,hv,hu⟩,fun w H' yy=>?_⟩
       obtain⟨p,z1,z2,rfl,hp,rfl,hz1,hz2⟩:=yy
       have k1:=hz1 vs h'
       rw[hv] at k1
       cases k1
       have k2:=hz2 ws (dz.of g1)
       rw[hu] at k2
       cases k2
       obtain⟨E1,S1⟩:=S.tup (xs:=[v,u]) hp
       exact⟨E1,S1,.tup (.inl (.inl bd)) (.cons (rv.ext E1) (.cons (ru.ext E1) .nil))⟩
   |_=>exact⟨fun e=>(by cases e),fun x e=>(by cases e)⟩
theorem mY{f:D→Loc→M Fl}{loc:Loc}(n:Nat)(st:aS)(h:∀xs,st[n]?≠some (.lst xs)):eY f (.en n) loc st=.bad:=by
 have hb:gR (.en n) 0 st=none:=by
  simp only[gR]
 unfold eY
 simp only[fi,hb]
theorem mX{f:D→Loc→M Fl}{loc:Loc}{xs:List D}(n:Nat)(st:aS)(h:∀xs,st[n]?≠some (.lst xs)):eY f (.zp xs n) loc st=.bad:=by
 have hb:gR (.zp xs n) 0 st=none:=by
  simp only[gR]
 unfold eY
 simp only[fi,hb]
theorem xP(hp:PassesOwn (model X.prog X.w) X.A X.env X.xe)(C:Ctx T g X sc N)(hcm:T.calm=true){ts:List Expr}{body:List Stmt}{a':Ex}{b':List S}{p3:Pos}(hfn:∀y,X.fn y=true)(ht:rP sc N ts=some is)(hg:bc sc "enumerate"=true)(hst:starEach [a] X.env=[(false,eval a X.env)])(ha:PE X a (tE X.K (run g a')))(hb:PSs X body (tS X.K Xw (execs g b'))):
  PS X (.For (.Tuple ts tk p2) (.Call (.Name "enumerate" p3) [a] [] p4) body [] pos) (tS X.K Xw (exec g (.forE is a' b'))):=by
 obtain⟨h1,h2,h3⟩:=jA C hfn ht
 refine(og hp (C.calm hcm) (mC (cM C hg) (C.blt _ (by decide+kernel)) (bG ha dA hst) hst) (sP (C.calm hcm) h1 h2 h3) hb (fun _=>rfl)).imp fun D σ H hp=>?_
 obtain⟨ι,st,loc,S,L,P⟩:=hp
 rw[exec] at P
 obtain⟨d,st1,e1,P⟩:=aU P
 obtain⟨s,st2,e2,P⟩:=aU P
 obtain⟨e3,rfl⟩:=bA e2
 refine bi S L e1 fun H1 ι1 v E1 S1 r1=>?_
 have r1':=r1
 cases r1 with
 |tup h r=>cases e3;exact⟨_,rfl,.inr ⟨⟨_,h⟩,lO (d3.enT r1') E1 S1 (L.ext E1) P⟩⟩
 | @ref n hn=>
  cases e3
  cases q:st2[n]? with
  |none=>
   rw[mY n st2 (fun xs z=>by rw[q] at z;cases z)] at P
   exact P.elim
  |some o=>
   cases o with
   |lst xs=>
    obtain⟨vs,h1,_⟩:=S1.ob n _ q
    exact⟨_,rfl,.inl ⟨⟨vs,dz.of h1⟩,lO (d3.en hn) E1 S1 (L.ext E1) P⟩⟩
   |_=>
    rw[mY n st2 (fun xs z=>by rw[q] at z;cases z)] at P
    exact P.elim
 |_=>cases e3
theorem xO(hp:PassesOwn (model X.prog X.w) X.A X.env X.xe)(C:Ctx T g X sc N)(hcm:T.calm=true){ts:List Expr}{body:List Stmt}{a1 a2:Ex}{b':List S}{p3:Pos}(hfn:∀y,X.fn y=true)(ht:rP sc N ts=some is)(hg:bc sc "zip"=true)(hst:starEach [a,b] X.env=(false,eval a X.env)::starEach [b] X.env)(hst2:starEach [b] X.env=[(false,eval b X.env)])
  (ha:PE X a (tE X.K (run g a1)))(hc:PE X b (tE X.K (run g a2)))(hb:PSs X body (tS X.K Xw (execs g b'))):
  PS X (.For (.Tuple ts tk p2) (.Call (.Name "zip" p3) [a,b] [] p4) body [] pos) (tS X.K Xw (exec g (.forZ is a1 a2 b'))):=by
 obtain⟨h1,h2,h3⟩:=jA C hfn ht
 refine(og hp (C.calm hcm) (ye (cM C hg) (C.blt _ (by decide+kernel)) (bG ha (bG hc dA hst2) hst) hst hst2) (sP (C.calm hcm) h1 h2 h3) hb (fun _=>rfl)).imp fun D σ H hp=>?_
 obtain⟨ι,st,loc,S,L,P⟩:=hp
 rw[exec] at P
 obtain⟨d,st1,e1,P⟩:=aU P
 obtain⟨d2,st2,e2,P⟩:=aU P
 obtain⟨s,st3,e3,P⟩:=aU P
 obtain⟨e4,rfl⟩:=bA e3
 refine bi S L e1 fun H1 ι1 v E1 S1 r1=>bi S1 (L.ext E1) e2 fun H2 ι2 v2 E2 S2 r2=>?_
 have r1':=r1.ext E2
 cases r1 with
 |tup h r=>
  cases r2 with
  | @ref n hn=>
   cases e4
   cases q:st3[n]? with
   |none=>
    rw[mX n st3 (fun xs z=>by rw[q] at z;cases z)] at P
    exact P.elim
   |some o=>
    cases o with
    |lst ys=>
     obtain⟨vs,h1,_⟩:=S2.ob n _ q
     cases r1' with
     |tup h' r'=>exact⟨_,_,rfl,⟨_,h'⟩,⟨vs,dz.of h1⟩,lO (d3.zp hn (.tup h' r')) (E1.trans E2) S2 (L.ext (E1.trans E2)) P⟩
    |_=>
     rw[mX n st3 (fun xs z=>by rw[q] at z;cases z)] at P
     exact P.elim
  |_=>cases e4
 |_=>cases e4
theorem Al(hp:PassesOwn (model X.prog X.w) X.A X.env X.xe)(C:Ctx T g X sc N)(hcm:T.calm=true){it:Expr}{body:List Stmt}{a':Ex}{b':List S}(hx:isLocal sc x=true)(hfn:∀y,X.fn y=true)(hi:dX N x=some i)(ha:PE X it (tE X.K (run g a')))(hf:∀v,foldedSetIterable it X.env v=pure v)(hb:PSs X body (tS X.K Xw (execs g b'))):
  PS X (.For (.Name x p2) it body [] pos) (tS X.K Xw (exec g (.for_ i false a' b'))):=by
 refine(og hp (C.calm hcm) (sO ha) (jb (i:=i) (by rw[C.n];exact C.nd) (by rw[C.n];exact b_ hi) (iD C hx) (.inl (hfn x))) hb hf).imp fun D σ H hp=>?_
 obtain⟨ι,st,loc,S,L,P⟩:=hp
 rw[exec] at P
 obtain⟨d,st1,e1,P⟩:=aU P
 obtain⟨s,st2,e2,P⟩:=aU P
 obtain⟨e3,rfl⟩:=bA e2
 refine bi S L e1 fun H1 ι1 v E1 S1 r1=>?_
 cases r1 with
 |tup h r=>cases e3;exact⟨_,rfl,.inr ⟨⟨_,h⟩,oG (fc.tup h r) E1 S1 (L.ext E1) P⟩⟩
 |fl h r=>cases e3;exact⟨_,rfl,.inl ⟨⟨_,h.sql⟩,oG (fc.fl h r) E1 S1 (L.ext E1) P⟩⟩
 | @ref n hn=>
  cases e3
  cases q:st2[n]? with
  |none=>
   rw[pY n st2 (fun xs z=>by rw[q] at z;cases z)] at P
   exact P.elim
  |some o=>
   cases o with
   |lst xs=>
    obtain⟨vs,h1,_⟩:=S1.ob n _ q
    exact⟨_,rfl,.inl ⟨⟨vs,dz.of h1⟩,oG (fc.ref hn) E1 S1 (L.ext E1) P⟩⟩
   |_=>
    rw[pY n st2 (fun xs z=>by rw[q] at z;cases z)] at P
    exact P.elim
 |_=>cases e3
end
theorem Sim.put{K:ao}{st:aS}(S:Sim K H ι st){o o':O}{ho:HO}(e:st[n]? =some o)(new:ny K (bm H (ι n) ho) ι st.length (ι n) o'):
  Ext H (bm H (ι n) ho) ι ι st.length st.length∧Sim K (bm H (ι n) ho) ι (st.set n o'):=by
 obtain⟨u,h1,nt,nf⟩:=(S.ob n o e).there
 have hn:n<st.length:=(aA e).1
 have E:Ext H (bm H (ι n) ho) ι ι st.length st.length:=by
  refine⟨⟨af _,fun _ _=>rfl,fun b zs q=>?_,fun b ob w q=>?_⟩,fun b ob q k=>⟨by rw[az (k n hn).symm];exact q,k⟩⟩
  ·rw[az (dW q h1 (fun z=>nt _ z.symm))];exact q
  ·rw[az (dW q h1 (fun z=>nf _ _ z.symm))];exact q
 refine⟨E,fun i j hi hj=>S.inj i j (by simpa using hi) (by simpa using hj),fun k ob q=>?_⟩
 rw[aF]
 by_cases hk:k=n
 ·subst hk
  rw[aV hn] at q
  cases q
  exact new
 ·rw[ah (Ne.symm hk)] at q
  have hk':k<st.length:=(aA q).1
  exact(S.ob k ob q).move E.toExt0 (az fun z=>hk (S.inj k n hk' hn z))
theorem LRel.unset{K:ao}{loc:Loc}(L:LRel K H ι m loc σ)(j:Nat):LRel K H ι m (loc.set j none) (σ.set j none):=
 ⟨by simp[L.len],fun i e h=>by
  by_cases hj:j=i
  ·subst hj
   by_cases hl:j<loc.length
   ·rw[aV hl] at h;cases h
   ·rw[List.getElem?_eq_none (by simpa using hl)] at h;cases h
  ·rw[ah hj] at h
   obtain⟨w,h1,h2⟩:=L.at_ i e h
   exact⟨w,by rw[ah hj];exact h1,h2⟩⟩
section
variable{T:Tab}{g:c_}{X:Cx}{sc:Scope}{N:List Str}{pos p2:Pos}{Xw:Addr→L2.St→Hp→Prop}
noncomputable def tX(X:Cx)(Xw:Addr→L2.St→Hp→Prop)(m:Loc→M Rs):TE:=fun σ H Q=>∃ι st loc,Sim X.K H ι st∧LRel X.K H ι st.length loc σ∧dE X.K (fun v _ H2=>∃a,v=.ref a∧Xw a σ H2) H ι st (m loc st) Q
theorem wF{as:List Expr}{xs:List Ex}(C:Ctx T g X sc N)(hx:dP X Xw)(hg:bc sc f=true)(hi:dX T.fns f=some i)(ha:PA X (a::as) (tA X.K (runs g xs)))
  (he:starEach (a::as) X.env=(false,eval a X.env)::starEach as X.env)(hpl:(backTo pos (starEach as X.env)).any (·.1)=false):PE X (.Call (.Name f p2) (a::as) [] pos) (tX X Xw fun loc=>ba (runs g xs loc) fun ds=>g i ds):=by
 obtain⟨hd,ad,fd,ps,k,hm,kp,hb,hr,har,F⟩:=C.fns i f (b_ hi)
 refine(sW F hr (cM C hg) hm kp hb hx ha hd he hpl).imp fun σ H Q hp=>?_
 obtain⟨ι,st,loc,S,L,P⟩:=hp
 unfold ba at P
 dsimp only at P
 cases e1:runs g xs loc st with
 |bad=>rw[e1] at P;exact P.elim
 |ok ds st1=>
  rw[e1] at P
  refine gw S L e1 fun H1 ι1 vs E1 S1 r1=>⟨?_,ι1,st1,ds,S1,r1,P.mono E1⟩
  by_cases hps:ds.length=ps.length
  ·rw[←r1.length];exact hps
  ·have P2:dE X.K _ H ι st (g i ds st1) Q:=P
   rw[har ds st1 hps] at P2;exact P2.elim
theorem nk{k:Tg}{xs:List Ex}{st:aS}{loc:Loc}{D:Ends}(L:LRel X.K H ι st.length loc σ)(P:c7 X.K Xw H ι st (exec g (.callx k i xs) loc st) D)
  (hQ:∀d v H' ι' st',Ext H H' ι ι' st.length st'.length→Sim X.K H' ι' st'→VRel X.K H' ι' st'.length d v→c7 X.K Xw H' ι' st' (AT k d loc st') D→Q v H'):
  dE X.K (fun v _ H2=>∃a,v=.ref a∧Xw a σ H2) H ι st (ba (runs g xs loc) (fun ds=>g i ds) st) Q:=by
 rw[exec] at P
 obtain⟨ds,st1,e1,P⟩:=aU P
 obtain⟨r,st2,e2,P⟩:=aU P
 unfold ba
 rw[e1]
 show dE X.K _ H ι st (g i ds st1) Q
 rw[e2]
 cases r with
 |v d=>exact fun H' ι' v E' S' r'=>hQ d v H' ι' st2 E' S' r' (c7.mono P E')
 |x n=>exact fun H' ι' E' S'=>⟨_,rfl,P H' ι' σ E' S' (L.ext E')⟩
theorem sx{xs:List Ex}(he:PE X e (tX X Xw fun loc=>ba (runs g xs loc) fun ds=>g i ds))(hs:swapsWith e none pos.line X.env=pure false):PS X (.Expr e pos) (tS X.K Xw (exec g (.callx .no i xs))):=
 (lu he hs).imp fun D σ H ⟨ι,st,loc,S,L,P⟩=>⟨ι,st,loc,S,L,nk L P fun d v H' ι' st' E' S' r' P'=>P' H' ι' σ (Ext.refl _ _ _) S' (L.ext E')⟩
theorem sv{xs:List Ex}(hN:X.N.Nodup)(hj:X.N[j]? =some x)(hl:L2.Loc X.env.scope x)(hf:X.fn x=true)(he:PE X e (tX X Xw fun loc=>ba (runs g xs loc) fun ds=>g i ds))(hs:swapsWith e (some (.Name x p2)) pos.line X.env=pure false):
  PS X (.Assign [.Name x p2] e pos) (tS X.K Xw (exec g (.callx (.set j) i xs))):=
 (ls hN hj hl he hs (.inl hf)).imp fun D σ H ⟨ι,st,loc,S,L,P⟩=>⟨ι,st,loc,S,L,nk L P fun d v H' ι' st' E' S' r' P'=>P' H' ι' _ (Ext.refl _ _ _) S' ((L.ext E').set j r')⟩
theorem pE{xs:List Ex}{C0:Addr}{ps:List Str}{st:aS}{loc:Loc}{Dn:Ends}(hn:PySem.W.nsIn X.K mainGlobals x=some (some (.ref C0)))(har:∀ds st,ds.length≠ps.length→g j ds st=R.bad)(hz:xs.length≤900)
  (S:Sim X.K H ι st)(L:LRel X.K H ι st.length loc σ)(P:c7 X.K Xw H ι st (exec g (.rais x j xs) loc st) Dn):rS X C0 (wT X.K ps.length (g j)) Xw (tA X.K (runs g xs)) Dn σ H:=by
 rw[exec] at P
 obtain⟨ds,st1,e1,P⟩:=aU P
 obtain⟨n,st2,e2,P⟩:=aU P
 refine gw S L e1 fun H1 ι1 vs E1 S1 r1=>?_
 have lds:ds.length=xs.length:=by
  have:∀(es:List Ex)(a b:aS)(zs:List D),runs g es loc a=.ok zs b→zs.length=es.length:=by
   intro es
   induction es with
   |nil=>intro a b zs h;rw[runs] at h;cases h;rfl
   |cons e es ih=>
    intro a b zs h
    rw[runs] at h
    unfold ba at h
    cases q:run g e loc a with
    |bad=>rw[q] at h;cases h
    |ok d c=>
     rw[q] at h
     simp only[ba] at h
     cases q2:runs g es loc c with
     |bad=>rw[q2] at h;cases h
     |ok ds2 c2=>rw[q2] at h;cases h;simp[ih _ _ _ q2]
  exact this xs st st1 ds e1
 refine⟨by rw[←r1.length,lds];exact aP hz (by decide),fun p hp hzp=>?_⟩
 have E0x:∀ι',(∀m,m<st1.length→ι' m=ι1 m)→Ext0 H1 (bm H1 p (bN p C0 none false)) ι1 ι' st1.length (st1.length+1):=fun ι' h1=>⟨Nat.le_succ _,h1,fun b xs e=>by rw[az (aw e hp)];exact e,fun b ob u e=>by rw[az (aw e hp)];exact e⟩
 obtain⟨ι2,E2,hι,S2⟩:=S1.laid hp (ho:=bN p C0 none false) (o:= .err x none false) (fun ι' h1 h2=>⟨C0,hn,bd,fun j e=>by cases e⟩)
 have l:(st1++[O.err x none false]).length=st1.length+1:=by simp
 have E2':Ext H1 (bm H1 p (bN p C0 none false)) ι1 ι2 st1.length (st1++[O.err x none false]).length:=by rw[l];exact E2
 have rp:VRel X.K (bm H1 p (bN p C0 none false)) ι2 (st1++[O.err x none false]).length (.ref st1.length) (.ref p):=by
  rw[←hι,l]
  exact .ref (aG _)
 have rr:VRels X.K (bm H1 p (bN p C0 none false)) ι2 (st1++[O.err x none false]).length (.ref st1.length::ds) (.ref p::vs):= .cons rp (r1.ext E2')
 unfold jB ba at e2
 dsimp only at e2
 cases e3:g j (.ref st1.length::ds) (st1++[.err x none false]) with
 |bad=>rw[e3] at e2;cases e2
 |ok r st3=>
  rw[e3] at e2
  cases r with
  |x m=>cases e2
  |v d=>
   cases d with
   |non=>
    dsimp only at e2
    split at e2
    ·rename_i c dd q
     split at e2
     ·rename_i hc
      subst hc
      cases e2
      refine⟨?_,ι2,_,_,S2,rr,?_⟩
      ·rw[←rr.length]
       by_cases w:(D.ref st1.length::ds).length=ps.length
       ·exact w
       ·rw[har _ _ w] at e3;cases e3
      ·rw[e3]
       intro H' ι' v E' S' rv
       cases rv
       refine⟨rfl,?_⟩
       have hp':ι' st1.length=p:=(E'.ad _ (by rw[l];exact aG _)).trans hι
       obtain⟨C1,n1,h1,h2⟩:=S'.ob _ _ q
       rw[hn] at n1
       cases n1
       have ob:=S'.put (ho:=bN (ι' st1.length) C0 (dd.map ι') true) (o':= .err c dd true) q ⟨C0,hn,bd,h2⟩
       refine⟨p,dd.map ι',rfl,hzp,by rw[←hp'];exact h1,?_⟩
       have lz:(st3.set st1.length (O.err c dd true)).length=st3.length:=aF
       have E5:Ext H (bm H' (ι' st1.length) (bN (ι' st1.length) C0 (dd.map ι') true)) ι ι' st.length (st3.set st1.length (O.err c dd true)).length:=by
        rw[lz]
        exact((E1.trans E2').trans E').trans ob.1
       have z:=P _ ι' σ E5 ob.2 (L.ext E5)
       rw[hp'] at z
       exact z
     ·cases e2
    ·cases e2
   |_=>cases e2
theorem xI{as:List Expr}{xs:List Ex}(C:Ctx T g X sc N)(hx:dP X Xw)(hg:bc sc x=true)(hi:T.ini.lookup x=some j)(ha:PA X (a::as) (tA X.K (runs g xs)))(hz:xs.length≤900)
  (he:starEach (a::as) X.env=(false,eval a X.env)::starEach as X.env)(hpl:(backTo cp (starEach as X.env)).any (·.1)=false):PS X (.Raise (some (.Call (.Name x p) (a::as) [] cp)) none pos) (tS X.K Xw (exec g (.rais x j xs))):=by
 obtain⟨hd,C0,ad,fd,ps,k,hn,hm,mk,mb,kp,hin,hfn,hb,hr,har,F⟩:=C.ini x j (aD hi)
 exact(sL mk mb kp hin hfn F hr (cM C hg) hm hb hx ha hd he hpl).imp fun D σ H ⟨ι,st,loc,S,L,P⟩=>pE hn har hz S L P
theorem vt(C:Ctx T g X sc N)(hx:dP X Xw)(hg:bc sc x=true)(hi:T.ini.lookup x=some j):PS X (.Raise (some (.Call (.Name x p) [] [] cp)) none pos) (tS X.K Xw (exec g (.rais x j []))):=by
 obtain⟨hd,C0,ad,fd,ps,k,hn,hm,mk,mb,kp,hin,hfn,hb,hr,har,F⟩:=C.ini x j (aD hi)
 refine(qy mk mb kp hin hfn F hr (cM C hg) hm hb hx hd).imp fun D σ H hp=>?_
 obtain⟨ι,st,loc,S,L,P⟩:=hp
 obtain⟨ι2,st2,loc2,S2,L2',P2⟩:=pE (ps:=ps) hn har (Nat.zero_le _) S L P
 rw[runs] at P2
 exact P2 H ι2 [] (Ext.refl _ _ _) S2 .nil
theorem tO{c:Str}{fs:List (Str×D)}{d:D}{st:aS}(C:Ctx T g X sc N)(S:Sim X.K H ι st)(q:st[n]? =some (.ins c fs))(hc:c∈T.ics f)(hl:fs.length<900)(r:VRel X.K H ι st.length d v):
  ∃C0 dx vs,H (ι n)=some (.ins C0 dx vs)∧Cls X.K C0∧eP X.K C0 f∧vs.length<1000∧Ext H (bm H (ι n) (.ins C0 dx (cJ f v vs))) ι ι st.length (st.set n (O.ins c (putD f d fs))).length∧Sim X.K (bm H (ι n) (.ins C0 dx (cJ f v vs))) ι (st.set n (.ins c (putD f d fs))):=by
 obtain⟨ic,hi,rfl,hf⟩:=lD hc
 obtain⟨C0,n0,cl,na,_⟩:=C.icl ic hi
 obtain⟨C1,dx,vs,n1,h1,h2,h3⟩:=S.ob n _ q
 rw[n0] at n1
 cases n1
 have lw:=h2.length
 have X0:Ext0 H (bm H (ι n) (.ins C0 dx (cJ f v vs))) ι ι st.length st.length:=by
  refine⟨af _,fun _ _=>rfl,fun b zs z=>?_,fun b ob w z=>?_⟩
  ·rw[az (dW z h1 (by intro y;cases y))];exact z
  ·rw[az (dW z h1 (by intro y;cases y))];exact z
 have lp:(putD f d fs).length≤900:=by
  have:=d9 f v vs
  have:=(h2.put (f:=f) r).length
  omega
 obtain⟨E4,S4⟩:=S.put (ho:= .ins C0 dx (cJ f v vs)) (o':= .ins ic.x (putD f d fs)) q ⟨C0,dx,cJ f v vs,n0,bd,(h2.put r).ext0 X0,lp⟩
 exact⟨C0,dx,vs,h1,cl,na f hf,by omega,by rw[aF];exact E4,S4⟩
theorem xC{o' e':Ex}(C:Ctx T g X sc N)(hn:wl e=true)(ho:PE X o (tE X.K (run g o')))(he:PE X e (tE X.K (run g e'))):PS X (.Assign [.Attribute o f p2] e pos) (tS X.K Xw (exec g (.setf o' f e' (T.ecs f) (T.ics f)))):=by
 refine((vW ho he (by cases e<;>first|rfl|cases hn)).or (ya ho he (by cases e<;>first|rfl|cases hn))).imp fun D σ H hp=>?_
 obtain⟨ι,st,loc,S,L,P⟩:=hp
 rw[exec] at P
 obtain⟨d,st1,e1,P⟩:=aU P
 obtain⟨x,st2,e2,P⟩:=aU P
 obtain⟨u,st3,e3,P⟩:=aU P
 unfold fS at e3
 cases x with
 |ref n=>
  dsimp only at e3
  split at e3
  ·rename_i c fs q
   split at e3
   ·rename_i hc
    cases e3
    refine .inr (bi S L e1 fun H1 ι1 v E1 S1 r1=>bi S1 (L.ext E1) e2 fun H2 ι2 vx E2 S2 r2=>?_)
    have E12:=E1.trans E2
    cases r2 with
    |ref hnn=>
     obtain⟨C0,dx,vs,h1,cl,na,lz,E4,S4⟩:=tO C S2 q hc.2 hc.1 (r1.ext E2)
     exact⟨_,C0,dx,vs,rfl,h1,cl,na,lz,P _ ι2 σ (E12.trans E4) S4 (L.ext (E12.trans E4))⟩
   ·cases e3
  ·rename_i c t q
   split at e3
   ·rename_i hc
    cases e3
    refine .inl (bi S L e1 fun H1 ι1 v E1 S1 r1=>bi S1 (L.ext E1) e2 fun H2 ι2 vx E2 S2 r2=>?_)
    have r1':=r1.ext E2
    have E12:=E1.trans E2
    cases r2 with
    |ref hnn=>
     obtain⟨hf,anc,hp⟩:=lE hc
     obtain⟨C0,n0,ec,fl,_⟩:=C.cls c anc hp
     obtain⟨C1,n1,h1,h2⟩:=S2.ob n _ q
     rw[n0] at n1
     cases n1
     refine⟨_,C0,t,rfl,ec,fl f hf,.inl ⟨h1,fun dx hdx hne=>?_⟩⟩
     obtain⟨ι3,E3,hι,S3⟩:=S2.laid hdx (ho:=kU dx [(f,v)]) (o:= .edc [(f,d)]) (fun ι' k1 k2=>⟨[(f,v)],bd,.cons (VRel.ext0 ⟨Nat.le_succ _,k1,fun b xs e=>by rw[az (aw e hdx)];exact e,fun b ob u e=>by rw[az (aw e hdx)];exact e⟩ r1') .nil,by simp⟩)
     have hnl:n<st2.length:=(aA q).1
     have l:(st2++[O.edc [(f,d)]]).length=st2.length+1:=by simp
     have hιn:ι3 n=ι2 n:=E3.ad n hnl
     have q3:(st2++[O.edc [(f,d)]])[n]? =some (.err c none t):=by rw[aN hnl];exact q
     obtain⟨E4,S4⟩:=S3.put (ho:=bN (ι3 n) C0 (some dx) t) (o':= .err c (some st2.length) t) q3 ⟨C0,n0,by rw[bd,Option.map_some,hι],fun j e=>by cases e;rw[l];exact aG _⟩
     have es:(st2++[O.edc [(f,d)]]).set n (.err c (some st2.length) t)=st2.set n (.err c (some st2.length) t)++[O.edc [(f,d)]]:=by rw[aB _ _ hnl]
     have l2:(st2.set n (O.err c (some st2.length) t)++[O.edc [(f,d)]]).length=(st2++[O.edc [(f,d)]]).length:=by simp
     rw[es] at S4
     have E5:Ext H (bm (bm H2 dx (kU dx [(f,v)])) (ι3 n) (bN (ι3 n) C0 (some dx) t)) ι ι3 st.length (st2.set n (O.err c (some st2.length) t)++[O.edc [(f,d)]]).length:=by
      rw[l2]
      refine E12.trans (Ext.trans ?_ E4)
      rw[l];exact E3
     have z:=P _ ι3 σ E5 S4 (L.ext E5)
     rw[hιn] at z
     exact z
   ·cases e3
  ·rename_i c m t q
   split at e3
   ·rename_i fs q2
    split at e3
    ·rename_i hc
     cases e3
     refine .inl (bi S L e1 fun H1 ι1 v E1 S1 r1=>bi S1 (L.ext E1) e2 fun H2 ι2 vx E2 S2 r2=>?_)
     have r1':=r1.ext E2
     have E12:=E1.trans E2
     cases r2 with
     |ref hnn=>
      obtain⟨hf,anc,hp⟩:=lE hc.2
      obtain⟨C0,n0,ec,fl,_⟩:=C.cls c anc hp
      obtain⟨C1,n1,h1,h2⟩:=S2.ob n _ q
      rw[n0] at n1
      cases n1
      obtain⟨ws,g1,g2,g3⟩:=S2.ob m _ q2
      have hnm:ι2 m≠ι2 n:=fun z=>by
       have:=S2.inj m n (aA q2).1 (aA q).1 z
       subst this
       rw[q] at q2
       cases q2
      have lw:=g2.length
      have X0:Ext0 H2 (bm H2 (ι2 m) (kU (ι2 m) (cJ f v ws))) ι2 ι2 st2.length st2.length:=by
       obtain⟨u0,w1,nt,nf⟩:=(S2.ob m _ q2).there
       refine⟨af _,fun _ _=>rfl,fun b zs z=>?_,fun b ob w z=>?_⟩
       ·rw[az (dW z w1 (fun y=>nt _ y.symm))];exact z
       ·rw[az (dW z w1 (fun y=>nf _ _ y.symm))];exact z
      have lp:(putD f d fs).length≤900:=by
       have:=d9 f v ws
       have:=(g2.put (f:=f) r1').length
       omega
      obtain⟨E4,S4⟩:=S2.put (ho:=kU (ι2 m) (cJ f v ws)) (o':= .edc (putD f d fs)) q2 ⟨cJ f v ws,bd,(g2.put r1').ext0 X0,lp⟩
      refine⟨_,C0,t,rfl,ec,fl f hf,.inr ⟨ι2 m,ws,h1,g1,hnm,by omega,?_⟩⟩
      have E5:Ext H (bm H2 (ι2 m) (kU (ι2 m) (cJ f v ws))) ι ι2 st.length (st2.set m (O.edc (putD f d fs))).length:=by rw[aF];exact E12.trans E4
      exact P _ ι2 σ E5 S4 (L.ext E5)
    ·cases e3
   ·cases e3
  ·cases e3
 |_=>cases e3
theorem xU{o' e':Ex}(C:Ctx T g X sc N)(ho:PE X o (tE X.K (run g o')))(he:PE X e (tE X.K (run g e'))):PS X (.AugAssign (.Attribute o f p2) .Add e pos) (tS X.K Xw (exec g (.augf o' f e' (T.ics f)))):=by
 refine(qz ho he yR).imp fun D σ H hp=>?_
 obtain⟨ι,st,loc,S,L,P⟩:=hp
 rw[exec] at P
 obtain⟨x,st1,e1,P⟩:=aU P
 obtain⟨y,st2,e2,P⟩:=aU P
 obtain⟨c1,st6,e6,P⟩:=aU P
 obtain⟨z,st3,e3,P⟩:=aU P
 obtain⟨w,st4,e4,P⟩:=aU P
 obtain⟨c2,st7,e7,P⟩:=aU P
 split at P
 rotate_left
 ·exact P.elim
 rename_i hcc
 subst hcc
 obtain⟨u,st5,e5,P⟩:=aU P
 unfold oH at e2
 cases x with
 |ref n=>
  dsimp only at e2
  split at e2
  ·rename_i c fs q
   split at e2
   ·rename_i dd hl
    split at e2
    ·rename_i hc
     cases e2
     unfold q_ at e6
     dsimp only at e6
     rw[q] at e6
     cases e6
     refine bi S L e1 fun H1 ι1 vx E1 S1 r1=>?_
     cases r1 with
     |ref hn=>
      obtain⟨ic,hi,rfl,hf⟩:=lD hc
      obtain⟨C0,n0,cl,na,_⟩:=C.icl ic hi
      obtain⟨C1,dx,vs,n1,h1,h2,h3⟩:=S1.ob n _ q
      rw[n0] at n1
      cases n1
      obtain⟨v1,lv,rv⟩:=h2.look hl
      refine⟨_,C0,dx,vs,v1,rfl,h1,cl,na f hf,lv,bi S1 (L.ext E1) e3 fun H3 ι3 v3 E3 S3 r3=>?_⟩
      unfold zk at e4
      split at e4
      ·cases e4
       unfold q_ at e7
       dsimp only at e7
       have rv3:=rv.ext E3
       cases rv
       cases r3
       refine⟨_,_,rfl,rfl,?_⟩
       unfold fS at e5
       dsimp only at e5
       split at e5
       ·rename_i c2 fs2 q2
        split at e7
        rotate_left
        ·cases e7
        rename_i c3 fs3 q3
        cases e7
        rw[q3] at q2
        cases q2
        split at e5
        ·rename_i hc2
         cases e5
         obtain⟨C2,dx2,vs2,g1,g2,g3,g4,E5,S5⟩:=tO C S3 q3 hc2.2 hc2.1 (.int _)
         have e6:ι3 n=ι1 n:=E3.ad n hn
         have hCC:C2=C0:=by
          obtain⟨C4,dx4,vs4,n4,k4,_⟩:=S3.ob n _ q3
          rw[n0] at n4
          cases n4
          rw[g1] at k4
          cases k4
          rfl
         subst hCC
         rw[e6] at g1 E5 S5
         have E6:=(E1.trans E3).trans E5
         exact⟨dx2,vs2,g1,g4,P _ ι3 σ E6 S5 (L.ext E6)⟩
        ·cases e5
       ·split at e5
        ·rename_i hc2
         cases hc2
        ·cases e5
       ·split at e5
        ·split at e5
         ·rename_i hc2
          cases hc2.2
         ·cases e5
        ·cases e5
       ·cases e5
      ·cases e4
    ·cases e2
   ·cases e2
  ·split at e2
   ·split at e2
    ·split at e2
     ·rename_i hc
      cases hc
     ·cases e2
    ·cases e2
   ·cases e2
  ·cases e2
 |_=>cases e2
theorem xA{body:List Stmt}{t1 t2:Str}{b' s1' s2':List S}(C:Ctx T g X sc N)(hfn:∀y,X.fn y=true)(hst:X.stack=X.env::X.outer∧X.env.frame=some X.env.locals)(hg1:bc sc t1=true)(ht1:t1∈T.cats)(hi1:dX N n1=some i1)(hk1:sc.names.lookup n1=some .local)(hg2:bc sc t2=true)(ht2:t2∈T.cats)(hi2:dX N n2=some i2)(hk2:sc.names.lookup n2=some .local)
  (hb:∀pins E Xw',PassesOwn (model X.prog X.w) X.A X.env E→dP (jT X pins E) Xw'→PSs (jT X pins E) body (tS X.K Xw' (execs g b')))(hs1:∀a,PSs (cA X a) (b1::su1) (tS X.K nz (execs g s1')))(hs2:∀a,PSs (cA X a) (b2::su2) (tS X.K nz (execs g s2'))):
  PS X (.Try body [.ExceptHandler (some (.Name t1 pt1)) (some n1) (b1::su1) hp1,.ExceptHandler (some (.Name t2 pt2)) (some n2) (b2::su2) hp2] [] [] pos) (tS X.K Xw (exec g (.try2 b' (T.yes [t1]) (T.no [t1]) i1 s1' (T.yes [t2]) i2 s2'))):=by
 obtain⟨hd1,D1,d1,m1,c1⟩:=C.cats t1 ht1
 obtain⟨hd2,D2,d2,m2,c2⟩:=C.cats t2 ht2
 have cn:=C.n
 have cs:=C.sc
 refine(sK (tb:=fun Xw'=>tS X.K Xw' (execs g b')) (t1:=tS X.K nz (execs g s1')) (t2:=tS X.K nz (execs g s2')) c1 c2 (cM C hg1) m1 hd1 (cM C hg2) m2 hd2 (by rw[cn];exact C.nd) (by rw[cn];exact b_ hi1) (by rw[cs];exact hk1) (hfn n1) (by rw[cn];exact b_ hi2) (by rw[cs];exact hk2) (hfn n2) hst hb hs1 hs2).imp fun Dn σ H hp=>?_
 obtain⟨ι,st,loc,S,L,P⟩:=hp
 rw[exec] at P
 obtain⟨r,st1,e1,P⟩:=aU P
 refine⟨ι,st,loc,S,L,?_⟩
 rw[e1]
 cases r with
 |nx l=>exact P
 |rt d=>exact P
 |ex m l=>
  intro H' ι' σ' E' S' L'
  dsimp only at P
  split at P
  ·rename_i x dd q
   obtain⟨C2,n3,h1,h2⟩:=S'.ob m _ q
   have hm:m<st1.length:=(aA q).1
   split at P
   ·rename_i hy
    obtain⟨anc,a2,a3⟩:=lC hy
    obtain⟨C1,n2,ec2,_,kk,_⟩:=C.cls x anc a2
    rw[n2] at n3
    cases n3
    have km:=(kk t1 ht1 D1 d1).2
    rw[show anc.contains t1=true by simpa using a3] at km
    refine⟨_,_,h1,.inl ⟨km,ι',st1,l.set i1 (some (.ref m)),S',L'.set i1 (.ref hm),?_⟩⟩
    obtain⟨r2,st4,e4,P⟩:=aU P
    rw[e4]
    cases r2 with
    |nx l2=>exact fun H3 ι3 σ3 E3 S3 L3=>P H3 ι3 _ (E'.trans E3) S3 (L3.unset i1)
    |rt d=>exact fun H3 ι3 v E3 S3 r3=>P H3 ι3 v (E'.trans E3) S3 r3
    |ex _ _=>exact P.elim
   ·split at P
    ·rename_i hy
     obtain⟨anc,a2,a3⟩:=tz hy.1
     obtain⟨anc',b2,b3⟩:=lC hy.2
     obtain⟨C1,n2,ec2,_,kk,_⟩:=C.cls x anc a2
     obtain⟨C3,n4,_,_,kk',_⟩:=C.cls x anc' b2
     rw[n2] at n3 n4
     cases n3
     cases n4
     have km:=(kk t1 ht1 D1 d1).2
     rw[show anc.contains t1=false by simpa using a3] at km
     have km':=(kk' t2 ht2 D2 d2).2
     rw[show anc'.contains t2=true by simpa using b3] at km'
     refine⟨_,_,h1,.inr ⟨km,km',ι',st1,l.set i2 (some (.ref m)),S',L'.set i2 (.ref hm),?_⟩⟩
     obtain⟨r2,st4,e4,P⟩:=aU P
     rw[e4]
     cases r2 with
     |nx l2=>exact fun H3 ι3 σ3 E3 S3 L3=>P H3 ι3 _ (E'.trans E3) S3 (L3.unset i2)
     |rt d=>exact fun H3 ι3 v E3 S3 r3=>P H3 ι3 v (E'.trans E3) S3 r3
     |ex _ _=>exact P.elim
    ·exact P.elim
  ·exact P.elim
end
noncomputable abbrev j0(X:Cx):Prop:=X.stack=X.env::X.outer∧X.env.frame=some X.env.locals
noncomputable def SS(T:Tab)(g:c_)(n:Nat):Prop:=∀{X:Cx}{sc:Scope}{N:List Str}{s:Stmt}{s':S}{Xw:Addr→L2.St→Hp→Prop},Ctx T g X sc N→(∀y,X.fn y=true)→PassesOwn (model X.prog X.w) X.A X.env X.xe→j0 X→dP X Xw→cS T n sc N s=some s'→PS X s (tS X.K Xw (exec g s'))
noncomputable def Bd(T:Tab)(g:c_)(n:Nat):Prop:=∀{X:Cx}{sc:Scope}{N:List Str}{s:List Stmt}{s':List S}{Xw:Addr→L2.St→Hp→Prop},Ctx T g X sc N→(∀y,X.fn y=true)→PassesOwn (model X.prog X.w) X.A X.env X.xe→j0 X→dP X Xw→uC T n sc N s=some s'→PSs X s (tS X.K Xw (execs g s'))
noncomputable def Ck(T:Tab)(g:c_)(n:Nat):Prop:=∀{X:Cx}{sc:Scope}{N:List Str}{s:Stmt}{s':S}{Xw:Addr→L2.St→Hp→Prop},Ctx T g X sc N→(∀y,X.fn y=true)→PassesOwn (model X.prog X.w) X.A X.env X.xe→j0 X→dP X Xw→CA T n sc N s=some s'→PS X s (tS X.K Xw (exec g s'))
theorem rX{T:Tab}{g:c_}(h1:SS T g n)(h2:Bd T g n):Bd T g (n+1):=by
 intro X sc N s s' Xw C hf hp hst hx h
 cases s with
 |nil=>
  cases h
  refine vT.imp fun D σ H hp=>?_
  obtain⟨ι,st,loc,S,L,P⟩:=hp
  rw[execs] at P
  exact P H ι σ (Ext.refl _ _ _) S L
 |cons a r=>
  obtain⟨r',er,rfl⟩:=map_some h
  have ea:PS X a (tS X.K Xw (exec g ((cS T n sc N a).getD .stop))):=by
   cases q:cS T n sc N a with
   |none=>exact sg
   |some a'=>exact h1 C hf hp hst hx q
  refine(sI ea (h2 C hf hp hst hx er)).imp fun D σ H hp=>?_
  obtain⟨ι,st,loc,S,L,P⟩:=hp
  rw[execs] at P
  obtain⟨f,st1,e1,P⟩:=aU P
  refine⟨ι,st,loc,S,L,?_⟩
  rw[e1]
  cases f with
  |nx loc1=>exact fun H1 ι1 σ1 E1 S1 L1=>⟨ι1,st1,loc1,S1,L1,P.mono E1⟩
  |rt d=>exact P
  |ex n l=>exact P
theorem rV{T:Tab}{sc:Scope}{e':Ex}(hk:lG e=false)(hm:cE T n sc N e=some e')(o:Option Expr)(l:Nat)(env:Env)(ho:o=none∨∃x p,o=some (.Name x p)):swapsWith e o l env=pure false:=by
 cases n with
 |zero=>cases hm
 |succ n=>
  rcases ho with rfl|⟨x,p,rfl⟩
  ·cases e<;>first|rfl|(cases hm;done)|cases hk
  ·cases e<;>first|rfl|(cases hm;done)|cases hk
theorem xa{T:Tab}{g:c_}{sc:Scope}{k:Tg}{s':S}(C:Ctx T g X sc N)(hx:dP X Xw)(h:oP T n sc N k e=some s'):∃i xs,s'=.callx k i xs∧PE X e (tX X Xw fun loc=>ba (runs g xs loc) fun ds=>g i ds)∧(∀o l,(o=none∨∃x p,o=some (Expr.Name x p))→swapsWith e o l X.env=pure false)∧starEach [e] X.env=[(false,eval e X.env)]:=by
 obtain⟨⟨f,as⟩,hc,h⟩:=bs h
 obtain⟨⟨hg,hne⟩,h⟩:=fU h
 obtain⟨i,hi,h⟩:=bs h
 obtain⟨xs,hc2,rfl⟩:=map_some h
 obtain⟨p,cp,rfl⟩:=ia hc
 cases as with
 |nil=>exact absurd rfl hne
 |cons a as=>
  obtain⟨h1,h2,_,h3⟩:=(sound T g n).2.1 C hc2
  obtain⟨h4,h5⟩:=h3 _ _ rfl
  exact⟨i,xs,rfl,wF C hx hg hi h1 h4 (h5 _),fun o l ho=>by rcases ho with rfl|⟨_,_,rfl⟩<;>rfl,rfl⟩
theorem va{T:Tab}{g:c_}{sc:Scope}{xs:List Ex}(C:Ctx T g X sc N)(hx:dP X Xw)(hg:bc sc x=true)(hj:T.ini.lookup x=some j)(hc:nC T n sc N args=some xs)(hz:args.length≤900):
  PS X (.Raise (some (.Call (.Name x p) args [] cp)) none pos) (tS X.K Xw (exec g (.rais x j xs))):=by
 obtain⟨h1,h2,_,h3⟩:=(sound T g n).2.1 C hc
 cases args with
 |nil=>
  have e:xs=[]:=List.length_eq_zero_iff.mp h2.symm
  subst e
  exact vt C hx hg hj
 |cons a as=>
  obtain⟨h4,h5⟩:=h3 _ _ rfl
  exact xI C hx hg hj h1 (by rw[←h2];exact hz) h4 (h5 _)
theorem u_{T:Tab}{g:c_}{sc:Scope}{s:Stmt}{s':S}(C:Ctx T g X sc N)(hf:∀y,X.fn y=true)(hx:dP X Xw)(h:cX T n sc N s=some s'):PS X s (tS X.K Xw (exec g s')):=by
 have hN:X.N.Nodup:=by rw[C.n];exact C.nd
 cases s with
 |Expr e _=>
  obtain⟨i,xs,rfl,pe,sw,_⟩:=xa C hx h
  exact sx pe (sw _ _ (.inl rfl))
 |Assign ts e _=>
  obtain⟨t,h1,h⟩:=bs h
  obtain⟨x,h2,h⟩:=bs h
  obtain⟨hl,h⟩:=fU h
  obtain⟨j,hj,h⟩:=bs h
  obtain⟨i,xs,rfl,pe,sw,st⟩:=xa C hx h
  cases d8 h1
  obtain⟨_,rfl⟩:=dF h2
  exact sv hN (by rw[C.n];exact b_ hj) (iD C hl) (hf _) pe (sw _ _ (.inr ⟨_,_,rfl⟩))
 |Raise o c _=>
  cases c with
  |some=>cases h
  |none=>
   obtain⟨e,rfl,h⟩:=bs h
   obtain⟨⟨x,args⟩,h1,h⟩:=bs h
   obtain⟨⟨hg,hz⟩,h⟩:=fU h
   obtain⟨j,hj,h⟩:=bs h
   obtain⟨xs,hc,rfl⟩:=map_some h
   obtain⟨p,q,rfl⟩:=ia h1
   exact va C hx hg hj hc hz
 |_=>cases h
theorem kG{T:Tab}{g:c_}{sc:Scope}(C:Ctx T g X sc N)(a:Addr):Ctx T.suite g (cA X a) sc N:=
 ⟨C.sc,C.n,C.nd,C.nm,(fun z=>by cases z),C.un,(fun i f z=>by simp[Tab.suite] at z),C.csts,C.blt,C.cats,C.cls,(fun x j z=>by simp[Tab.suite] at z),(fun c z=>by simp[Tab.suite] at z),C.icats,(fun x j z=>by simp[Tab.suite] at z),(fun x m j z=>by simp[Tab.suite] at z)⟩
theorem wH{T:Tab}{g:c_}{sc:Scope}(C:Ctx T g X sc N)(pins:List (Addr×Obj))(E:Value→Shared→Prop):Ctx T g (jT X pins E) sc N:=
 ⟨C.sc,C.n,C.nd,C.nm,C.calm,C.un,C.fns,C.csts,C.blt,C.cats,C.cls,C.ini,C.icl,C.icats,C.mks,C.ums⟩
theorem vb{T:Tab}{g:c_}(h0:Ck T g n):SS T g (n+1):=by
 intro X sc N s s' Xw C hf hp hst hx h
 rcases pM h with⟨r,hr,h⟩|⟨_,h⟩
 ·cases h
  exact u_ C hf hx (fU hr).2
 ·exact h0 C hf hp hst hx h
theorem vO{T:Tab}{g:c_}(h2:Bd T g n)(h3:Bd T.suite g n):Ck T g (n+1):=by
 intro X sc N s s' Xw C hf hp hst hx h
 have snd:=sound T g n
 have he:=fun{e:Expr}{e':Ex}(q:cE T n sc N e=some e')=>snd.1 C q
 cases s with
 |Assign ts e _=>
  obtain⟨t,ht,h⟩:=bs h
  cases d8 ht
  clear ht
  cases t with
  |Name x px=>
   obtain⟨hl,h⟩:=fU h
   obtain⟨i,hi,h⟩:=bs h
   obtain⟨e',hee,rfl⟩:=map_some h
   have k1:X.N[i]? =some x:=by rw[C.n];exact b_ hi
   by_cases hk:lG e=true
   ·cases e with
    |ListComp elt gens scope pos=>
     cases n with
     |zero=>cases hee
     |succ m=>
      exact qf (sound T g m).1 (sound T g m).2.2.1 C hee (fun y py it ifs e hcm hc hd=>by cases e;exact(gF.ps C hcm hc hd k1 (iD C hl) (.inl (hf _))).imp fun D σ H q=>n8 q) fun y1 y2 p1 p2 k pt it ifs e hcm hc hd=>by cases e;exact(fA.ps C hcm hc hd k1 (iD C hl) (.inl (hf _))).imp fun D σ H q=>n8 q
    |_=>cases hk
   ·exact(ls (by rw[C.n];exact C.nd) k1 (iD C hl) (he hee).1 (rV (by simpa using hk) hee _ _ _ (.inr ⟨_,_,rfl⟩)) (.inl (hf _))).imp fun D σ H q=>n8 q
  |Subscript o i _=>
   obtain⟨hp',h⟩:=fU h
   obtain⟨o',a1,h⟩:=bs h
   obtain⟨i',a2,h⟩:=bs h
   obtain⟨e',a3,rfl⟩:=map_some h
   exact vq (by have:=C.un;omega) hp'.1 hp'.2 (he a1).1 (he a2).1 (he a3).1
  |Attribute o f _=>
   obtain⟨hnc,h⟩:=fU h
   obtain⟨o',a1,h⟩:=bs h
   obtain⟨e',a2,rfl⟩:=map_some h
   exact xC C hnc (he a1).1 (he a2).1
  |_=>cases h
 |Return o _=>
  cases o with
  |none=>cases h;exact xH
  |some e=>
   cases h
   cases q:cE T n sc N e with
   |none=>exact sg
   |some e'=>exact Ah (he q).1
 |Expr e _=>
  rcases pM h with⟨z,hq,h⟩|⟨_,h⟩
  ·obtain⟨o',a1,h⟩:=bs h
   obtain⟨e',a2,rfl⟩:=map_some h
   obtain⟨m,ap,cp,rfl,hm⟩:=uE hq
   simp only[Bool.and_eq_true] at hm
   exact An hm.1.1 hm.1.2 (cj a2 [] _) (jf hm.2 _ _) (he a1).1 (he a2).1
  ·obtain⟨hk,h⟩:=fU h
   obtain⟨e',q,rfl⟩:=map_some h
   exact BP (T:=T) hk ⟨n,sc,N,q⟩ (he q).1
 |AugAssign t op e _=>
  cases t with
  |Attribute o f _=>
   cases op with
   |Add=>
    obtain⟨o',a1,h⟩:=bs h
    obtain⟨e',a2,rfl⟩:=map_some h
    exact xU C (he a1).1 (he a2).1
   |_=>cases h
  |_=>cases h
 |If c a b _=>
  obtain⟨c',a1,h⟩:=bs h
  obtain⟨a',a2,h⟩:=bs h
  obtain⟨b',a3,rfl⟩:=map_some h
  exact BO (he a1).2 (h2 C hf hp hst hx a2) (h2 C hf hp hst hx a3)
 |For t it body els _=>
  cases els with
  |cons=>cases h
  |nil=>
   cases t with
   |Name x _=>
    obtain⟨hl,h⟩:=fU h
    obtain⟨i,hi,h⟩:=bs h
    obtain⟨b',hb,h⟩:=bs h
    obtain⟨a',q,rfl⟩:=map_some h
    exact Al hp C hl.2 hl.1 hf hi (he q).1 (qe q _) (h2 C hf hp hst hx hb)
   |Tuple ts _ _=>
    obtain⟨hcm,h⟩:=fU h
    obtain⟨is,ht,h⟩:=bs h
    obtain⟨b',hb,h⟩:=bs h
    rcases pM h with⟨a,hen,h⟩|⟨_,h⟩
    ·obtain⟨a',q,rfl⟩:=map_some h
     obtain⟨hg,_,_,rfl⟩:=qU hen
     exact xP hp C hcm hf ht hg (cj q [] _) (he q).1 (h2 C hf hp hst hx hb)
    ·obtain⟨z,hzi,h⟩:=bs h
     obtain⟨a',q1,h⟩:=bs h
     obtain⟨c',q2,rfl⟩:=map_some h
     obtain⟨hg,_,_,rfl⟩:=ri hzi
     exact xO hp C hcm hf ht hg (cj q1 _ _) (cj q2 [] _) (he q1).1 (he q2).1 (h2 C hf hp hst hx hb)
   |_=>cases h
 |While c body els _=>
  cases els with
  |cons=>cases h
  |nil=>
   obtain⟨c',hc,h⟩:=bs h
   obtain⟨b',hb,rfl⟩:=map_some h
   exact xy hp (he hc).2 (h2 C hf hp hst hx hb)
 |Pass=>cases h;exact xJ
 |Try body hs els fin _=>
  cases els with
  |cons=>cases h
  |nil=>
   cases fin with
   |cons=>cases h
   |nil=>
    obtain⟨⟨u1,u2⟩,hh,h⟩:=bs h
    obtain⟨p,he1,h⟩:=bs h
    obtain⟨q,he2,h⟩:=bs h
    obtain⟨⟨hk,hcm⟩,h⟩:=fU h
    obtain⟨i,hi,h⟩:=bs h
    obtain⟨i2,hi2,h⟩:=bs h
    obtain⟨b',hb,h⟩:=bs h
    obtain⟨s1,hs1,h⟩:=bs h
    obtain⟨s2,hs2,rfl⟩:=map_some h
    cases gj hh
    obtain⟨_,_,rfl⟩:=p5 he1
    obtain⟨_,_,rfl⟩:=p5 he2
    simp only[Bool.and_eq_true] at hk
    exact xA C hf hst hk.1.1.1 (List.contains_iff_mem.mp hk.1.1.2) hi (by simpa using hk.1.2) hk.2.1.1 (List.contains_iff_mem.mp hk.2.1.2) hi2 (by simpa using hk.2.2) (fun pins E Xw' hpo hxe=>h2 (wH C pins E) hf hpo hst hxe hb) (fun a=>h3 (kG C a) hf PassesOwn.never hst dP.no hs1) (fun a=>h3 (kG C a) hf PassesOwn.never hst dP.no hs2)
 |_=>cases h
theorem ir(g:c_):∀n T,SS T g n∧Bd T g n∧Ck T g n
 |0,T=>⟨fun C hf hp hst hx h=>(by cases h),fun C hf hp hst hx h=>(by cases h),fun C hf hp hst hx h=>(by cases h)⟩
 |n+1,T=>⟨vb (ir g n T).2.2,rX (ir g n T).1 (ir g n T).2.1,vO (ir g n T).2.1 (ir g n T.suite).2.1⟩
structure Rec where
 name:Str
 fname:Str
 qual:Str
 ps:List Str
 N:List Str
 st:Stmt
 fn:Fn
 rz:Bool
structure Chk(T:Tab)(r:Rec):Prop where
 sc:FnScope r.N r.ps (bM r.st)
 nm:∀x∈r.N,(x==("__debug__":Str))=false∧(x==("__classdict__":Str))=false
 cc:uC {T with rz:=r.rz} 100 (bM r.st) r.N (dN r.st)=some r.fn.body
 ar:r.fn.ar=r.ps.length
 nl:r.fn.nl=r.N.length
structure Lnk(K:ao)(r:Rec)(a:Addr)(fd:FuncData):Prop where
 f:Fun K r.fname r.qual r.st a fd
 b:Binds K fd r.ps []
theorem CN{K:ao}{st:Stmt}{f:Addr}{fd:FuncData}{ps:List Str}{k:Nat}(F:Fun K x qual st f fd)(S:FnScope N ps (bM st))(len:∀vs H Q E,sp vs H Q E→vs.length=ps.length)
  (hbody:∀(cdv:Value)(A:Around)(outer:List Env)(s:Shared)(H:Hp)(vs:List V)(Q:VK)(E:XK),Room k (A.deeper (envOfC qual (bM st) s.heap.objs.size f cdv))→sp vs H Q E→
   ∃t,PSs (m9 (ji P w) P w K mg base N qual (bM st) f cdv A outer s H E) (dN st) t∧t {nx:=fun _ H'=>Q .non H',rt:=Q} (start N vs) H):FnOk P w K mg base (ji P w) (k+1) f fd ps sp:=by
 obtain⟨oc,od,kV,doc,pm,an,cdv,ct,osl,rfl,lk,hcd⟩:=F.ex
 exact AS lk hcd S len fun A outer s H vs Q E hr hsp=>hbody cdv A outer s H vs Q E hr hsp
theorem e_{be:List Rec}{T:Tab}{r:Rec}(hr:be[i]? =some r)(hc:Chk T r):∀(n:Nat)(ds:List D)(st:aS),ds.length≠r.ps.length→calls (be.map (·.fn)) n i ds st=.bad
 |0,_,_,_=>rfl
 |n+1,ds,st,h=>by
  have e:(be.map (·.fn))[i]? =some r.fn:=by rw[aM,hr];rfl
  simp only[calls,e,nq]
  rw[if_neg (by rw[hc.ar];exact h)]
  rfl
theorem qt{K:ao}{ds:List D}(r:VRels K H ι m ds vs)(N:List Str)(k:Nat)(hk:k=N.length):LRel K H ι m (ds.map some++List.replicate (k - ds.length) none) (L2.start N vs):=by
 have l:=r.length
 refine⟨by simp[L2.start,l,hk],fun i d e=>?_⟩
 by_cases hi:i<ds.length
 ·rw[aN (by simpa using hi),aM] at e
  cases q:ds[i]? with
  |none=>rw[q] at e;cases e
  |some d'=>
   rw[q] at e
   have e':d'=d:=by simpa using e
   subst e'
   obtain⟨v,hv,rv⟩:=r.get q
   refine⟨v,?_,rv⟩
   unfold L2.start
   rw[aN (by simpa[←l] using hi),aM,hv]
   rfl
 ·rw[aQ (by simpa using hi),List.getElem?_replicate] at e
  split at e<;>cases e
structure Facts(K:ao)(mg:Str→Option Value)(T:Tab)(be:List Rec):Prop where
 chk:∀r∈be,Chk T r
 calm:T.calm=true
 fns:∀(i:Nat)(f:Str),T.fns[i]? =some f→(f==("__debug__":Str))=false∧∃r a fd,be[i]? =some r∧Lnk K r a fd∧mg f=some (.ref a)
 csts:∀x d,T.csts.lookup x=some d→(x==("__debug__":Str))=false∧∃u v,mg x=some u∧RelV v u∧∀H ι m,VRel K H ι m d v
 blt:∀x∈re,mg x=none
 cats:∀t,t∈T.cats→(t==("__debug__":Str))=false∧∃D,PySem.W.nsIn K mainGlobals t=some (some (.ref D))∧mg t=some (.ref D)∧ECat K D
 cls:∀x anc,(x,anc)∈T.cls→∃C,PySem.W.nsIn K mainGlobals x=some (some (.ref C))∧ECls K C∧(∀f∈T.flds,PySem.W.findIn K (.ref C) f=some none)∧
  (∀t∈T.cats,∀D,PySem.W.nsIn K mainGlobals t=some (some (.ref D))→PySem.W.kitOne K (.ref C) (.ref D)=some (anc.contains t)∧PySem.W.mroIn K C (.ref D)=some (anc.contains t))∧PySem.W.kitOne K (.ref C) (.type "ValueError")=some (anc.contains "ValueError")
 ini:∀(x:Str)(j:Nat),(x,j)∈T.ini→(x==("__debug__":Str))=false∧∃C r a fd,be[j]? =some r∧Lnk K r a fd∧PySem.W.nsIn K mainGlobals x=some (some (.ref C))∧mg x=some (.ref C)∧EMk K C∧PySem.W.mroIn K C (.type "BaseException")=some true∧PySem.W.keepIn K (.ref C)=true∧
  PySem.W.findIn K (.ref C) "__init__"=some (some (.ref a))∧PySem.W.isFn K (.ref a)=true
 icl:∀c∈T.icl,∃C,PySem.W.nsIn K mainGlobals c.x=some (some (.ref C))∧Cls K C∧(∀f∈c.flds,eP K C f)∧(∀(m:Str)(j:Nat),(m,j)∈c.mts→∃r a fd,be[j]? =some r∧Lnk K r a fd∧Meth K C m a)∧
  (PySem.W.findIn K (.ref C) "__class__"=some (some (.builtin "object.__class__"))∧PySem.W.specialIn K (.builtin "object.__class__") "__get__"=some (some (.builtin "getset_descriptor.__get__"))∧PySem.W.takesIn K (.builtin "object.__class__")=some true∧PySem.W.mroIn K C (.type "object")=some true)∧
  ∀t∈T.icats,∀D,PySem.W.nsIn K mainGlobals t=some (some (.ref D))→PySem.W.kitOne K (.ref C) (.ref D)=some (c.anc.contains t)
 icats:∀t,t∈T.icats→(t==("__debug__":Str))=false∧∃D,PySem.W.nsIn K mainGlobals t=some (some (.ref D))∧mg t=some (.ref D)
 mks:∀(x:Str)(j:Nat),(x,j)∈T.mks→(x==("__debug__":Str))=false∧∃C r a fd,be[j]? =some r∧Lnk K r a fd∧PySem.W.nsIn K mainGlobals x=some (some (.ref C))∧mg x=some (.ref C)∧Mk K C a
 ums:∀(x m:Str)(j:Nat),(x,m,j)∈T.ums→(x==("__debug__":Str))=false∧∃C r a fd,be[j]? =some r∧Lnk K r a fd∧mg x=some (.ref C)∧UMeth K C m a
theorem gp{P:Program}{w:World}{K:ao}{mg:Str→Option Value}{base:Heap}{T:Tab}{be:List Rec}(Z:Facts K mg T be):
  ∀(n i:Nat)(r:Rec)(a:Addr)(fd:FuncData),be[i]? =some r→Lnk K r a fd→FnOk P w K mg base (ji P w) (2*n) a fd r.ps (wT K r.ps.length (calls (be.map (·.fn)) n i))
 |0,i,r,a,fd,hr,L=>⟨fun vs H Q E h=>h.1,fun A outer s H args us vs Q E _ _ _ _ h=>by
   obtain⟨_,ι,st,ds,_,_,q⟩:=h
   exact False.elim q⟩
 |n+1,i,r,a,fd,hr,L=>by
  have c:=Z.chk r (al hr)
  refine CN (k:=2*n+1) L.f c.sc (fun vs H Q E h=>h.1) (fun cdv A outer s H vs Q E hroom h=>?_)
  obtain⟨hlen,ι,st,ds,S,rv,q⟩:=h
  have un:=hroom.un
  have C:Ctx {T with rz:=r.rz} (calls (be.map (·.fn)) n) (m9 (ji P w) P w K mg base r.N r.qual (bM r.st) a cdv A outer s H E) (bM r.st) r.N:=by
   refine⟨rfl,rfl,c.sc.nd,c.nm,fun _=>rfl,?_,fun j f hj=>?_,Z.csts,Z.blt,Z.cats,Z.cls,fun x j hj=>?_,fun c hc=>?_,Z.icats,fun x j hj=>?_,fun x m j hj=>?_⟩
   ·show(A.deeper _).units+100<cLine
    omega
   ·obtain⟨hd,r2,a2,fd2,hr2,L2',hm⟩:=Z.fns j f hj
    exact⟨hd,a2,fd2,r2.ps,2*n,hm,L2'.f.kp,L2'.b,hroom.mono (Nat.le_succ _),e_ hr2 (Z.chk r2 (al hr2)) n,gp Z n j r2 a2 fd2 hr2 L2'⟩
   ·obtain⟨hd,C0,r2,a2,fd2,hr2,L2',q1,q2,q3,q4,q5,q6,q7⟩:=Z.ini x j hj
    exact⟨hd,C0,a2,fd2,r2.ps,2*n,q1,q2,q3,q4,q5,q6,q7,L2'.b,hroom,e_ hr2 (Z.chk r2 (al hr2)) n,gp Z n j r2 a2 fd2 hr2 L2'⟩
   ·obtain⟨C0,q1,q2,q3,q4,q5,q6⟩:=Z.icl c hc
    refine⟨C0,q1,q2,q3,fun m j hj=>?_,q5,q6⟩
    obtain⟨r2,a2,fd2,hr2,L2',M⟩:=q4 m j hj
    exact⟨a2,fd2,r2.ps,2*n,M,L2'.b,hroom.mono (Nat.le_succ _),e_ hr2 (Z.chk r2 (al hr2)) n,gp Z n j r2 a2 fd2 hr2 L2'⟩
   ·obtain⟨hd,C0,r2,a2,fd2,hr2,L2',q1,q2,q3⟩:=Z.mks x j hj
    exact⟨hd,C0,a2,fd2,r2.ps,2*n,q1,q2,q3,L2'.b,hroom,e_ hr2 (Z.chk r2 (al hr2)) n,gp Z n j r2 a2 fd2 hr2 L2'⟩
   ·obtain⟨hd,C0,r2,a2,fd2,hr2,L2',q1,q2⟩:=Z.ums x m j hj
    exact⟨hd,C0,a2,fd2,r2.ps,2*n,q1,q2,L2'.b,hroom.mono (Nat.le_succ _),e_ hr2 (Z.chk r2 (al hr2)) n,gp Z n j r2 a2 fd2 hr2 L2'⟩
  refine⟨_,(ir _ 100 _).2.1 C (fun _=>rfl) PassesOwn.leaving ⟨rfl,rfl⟩ ql c.cc,ι,st,ds.map some++List.replicate (r.fn.nl - ds.length) none,S,qt rv _ _ c.nl,?_⟩
  have e:(be.map (·.fn))[i]? =some r.fn:=by rw[aM,hr];rfl
  have hd:ds.length=r.fn.ar:=by rw[rv.length,hlen,c.ar]
  simp only[calls,e,nq] at q
  rw[if_pos hd] at q
  unfold ba at q
  cases e1:execs (calls (be.map (·.fn)) n) r.fn.body (ds.map some++List.replicate (r.fn.nl - ds.length) none) st with
  |bad=>rw[e1] at q;exact q.elim
  |ok f st1=>
   rw[e1] at q
   cases f with
   |nx loc=>exact fun H1 ι1 σ1 E1 S1 L1=>q H1 ι1 .non E1 S1 .non
   |rt d=>exact q
   |ex m l=>exact fun H1 ι1 σ1 E1 S1 L1=>q H1 ι1 E1 S1
noncomputable def pq(K:ao):Sp:=fun vs H Q _=>∃(a:Addr)(ns:List Int),vs=[.ref a]∧dz K H a (ns.map V.int)∧wO H∧ns.length≤63∧∀H',Q (.bl true) H'
theorem mN{K:ao}{H:Hp}{ι:Nat→Addr}{m:Nat}:∀ns:List Int,VRels K H ι m (ns.map .int) (ns.map V.int)
 |[]=>.nil
 |n::ns=>.cons (.int n) (mN ns)
theorem yD{K:ao}{a:Addr}{fd:FuncData}{f:List D→M Rs}(F:FnOk P w K mg base (ji P w) n a fd [x] (wT K 1 f))
  (h:∀ns:List Int,ns.length≤63→∃st',f [.fl (ns.map .int)] []=.ok (.v (.bl true)) st'):FnOk P w K mg base (ji P w) n a fd [x] (pq K):=by
 refine F.imp fun vs H Q E hp=>?_
 obtain⟨a,ns,e,hS,hO,hl,q⟩:=hp
 subst e
 obtain⟨st',e⟩:=h ns hl
 refine⟨rfl,fun _=>0,[],[.fl (ns.map .int)],⟨fun i _ hi=>absurd hi (Nat.not_lt_zero _),fun i o e=>by simp at e⟩,.cons (.fl (xs:=ns.map V.int) ?_ (mN ns)) .nil,?_⟩
 ·rcases hS with(h|h)|h
  ·rcases hO a with z|⟨o,xs,z⟩
   ·rw[h] at z;cases z
   ·rw[h] at z;cases z
  ·exact .inl h
  ·exact .inr h
 ·rw[e]
  intro H' ι' v E' S' r
  cases r
  exact q H'
theorem walk{l:PySem.W.OpenLaw}{q:Program}{loose:List Str}{XP:(Str→Option Value)→Heap→Prop}{YP:World→Heap→Prop}{d:DefRec}{K:Params→ao}(hn:l.most=some 63)(hdf:d.params.defaults=[])(hr:Room n callerA)
  (hY:∀(w:World)(h:Heap),YP w h→(K w.params).In h)
  (F:∀(w:World)(mg:Str→Option Value)(fa:Addr)(h:Heap),(K w.params).In h→h.Ns mainGlobals mg→mg d.name=some (.ref fa)→
   ∃fd:FuncData,(∀(s:Shared)(u:Value),BindsTo s fd ⟨[u],[]⟩ [(x,u)])∧∀base:Heap,(K w.params).In base→base.Ns mainGlobals mg→FnOk l.prog w (K w.params) mg base (ji l.prog w) n fa fd [x] (pq (K w.params))):
  PySem.W.WalkO q loose XP YP l.row.toRowW d [] (fun f vs=>PySem.call f vs):=
 L2.uO (n:=63) (k:=n) (x:=x) (CX:=fun w=>ji l.prog w) (sp:=fun w=>pq (K w.params)) hn (by decide) hdf hr hY F (fun _ _ a ns hl hO hS=>⟨a,ns,rfl,hS,hO,hl,fun _=>rfl⟩) fun _ _ _ _ _ ⟨_,_,_,_,_,_,_,_,_,_,_,_,z⟩=>z
set_option maxHeartbeats 4000000
noncomputable def j7(o:Option (Option Value))(s:String):Bool:=match o with
 |some (some (.builtin t))=>t==s
 |_=>false
theorem eg{o:Option (Option Value)}{s:String}(h:j7 o s=true):o=some (some (.builtin s)):=by
 unfold j7 at h
 split at h
 ·rename_i t
  have:t=s:=by simpa using h
  rw[this]
 ·cases h
noncomputable def qK(o:Option (Option Value)):Bool:=match o with
 |some none=>true
 |_=>false
theorem jc{o:Option (Option Value)}(h:qK o=true):o=some none:=by
 unfold qK at h
 split at h
 ·rfl
 ·cases h
noncomputable def qL(o:Option Bool)(b:Bool):Bool:=match o with
 |some c=>c==b
 |_=>false
theorem dY{o:Option Bool}{b:Bool}(h:qL o b=true):o=some b:=by
 unfold qL at h
 split at h
 ·rename_i c
  have:c=b:=by simpa using h
  rw[this]
 ·cases h
noncomputable def uj(K:ao)(C:Addr):Bool:=
 j7 (PySem.W.findIn K (.ref C) "__getattribute__") "BaseException.__getattribute__" &&(qK (PySem.W.findIn K (.ref C) "__getattr__")&&
 (j7 (PySem.W.findIn K (.ref C) "__setattr__") "object.__setattr__" &&(qL (PySem.W.mroIn K C (.type "BaseException")) true&&(qL (PySem.W.mroIn K C (.type "object")) true&&
 (PySem.W.hasDictIn K C&&(j7 (PySem.W.findIn K (.ref C) "__class__") "object.__class__" &&(j7 (PySem.W.specialIn K (.builtin "object.__class__") "__get__") "getset_descriptor.__get__" &&
 (qL (PySem.W.takesIn K (.builtin "object.__class__")) true&&(PySem.W.clsIn K C).any (fun cd=>lP cd.mro)))))))))
theorem ui{K:ao}(h:uj K C=true):ECls K C:=by
 unfold uj at h
 simp only[Bool.and_eq_true] at h
 obtain⟨h1,h2,h3,h4,h5,h6,h7,h8,h9,h10⟩:=h
 exact⟨eg h1,jc h2,eg h3,dY h4,dY h5,h6,eg h7,eg h8,dY h9,h10⟩
noncomputable def ze(K:ao)(D:Addr):Bool:=(match K.lookup D with
 |some ⟨.type t,_,.cls _,_⟩=>t== "type"
 |_=>false)&&qL (PySem.W.mroIn K D (.type "BaseException")) true
theorem wK{K:ao}{D:Addr}(h:ze K D=true):ECat K D:=by
 unfold ze at h
 rw[Bool.and_eq_true] at h
 obtain⟨h1,h2⟩:=h
 refine⟨?_,dY h2⟩
 split at h1
 ·rename_i t d cd sl e
  have:t= "type":=by simpa using h1
  subst this
  exact⟨_,_,_,e⟩
 ·cases h1
noncomputable def dZ(K:ao)(x:Str)(f:Addr→Bool):Bool:=match PySem.W.nsIn K mainGlobals x with
 |some (some (.ref C))=>f C
 |_=>false
theorem bS{K:ao}{f:Addr→Bool}(h:dZ K x f=true):∃C,PySem.W.nsIn K mainGlobals x=some (some (.ref C))∧f C=true:=by
 unfold dZ at h
 split at h
 ·exact⟨_,by assumption,h⟩
 ·cases h
noncomputable def pX(K:ao)(o:Option (Option Value)):Bool:=match o with
 |some (some v)=>PySem.W.isFn K v
 |_=>false
noncomputable def rc(K:ao)(T:Tab):Bool:=
 (T.cats.all fun t=>(t==("__debug__":Str))==false&&dZ K t (ze K))&&
 ((T.cls.all fun p=>dZ K p.1 fun C=>uj K C&&(T.flds.all (fun f=>qK (PySem.W.findIn K (.ref C) f))&&
  (T.cats.all (fun t=>dZ K t fun D=>qL (PySem.W.kitOne K (.ref C) (.ref D)) (p.2.contains t)&&qL (PySem.W.mroIn K C (.ref D)) (p.2.contains t))&&qL (PySem.W.kitOne K (.ref C) (.type "ValueError")) (p.2.contains "ValueError"))))&&
 (T.ini.all fun p=>dZ K p.1 fun C=>qL (PySem.W.mroIn K C (.type "BaseException")) true&&(PySem.W.keepIn K (.ref C)&&pX K (PySem.W.findIn K (.ref C) "__init__"))))
noncomputable def xb(K:ao)(mg:Str→Option Value)(be:List Rec)(x:Str)(j:Nat):Prop:=(x==("__debug__":Str))=false∧∃C r a fd,be[j]? =some r∧Lnk K r a fd∧PySem.W.nsIn K mainGlobals x=some (some (.ref C))∧mg x=some (.ref C)∧EMk K C∧PySem.W.mroIn K C (.type "BaseException")=some true∧PySem.W.keepIn K (.ref C)=true∧
  PySem.W.findIn K (.ref C) "__init__"=some (some (.ref a))∧PySem.W.isFn K (.ref a)=true
section
variable{K:ao}{mg:Str→Option Value}{T:Tab}{be:List Rec}{h:Heap}
theorem yQ{r:Rec}{a:Addr}{fd:FuncData}(hd:(x==("__debug__":Str))=false)(hr:be[j]? =some r)(L:Lnk K r a fd)(e:PySem.W.nsIn K mainGlobals x=some (some (.ref C)))(m:mg x=some (.ref C))(k:EMk K C)(hB:rc K T=true)
  (hx:(T.ini.map (·.1)).contains x=true)(hf:PySem.W.findIn K (.ref C) "__init__"=some (some (.ref a))):xb K mg be x j:=by
 unfold rc at hB
 simp only[Bool.and_eq_true] at hB
 obtain⟨_,_,h3⟩:=hB
 obtain⟨p,hp,rfl⟩:=List.mem_map.mp (List.contains_iff_mem.mp hx)
 obtain⟨C',e',q⟩:=bS (List.all_eq_true.mp h3 p hp)
 rw[e] at e'
 cases e'
 simp only[Bool.and_eq_true] at q
 obtain⟨q1,q2,q3⟩:=q
 rw[hf] at q3
 exact⟨hd,C,r,a,fd,hr,L,e,m,k,dY q1,q2,hf,q3⟩
noncomputable def wn(K:ao)(T:Tab):Bool:=
 (T.icats.all fun t=>(t==("__debug__":Str))==false&&dZ K t fun _=>true)&&
 ((T.icl.all fun c=>dZ K c.x fun C=>PySem.W.plainGet K C Str.empty&&(PySem.W.hasDictIn K C&&(PySem.W.plainOver K C&&(j7 (PySem.W.findIn K (.ref C) "__setattr__") "object.__setattr__" &&(c.flds.all (fun f=>qK (PySem.W.findIn K (.ref C) f))&&
  (c.mts.all (fun p=>pX K (PySem.W.findIn K (.ref C) p.1))&&(j7 (PySem.W.findIn K (.ref C) "__class__") "object.__class__" &&(j7 (PySem.W.specialIn K (.builtin "object.__class__") "__get__") "getset_descriptor.__get__" &&(qL (PySem.W.takesIn K (.builtin "object.__class__")) true&&(qL (PySem.W.mroIn K C (.type "object")) true&&
  T.icats.all (fun t=>dZ K t fun D=>qL (PySem.W.kitOne K (.ref C) (.ref D)) (c.anc.contains t))))))))))))&&
 ((T.mks.all fun p=>dZ K p.1 fun C=>PySem.W.makesIn K C&&(PySem.W.keepIn K (.ref C)&&pX K (PySem.W.findIn K (.ref C) "__init__")))&&
 (T.ums.all fun p=>dZ K p.1 fun C=>j7 (PySem.W.specialIn K (.ref C) "__getattribute__") "type.__getattribute__" &&PySem.W.readsIn K C (.type "type"))))
noncomputable def Bi(K:ao)(be:List Rec)(x m:Str)(j:Nat):Prop:=∃C r a fd,be[j]? =some r∧Lnk K r a fd∧PySem.W.nsIn K mainGlobals x=some (some (.ref C))∧PySem.W.findIn K (.ref C) m=some (some (.ref a))
noncomputable def Cl(K:ao)(mg:Str→Option Value)(be:List Rec)(x:Str)(j:Nat):Prop:=(x==("__debug__":Str))=false∧∃C r a fd,be[j]? =some r∧Lnk K r a fd∧PySem.W.nsIn K mainGlobals x=some (some (.ref C))∧mg x=some (.ref C)∧PySem.W.findIn K (.ref C) "__init__"=some (some (.ref a))
noncomputable def Cj(K:ao)(mg:Str→Option Value)(be:List Rec)(x m:Str)(j:Nat):Prop:=(x==("__debug__":Str))=false∧∃C r a fd,be[j]? =some r∧Lnk K r a fd∧PySem.W.nsIn K mainGlobals x=some (some (.ref C))∧mg x=some (.ref C)∧PySem.W.findCls K (.ref C) (.type "type") m=some (.val (.ref a))
theorem mL{v:Value}{o:Option (Option Value)}(h:pX K o=true)(e:o=some (some v)):PySem.W.isFn K v=true:=by
 rw[e] at h
 exact h
theorem t4(X:K.In h)(G:h.Ns mainGlobals mg)(hc:∀r∈be,Chk T r)(hq:T.calm=true)(hlen:T.fns.length≤be.length)
  (hf:∀p∈List.zip T.fns be,(p.1==("__debug__":Str))=false∧∃a fd,Lnk K p.2 a fd∧mg p.1=some (.ref a))
  (hcs:∀x d,T.csts.lookup x=some d→(x==("__debug__":Str))=false∧∃u v,mg x=some u∧RelV v u∧∀H ι m,VRel K H ι m d v)
  (hb:∀x∈re,mg x=none)(hB:rc K T=true)(hi:∀p∈T.ini,xb K mg be p.1 p.2)
  (hI:wn K T=true)(hm:∀c∈T.icl,∀p∈c.mts,Bi K be c.x p.1 p.2)(hk:∀p∈T.mks,Cl K mg be p.1 p.2)(hu:∀p∈T.ums,Cj K mg be p.1 p.2.1 p.2.2):Facts K mg T be:=by
 have hB':=hB
 unfold rc at hB'
 simp only[Bool.and_eq_true] at hB'
 obtain⟨h1,h2,_⟩:=hB'
 unfold wn at hI
 simp only[Bool.and_eq_true] at hI
 obtain⟨i1,i2,i3,i4⟩:=hI
 refine⟨hc,hq,?_,hcs,hb,?_,?_,fun x j hm=>hi (x,j) hm,?_,?_,?_,?_⟩
 ·intro i f e
  have hl:i<be.length:=am (aA e).1 hlen
  have er:be[i]? =some be[i]:=aC hl
  have:(f,be[i])∈List.zip T.fns be:=al (i:=i) (by rw[List.getElem?_zip_eq_some];exact⟨e,er⟩)
  obtain⟨d,a,fd,L,m⟩:=hf _ this
  exact⟨d,_,a,fd,er,L,m⟩
 ·intro t ht
  have q:=List.all_eq_true.mp h1 t ht
  simp only[Bool.and_eq_true] at q
  obtain⟨D,e,qc⟩:=bS q.2
  exact⟨by simpa using q.1,D,e,PySem.W.mg_of X G e,wK qc⟩
 ·intro x anc hx
  obtain⟨C,e,q⟩:=bS (List.all_eq_true.mp h2 (x,anc) hx)
  simp only[Bool.and_eq_true] at q
  obtain⟨q1,q2,q3,q4⟩:=q
  refine⟨C,e,ui q1,fun f hf=>jc (List.all_eq_true.mp q2 f hf),fun t ht D eD=>?_,dY q4⟩
  obtain⟨D',eD',qq⟩:=bS (List.all_eq_true.mp q3 t ht)
  rw[eD] at eD'
  cases eD'
  simp only[Bool.and_eq_true] at qq
  exact⟨dY qq.1,dY qq.2⟩
 ·intro c hc'
  obtain⟨C,e,q⟩:=bS (List.all_eq_true.mp i2 c hc')
  simp only[Bool.and_eq_true] at q
  obtain⟨q1,q2,q3,q4,q5,q6,q7,q8,q9,q10,q11⟩:=q
  refine⟨C,e,⟨q1,q2,q3,eg q4⟩,fun f hf=>jc (List.all_eq_true.mp q5 f hf),fun m j hmj=>?_,⟨eg q7,eg q8,dY q9,dY q10⟩,fun t ht D eD=>?_⟩
  ·obtain⟨C',r,a,fd,hr,L,e',hf⟩:=hm c hc' (m,j) hmj
   rw[e] at e'
   cases e'
   exact⟨r,a,fd,hr,L,⟨hf,mL (List.all_eq_true.mp q6 (m,j) hmj) hf,L.f.kp⟩⟩
  ·obtain⟨D',eD',qq⟩:=bS (List.all_eq_true.mp q11 t ht)
   rw[eD] at eD'
   cases eD'
   exact dY qq
 ·intro t ht
  have q:=List.all_eq_true.mp i1 t ht
  simp only[Bool.and_eq_true] at q
  obtain⟨D,e,_⟩:=bS q.2
  exact⟨by simpa using q.1,D,e,PySem.W.mg_of X G e⟩
 ·intro x j hx
  obtain⟨hd,C,r,a,fd,hr,L,e,m,hf⟩:=hk (x,j) hx
  obtain⟨C',e',q⟩:=bS (List.all_eq_true.mp i3 (x,j) hx)
  rw[e] at e'
  cases e'
  simp only[Bool.and_eq_true] at q
  exact⟨hd,C,r,a,fd,hr,L,e,m,⟨q.1,hf,mL q.2.2 hf,q.2.1⟩⟩
 ·intro x m j hx
  obtain⟨hd,C,r,a,fd,hr,L,e,mgx,hf⟩:=hu (x,m,j) hx
  obtain⟨C',e',q⟩:=bS (List.all_eq_true.mp i4 (x,m,j) hx)
  rw[e] at e'
  cases e'
  simp only[Bool.and_eq_true] at q
  exact⟨hd,C,r,a,fd,hr,L,mgx,⟨eg q.1,q.2,hf,rfl,L.f.kp⟩⟩
end
noncomputable def zo(r:Rec):Option Obj→Option Obj
 |some ⟨oc,od,.func f,sl⟩=>some ⟨oc,od,.func (PySem.W.fnOf r.fname r.qual (fv r.st) (dN r.st) (bM r.st) .none f.kwdefaults f.doc f.pyModule f.annotations f.code f.closureTuple),sl⟩
 |_=>none
noncomputable def B8(K:ao)(r:Rec)(a:Addr):Bool:=match K.lookup a with
 |some ⟨_,_,.func f,_⟩=>PySem.W.codeIn K f.code r.qual&&PySem.W.keepIn K (.ref a)
 |_=>false
noncomputable def Bk(r:Rec):Prop:=∀(kV doc pm:Value)(an:Option Addr)(cdv ct:Value)(us:List Value),us.length=r.ps.length→bindArgs (PySem.W.fnOf r.fname r.qual (fv r.st) (dN r.st) (bM r.st) .none kV doc pm an cdv ct) ⟨us,[]⟩=pure (r.ps.zip us)
theorem uc(h:us.length=n+1):∃a r,us=a::r∧r.length=n:=by
 cases us with
 |nil=>cases h
 |cons a r=>exact⟨a,r,rfl,Nat.succ.inj h⟩
theorem yC{K:ao}{r:Rec}{a:Addr}(hb:Bk r)(h:B8 K r a=true)(e:K.lookup a=zo r (K.lookup a)):∃fd,Lnk K r a fd:=by
 unfold B8 at h
 cases q:K.lookup a with
 |none=>rw[q] at h;cases h
 |some o=>
  obtain⟨oc,od,dt,sl⟩:=o
  cases dt with
  |func f=>
   rw[q] at h e
   rw[Bool.and_eq_true] at h
   have F:=yT (x:=r.fname) (qual:=r.qual) (st:=r.st) (q.trans e) h.1 h.2
   exact⟨_,F,F.binds hb⟩
  |_=>rw[q] at h;cases h
noncomputable def zr(o:Option (Option Value))(a:Option Addr):Bool:=match o,a with
 |some (some (.ref x)),some y=>x==y
 |_,_=>false
theorem lF{o:Option (Option Value)}{a:Option Addr}(h:zr o a=true):∃x,a=some x∧o=some (some (.ref x)):=by
 unfold zr at h
 split at h
 ·rename_i x y
  have:x=y:=by simpa using h
  subst this
  exact⟨_,rfl,rfl⟩
 ·cases h
noncomputable def B5(o:Option PySem.W.CFound)(a:Option Addr):Bool:=match o,a with
 |some (.val (.ref x)),some y=>x==y
 |_,_=>false
theorem yO{o:Option PySem.W.CFound}{a:Option Addr}(h:B5 o a=true):∃x,a=some x∧o=some (.val (.ref x)):=by
 unfold B5 at h
 split at h
 ·rename_i x y
  have:x=y:=by simpa using h
  subst this
  exact⟨_,rfl,rfl⟩
 ·cases h
noncomputable def zc(x:Str):Bool:=(x==("__debug__":Str))==false
noncomputable def zd(K:ao)(x:Str)(d:D):Bool:=match d,PySem.W.nsIn K mainGlobals x with
 | .tup [.str s],some (some (.ref q))=>(match K.lookup q with
  |some ⟨.type t,_,.seq ⟨[.str z _]⟩ _,_⟩=>t== "tuple" &&z==s
  |_=>false)
 |_,_=>false
theorem wI{K:ao}{d:D}(h:zd K x d=true):∃q,PySem.W.nsIn K mainGlobals x=some (some (.ref q))∧∀H ι m,VRel K H ι m d (.ref q):=by
 unfold zd at h
 split at h
 ·rename_i s q e
  split at h
  ·rename_i t dd z tk n sl e2
   rw[Bool.and_eq_true] at h
   have h1:t= "tuple":=by simpa using h.1
   have h2:z=s:=by simpa using h.2
   subst h1 h2
   exact⟨q,e,fun H ι m=>.tup (xs:=[.str z]) (.inr ⟨_,_,_,e2,rfl,rfl,(by show 1≤sizeLine;decide),.cons ⟨tk,rfl⟩ .nil⟩) (.cons (.str _) .nil)⟩
  ·cases h
 ·cases h
noncomputable def kq(K:ao)(T:Tab)(be:List Rec)(ad:List Addr):Bool:=
 be.length==ad.length&&((be.zip ad).all (fun p=>B8 K p.1 p.2)&&((T.fns.zip (be.zip ad)).all (fun p=>zc p.1&&zr (PySem.W.nsIn K mainGlobals p.1) (some p.2.2))&&
 (T.csts.all (fun p=>zc p.1&&zd K p.1 p.2)&&(re.all (fun x=>qK (PySem.W.nsIn K mainGlobals x))&&(T.ini.all (fun p=>zc p.1&&dZ K p.1 fun C=>zr (PySem.W.findIn K (.ref C) "__init__") ad[p.2]?)&&
 (T.icl.all (fun c=>dZ K c.x fun C=>c.mts.all fun p=>zr (PySem.W.findIn K (.ref C) p.1) ad[p.2]?)&&(T.mks.all (fun p=>zc p.1&&dZ K p.1 fun C=>zr (PySem.W.findIn K (.ref C) "__init__") ad[p.2]?)&&
 T.ums.all (fun p=>zc p.1&&dZ K p.1 fun C=>B5 (PySem.W.findCls K (.ref C) (.type "type") p.2.1) ad[p.2.2]?))))))))
section
variable{K:ao}{mg:Str→Option Value}{T:Tab}{be:List Rec}{h:Heap}{ad:List Addr}
theorem wZ(hb:∀r∈be,Bk r)(hl:kq K T be ad=true)(e:(be.zip ad).map (fun p=>K.lookup p.2)=(be.zip ad).map fun p=>zo p.1 (K.lookup p.2)){a:Addr}(ha:ad[j]? =some a):∃r fd,be[j]? =some r∧Lnk K r a fd:=by
 unfold kq at hl
 simp only[Bool.and_eq_true] at hl
 obtain⟨h0,h1,_⟩:=hl
 have h0:be.length=ad.length:=by simpa using h0
 have hj:j<be.length:=by rw[h0];exact(aA ha).1
 have hr:be[j]? =some be[j]:=aC hj
 have hz:(be.zip ad)[j]? =some (be[j],a):=by rw[List.getElem?_zip_eq_some];exact⟨hr,ha⟩
 have hm:=al hz
 have e2:K.lookup a=zo be[j] (K.lookup a):=by
  have q:=congrArg (·[j]?) e
  simpa[List.getElem?_map,hz] using q
 obtain⟨fd,L⟩:=yC (hb _ (al hr)) (List.all_eq_true.mp h1 _ hm) e2
 exact⟨_,fd,hr,L⟩
theorem jS(h:zc x=true):(x==("__debug__":Str))=false:=by
 unfold zc at h
 simpa using h
theorem qQ(X:K.In h)(G:h.Ns mainGlobals mg)(hc:∀r∈be,Chk T r)(hq:T.calm=true)(hbd:∀r∈be,Bk r)(hl:kq K T be ad=true)(e:(be.zip ad).map (fun p=>K.lookup p.2)=(be.zip ad).map fun p=>zo p.1 (K.lookup p.2))
  (hlen:T.fns.length≤be.length)(hB:rc K T=true)(hI:wn K T=true)(hE:∀p∈T.ini,∀C,PySem.W.nsIn K mainGlobals p.1=some (some (.ref C))→EMk K C):Facts K mg T be:=by
 have LK:=fun{j:Nat}{a:Addr}(ha:ad[j]? =some a)=>wZ hbd hl e ha
 unfold kq at hl
 simp only[Bool.and_eq_true] at hl
 obtain⟨h0,h1,h2,h3,h4,h5,h6,h7,h8⟩:=hl
 refine t4 X G hc hq hlen (fun p hp=>?_) (fun x d hx=>?_) (fun x hx=>PySem.W.mg_none_of X G (jc (List.all_eq_true.mp h4 x hx))) hB (fun p hp=>?_) hI (fun c hc p hp=>?_) (fun p hp=>?_) (fun p hp=>?_)
 ·obtain⟨i,hi⟩:=List.getElem?_of_mem hp
  rw[List.getElem?_zip_eq_some] at hi
  have h0:be.length=ad.length:=by simpa using h0
  have hj:i<ad.length:=by rw[←h0];exact(aA hi.2).1
  have ha:ad[i]? =some ad[i]:=aC hj
  obtain⟨r,fd,hr,L⟩:=LK ha
  rw[hi.2] at hr
  cases hr
  have hz:(T.fns.zip (be.zip ad))[i]? =some (p.1,p.2,ad[i]):=by rw[List.getElem?_zip_eq_some];exact⟨hi.1,by rw[List.getElem?_zip_eq_some];exact⟨hi.2,ha⟩⟩
  have q:=List.all_eq_true.mp h2 _ (al hz)
  simp only[Bool.and_eq_true] at q
  obtain⟨x,ex,eo⟩:=lF q.2
  cases ex
  exact⟨jS q.1,_,fd,L,PySem.W.mg_of X G eo⟩
 ·have q:=List.all_eq_true.mp h3 (x,d) (aD hx)
  simp only[Bool.and_eq_true] at q
  obtain⟨q0,eq,r⟩:=wI q.2
  exact⟨jS q.1,_,.ref q0,PySem.W.mg_of X G eq,rfl,r⟩
 ·have q:=List.all_eq_true.mp h5 p hp
  simp only[Bool.and_eq_true] at q
  obtain⟨C,eC,qq⟩:=bS q.2
  obtain⟨a,ea,ef⟩:=lF qq
  obtain⟨r,fd,hr,L⟩:=LK ea
  exact yQ (jS q.1) hr L eC (PySem.W.mg_of X G eC) (hE p hp C eC) hB (List.contains_iff_mem.mpr (List.mem_map_of_mem hp)) ef
 ·obtain⟨C,eC,qq⟩:=bS (List.all_eq_true.mp h6 c hc)
  obtain⟨a,ea,ef⟩:=lF (List.all_eq_true.mp qq p hp)
  obtain⟨r,fd,hr,L⟩:=LK ea
  exact⟨C,r,a,fd,hr,L,eC,ef⟩
 ·have q:=List.all_eq_true.mp h7 p hp
  simp only[Bool.and_eq_true] at q
  obtain⟨C,eC,qq⟩:=bS q.2
  obtain⟨a,ea,ef⟩:=lF qq
  obtain⟨r,fd,hr,L⟩:=LK ea
  exact⟨jS q.1,C,r,a,fd,hr,L,eC,PySem.W.mg_of X G eC,ef⟩
 ·have q:=List.all_eq_true.mp h8 p hp
  simp only[Bool.and_eq_true] at q
  obtain⟨C,eC,qq⟩:=bS q.2
  obtain⟨a,ea,ef⟩:=yO qq
  obtain⟨r,fd,hr,L⟩:=LK ea
  exact⟨jS q.1,C,r,a,fd,hr,L,eC,PySem.W.mg_of X G eC,ef⟩
theorem wd{l:PySem.W.OpenLaw}{fa:Addr}{li:Nat}{a:Addr}{r:Rec}(X:K.In h)(G:h.Ns mainGlobals mg)(hfa:mg "law"=some (.ref fa))(hbd:∀r∈be,Bk r)(hl:kq K T be ad=true)(e:(be.zip ad).map (fun p=>K.lookup p.2)=(be.zip ad).map fun p=>zo p.1 (K.lookup p.2))
  (Z:Facts K mg T be)(ha:ad[li]? =some a)(hr:be[li]? =some r)(hn:PySem.W.nsIn K mainGlobals "law"=some (some (.ref a))) (hp:r.ps=[x])(hs:∀ns:List Int,ns.length≤63→∃st',calls (be.map (·.fn)) n li [.fl (ns.map .int)] []=.ok (.v (.bl true)) st'):
  ∃fd:FuncData,(∀(s:Shared)(v:Value),BindsTo s fd ⟨[v],[]⟩ [(x,v)])∧∀base:Heap,K.In base→base.Ns mainGlobals mg→FnOk l.prog w K mg base (ji l.prog w) (2*n) fa fd [x] (pq K):=by
 have q:=hfa.symm.trans (PySem.W.mg_of X G hn)
 cases q
 obtain⟨r',fd,hr',L⟩:=wZ hbd hl e ha
 rw[hr] at hr'
 cases hr'
 obtain⟨oc,od,kV,doc,pm,an,cdv,ct,osl,rfl,lk,hcd⟩:=L.f.ex
 have hb:=hbd _ (al hr)
 refine⟨PySem.W.fnOf r.fname r.qual (fv r.st) (dN r.st) (bM r.st) .none kV doc pm an cdv ct,fun s v=>.of_eq ?_,fun base _ _=>?_⟩
 ·have:=hb kV doc pm an cdv ct [v] (by rw[hp];rfl)
  rw[hp] at this
  exact this
 ·have F:=gp (P:=l.prog) (w:=w) (base:=base) Z n li r _ _ hr L
  rw[hp] at F
  exact yD F hs
end
open PySem L2
noncomputable def W{α:Type}(r:R α)(Q:α→aS→Prop):Prop:=match r with
 | .ok a st=>Q a st
 | .bad=>False
theorem W.mono{r:R α}{Q Q':α→aS→Prop}(h:W r Q)(k:∀a st,Q a st→Q' a st):W r Q':=by
 cases r with
 |ok a st=>exact k _ _ h
 |bad=>exact h
theorem W.get{r:R α}{Q:α→aS→Prop}(h:W r Q):∃a st,r=.ok a st∧Q a st:=by
 cases r with
 |ok a st=>exact⟨a,st,rfl,h⟩
 |bad=>exact h.elim
noncomputable def Vq(Q:D→aS→Prop):Rs→aS→Prop:=fun r st=>match r with
 | .v d=>Q d st
 | .x _=>False
noncomputable abbrev Wv(r:R Rs)(Q:D→aS→Prop):Prop:=W r (Vq Q)
theorem Wv.mono{r:R Rs}{Q Q':D→aS→Prop}(h:Wv r Q)(k:∀a st,Q a st→Q' a st):Wv r Q':=W.mono h fun a st q=>by
 cases a with
 |v d=>exact k _ _ q
 |x n=>exact q
theorem aK{m:M α}{f:α→M β}{st:aS}{Q:β→aS→Prop}(h:W (m st) fun a st1=>W (f a st1) Q):W (ba m f st) Q:=by
 unfold ba
 cases e:m st with
 |ok a st1=>rw[e] at h;exact h
 |bad=>rw[e] at h;exact h
section
variable{g:c_}{loc:Loc}{st:aS}{Q:D→aS→Prop}{a b c:Ex}
theorem bz{d:D}(h:Q d st):W (run g (.c d) loc st) Q:=by rw[run];exact h
theorem aZ{d:D}(e:loc[i]? =some (some d))(h:Q d st):W (run g (.v i) loc st) Q:=by
 rw[run];unfold dU;rw[e];exact h
theorem fQ{es:List Ex}(h:W (runs g es loc st) fun ds st1=>Q (.tup ds) st1):W (run g (.tup es) loc st) Q:=by
 rw[run];exact aK (h.mono fun _ _ q=>q)
theorem bX{es:List Ex}(h:W (runs g es loc st) fun ds st1=>Q (.ref st1.length) (st1++[.lst ds])):W (run g (.lst es) loc st) Q:=by
 rw[run];exact aK (h.mono fun _ _ q=>q)
theorem pc(h:Q (.ref st.length) (st++[.dct []])):W (run g .emp loc st) Q:=by rw[run];exact h
theorem bv{op:Bo}(h:W (run g a loc st) fun x st1=>W (run g b loc st1) fun y st2=>W (cu op x y st2) Q):W (run g (.bin op a b) loc st) Q:=by
 rw[run];exact aK (h.mono fun _ _ q=>aK q)
theorem oZ(h:W (run g a loc st) fun x st1=>∃i,x=.int i∧Q (.int (-i)) st1):W (run g (.neg a) loc st) Q:=by
 rw[run];exact aK (h.mono fun _ _ ⟨i,e,q⟩=>by subst e;exact q)
theorem w_not(h:W (run g a loc st) fun x st1=>∃k,x=.bl k∧Q (.bl (!k)) st1):W (run g (.not a) loc st) Q:=by
 rw[run];exact aK (h.mono fun _ _ ⟨i,e,q⟩=>by subst e;exact q)
theorem w_and(h:W (run g a loc st) fun x st1=>∃k,x=.bl k∧(k=true→W (run g b loc st1) Q)∧(k=false→Q (.bl false) st1)):W (run g (.and a b) loc st) Q:=by
 rw[run];exact aK (h.mono fun _ _ hp=>by
  obtain⟨k,e,q1,q2⟩:=hp
  subst e
  cases k with
  |true=>exact q1 rfl
  |false=>exact q2 rfl)
theorem w_or(h:W (run g a loc st) fun x st1=>∃k,x=.bl k∧(k=true→Q (.bl true) st1)∧(k=false→W (run g b loc st1) Q)):W (run g (.or a b) loc st) Q:=by
 rw[run];exact aK (h.mono fun _ _ hp=>by
  obtain⟨k,e,q1,q2⟩:=hp
  subst e
  cases k with
  |true=>exact q1 rfl
  |false=>exact q2 rfl)
theorem bZ{op:CmpOp}(h:W (run g a loc st) fun x st1=>W (run g b loc st1) fun y st2=>W (bQ op x y st2) Q):W (run g (.cmp op a b) loc st) Q:=by
 rw[run];exact aK (h.mono fun _ _ q=>aK q)
theorem uU{op:CmpOp}(h:W (run g a loc st) fun x st1=>W (run g b loc st1) fun y st2=>W (bQ op x y st2) fun z st3=>∃k,z=.bl k∧
  (k=true→W (run g c loc st3) fun w st4=>W (bQ op' y w st4) Q)∧(k=false→Q (.bl false) st3)):W (run g (.chain op op' a b c) loc st) Q:=by
 rw[run]
 exact aK (h.mono fun _ _ q=>aK (q.mono fun _ _ q=>aK (q.mono fun _ _ hp=>by
  obtain⟨k,e,q1,q2⟩:=hp
  subst e
  cases k with
  |true=>exact aK (show W ((ba (run g c loc) fun w=>bQ op' _ w) _) Q from aK (q1 rfl))
  |false=>exact q2 rfl)))
theorem dq(h:W (run g a loc st) fun x st1=>W (run g b loc st1) fun y st2=>W (index x y st2) Q):W (run g (.ix a b) loc st) Q:=by
 rw[run];exact aK (h.mono fun _ _ q=>aK q)
theorem ik(h:W (run g a loc st) fun x st1=>W (run g b loc st1) fun y st2=>∃i,y=.int i∧W (slice x none (some i) st2) Q):W (run g (.sl a b b false true) loc st) Q:=by
 rw[run]
 refine aK (h.mono fun _ _ q=>aK ?_)
 show W ((ba (if true=true then ba (run g b loc) fun z=>ba (dU (iF z)) fun i=>ret (some i) else ret none) fun h=>slice _ none h) _) Q
 exact aK (show W ((ba (run g b loc) fun z=>ba (dU (iF z)) fun i=>ret (some i)) _) _ from aK (q.mono fun _ _ ⟨i,e,q⟩=>by subst e;exact q))
theorem jj(h:W (run g a loc st) fun x st1=>W (run g b loc st1) fun y st2=>∃i,y=.int i∧W (slice x (some i) none st2) Q):W (run g (.sl a b b true false) loc st) Q:=by
 rw[run]
 refine aK (h.mono fun _ _ q=>aK ?_)
 exact aK (q.mono fun _ _ ⟨i,e,q⟩=>by subst e;exact q)
theorem dv{f:Nat}{args:List Ex}(h:W (runs g args loc st) fun ds st1=>Wv (g f ds st1) Q):W (run g (.fn f args) loc st) Q:=by
 rw[run]
 refine aK (h.mono fun ds st1 q=>aK (W.mono q fun r st2 q=>?_))
 cases r with
 |v d=>exact q
 |x n=>exact q.elim
theorem w_fld{ics:List Str}(h:W (run g a loc st) fun x st1=>∃n c m t fs d,x=.ref n∧st1[n]? =some (.err c (some m) t)∧st1[m]? =some (.edc fs)∧fs.lookup f=some d∧c∈cs∧Q d st1):W (run g (.fld a f cs ics) loc st) Q:=by
 rw[run];exact aK (h.mono fun x st1 ⟨n,c,m,t,fs,d,e,e1,e2,e3,hc,q⟩=>by subst e;simp only[oH,e1,e2,e3];rw[if_pos hc];exact q)
theorem bf{ics:List Str}(h:W (run g a loc st) fun x st1=>∃n c fs d,x=.ref n∧st1[n]? =some (.ins c fs)∧fs.lookup f=some d∧c∈ics∧Q d st1):W (run g (.fld a f cs ics) loc st) Q:=by
 rw[run];exact aK (h.mono fun x st1 ⟨n,c,fs,d,e,e1,e3,hc,q⟩=>by subst e;simp only[oH,e1,e3];rw[if_pos hc];exact q)
theorem rE{yes no:List Str}(h:W (run g a loc st) fun x st1=>∃n c fs b,x=.ref n∧st1[n]? =some (.ins c fs)∧(b=true→c∈yes)∧(b=false→c∉yes∧c∈no)∧Q (.bl b) st1):W (run g (.isk a yes no) loc st) Q:=by
 rw[run];exact aK (h.mono fun x st1 hp=>by
  obtain⟨n,c,fs,b,e,e1,h1,h2,q⟩:=hp
  subst e
  simp only[yM,e1]
  cases b with
  |true=>rw[if_pos (h1 rfl)];exact q
  |false=>rw[if_neg (h2 rfl).1,if_pos (h2 rfl).2];exact q)
theorem l9{f:Nat}{args:List Ex}(h:W (runs g args loc st) fun ds st1=>Wv (g f (.ref st1.length::ds) (st1++[.ins x []])) fun d st2=>d=.non∧Q (.ref st1.length) st2):W (run g (.new x f args) loc st) Q:=by
 rw[run]
 refine aK (h.mono fun ds st1 q=>?_)
 unfold tx
 refine aK (W.mono q fun r st2 q=>?_)
 cases r with
 |v d=>obtain⟨rfl,q⟩:=q;exact q
 |x n=>exact q.elim
theorem cm{m:Str}{ms:List (Str×Nat)}{args:List Ex}(h:W (run g a loc st) fun x st1=>∃n c fs j,x=.ref n∧st1[n]? =some (.ins c fs)∧fs.lookup m=none∧ms.lookup c=some j∧W (runs g args loc st1) fun ds st2=>Wv (g j (.ref n::ds) st2) Q):W (run g (.meth a m ms args) loc st) Q:=by
 rw[run]
 refine aK (h.mono fun x st1 ⟨n,c,fs,j,e,e1,e2,e3,q⟩=>aK ?_)
 subst e
 simp only[pQ,e1,e2,e3]
 refine aK (q.mono fun ds st2 q=>aK (W.mono q fun r st3 q=>?_))
 cases r with
 |v d=>exact q
 |x n=>exact q.elim
theorem xg(h:W (run g a loc st) fun x st1=>∃j,x=.int j∧(-1000000≤j∧j≤1000000)∧Q (.ref st1.length) (st1++[.lst (bp j.toNat)])):W (run g (.lrng a) loc st) Q:=by
 rw[run];exact aK (h.mono fun x st1 ⟨j,e,l,q⟩=>by subst e;simp only[tF];rw[if_pos l];exact q)
theorem zL(h:W (run g a loc st) fun x st1=>∃n xs,x=.ref n∧st1[n]? =some (.lst xs)∧Q (.ref st1.length) (st1++[.dct (xs.zipIdx.map fun q=>(Sum.inl (q.2:Int),q.1))])):W (run g (.den a) loc st) Q:=by
 rw[run];exact aK (h.mono fun x st1 ⟨n,xs,e,e1,q⟩=>by subst e;simp only[za,e1];exact q)
theorem kg{yes no:List Str}(h:W (run g a loc st) fun x st1=>∃n c d t b,x=.ref n∧st1[n]? =some (.err c d t)∧jR st1 d=true∧(b=true→c∈yes)∧(b=false→c∉yes∧c∈no)∧Q (.bl b) st1):W (run g (.isc a yes no) loc st) Q:=by
 rw[run];exact aK (h.mono fun x st1 hp=>by
  obtain⟨n,c,d,t,b,e,e1,hd,h1,h2,q⟩:=hp
  subst e
  simp only[wk,e1]
  rw[if_pos hd]
  cases b with
  |true=>rw[if_pos (h1 rfl)];exact q
  |false=>rw[if_neg (h2 rfl).1,if_pos (h2 rfl).2];exact q)
theorem cG{f:Bt}{args:List Ex}(h:W (runs g args loc st) fun ds st1=>W (fO f ds st1) Q):W (run g (.bt f args) loc st) Q:=by
 rw[run];exact aK h
theorem o7{t:Ty}(h:W (run g a loc st) fun x st1=>∃k,cb st1 t x=some k∧Q (.bl k) st1):W (run g (.isi a t) loc st) Q:=by
 rw[run];exact aK (h.mono fun _ _ ⟨k,e,q⟩=>by show W (match cb _ t _ with|some k=>R.ok (.bl k) _|none=>.bad) Q;rw[e];exact q)
theorem rG(h:W (run g c loc st) fun x st1=>∃k,x=.bl k∧(k=true→W (run g a loc st1) Q)∧(k=false→W (run g b loc st1) Q)):W (run g (.ite c a b) loc st) Q:=by
 rw[run];exact aK (h.mono fun _ _ hp=>by
  obtain⟨k,e,q1,q2⟩:=hp
  subst e
  cases k with
  |true=>exact q1 rfl
  |false=>exact q2 rfl)
theorem xl{ks:List Str}{es:List Ex}(h:W (runs g es loc st) fun ds st1=>(ks.length=ds.length∧ks.Nodup)∧Q (.ref st1.length) (st1++[.dct ((ks.zip ds).map fun p=>(Sum.inr p.1,p.2))])):W (run g (.dict ks es) loc st) Q:=by
 rw[run];exact aK (h.mono fun ds st1 ⟨e,q⟩=>by unfold oU;rw[if_pos e];exact q)
theorem xf(h:W (run g a loc st) fun x st1=>∃n xs y,x=.ref n∧st1[n]? =some (.lst xs)∧xs[xs.length - 1]? =some y∧Q y (st1.set n (.lst xs.dropLast))):W (run g (.pop a false) loc st) Q:=by
 rw[run];exact aK (h.mono fun x st1 ⟨n,xs,y,e,e1,e2,q⟩=>by subst e;simp only[yb,e1,e2];exact q)
theorem jo{rng:Bool}(h:W (run g a loc st) fun d st1=>∃s,fe rng d=some s∧W (cf (fun x=>ba (run g b (some x::loc)) fun y=>ret (some y)) s st1) Q):W (run g (.comp rng a b) loc st) Q:=by
 rw[run];exact aK (h.mono fun _ _ ⟨s,e,q⟩=>aK (by unfold dU;rw[e];exact q))
theorem uT(h:W (run g a loc st) fun d st1=>∃s,jQ d=some s∧W (cf (fun x=>match x with
    | .tup [a,c]=>ba (run g b (some a::some c::loc)) fun y=>ret (some y)
    |_=>stuck) s st1) Q):W (run g (.compE a b) loc st) Q:=by
 rw[run];exact aK (h.mono fun _ _ ⟨s,e,q⟩=>aK (by unfold dU;rw[e];exact q))
end
section
variable{g:c_}{loc:Loc}{st:aS}{Q:List D→aS→Prop}
theorem au(h:Q [] st):W (runs g [] loc st) Q:=by rw[runs];exact h
theorem ag{e:Ex}{es:List Ex}(h:W (run g e loc st) fun d st1=>W (runs g es loc st1) fun ds st2=>Q (d::ds) st2):W (runs g (e::es) loc st) Q:=by
 rw[runs];exact aK (h.mono fun _ _ q=>aK (q.mono fun _ _ q=>q))
end
section
variable{st:aS}{Q:D→aS→Prop}{f:D→M (Option D)}
theorem k6{xs:List D}{Q:List D→aS→Prop}(I:Nat→List D→aS→Prop)(step:∀i x acc st,xs[i]? =some x→I i acc st→W (f x st) fun o st1=>I (i+1) (match o with|some y=>acc++[y]|none=>acc) st1)
  (fin:∀acc st,I xs.length acc st→Q acc st):∀k i acc st,i≤xs.length→xs.length<k+i→I i acc st→W (c6 f (.its xs) k i acc st) Q
 |0,i,acc,st,h1,h2,h=>by omega
 |k+1,i,acc,st,h1,h2,h=>by
  simp only[c6,gR]
  cases e:xs[i]? with
  |none=>
   have:i=xs.length:=by have:=List.getElem?_eq_none_iff.mp e;omega
   subst this
   exact fin acc st h
  |some x=>
   have hi:=(aA e).1
   refine aK ((step i x acc st e h).mono fun o st1 q=>?_)
   cases o with
   |none=>exact k6 I step fin k (i+1) acc st1 hi (by omega) q
   |some y=>exact k6 I step fin k (i+1) (acc++[y]) st1 hi (by omega) q
theorem i6{xs:List D}(hl:xs.length≤1000000)(I:Nat→List D→aS→Prop)(h0:I 0 [] st)(step:∀i x acc st,xs[i]? =some x→I i acc st→W (f x st) fun o st1=>I (i+1) (match o with|some y=>acc++[y]|none=>acc) st1)
  (fin:∀acc st,I xs.length acc st→Q (.ref st.length) (st++[.lst acc])):W (cf f (.its xs) st) Q:=by
 unfold cf
 rw[if_pos (show gJ (.its xs) st≤1000000 from hl)]
 refine aK (W.mono (k6 (Q:=fun acc st=>Q (.ref st.length) (st++[.lst acc])) I step fin (xs.length+1) 0 [] st (by omega) (by show xs.length<xs.length+1+0;omega) h0) fun acc st q=>(show Q (.ref st.length) (st++[.lst acc]) from q))
theorem jm{n:Nat}{xs:List D}{Q:List D→aS→Prop}(I:Nat→List D→aS→Prop)(keep:∀i acc st,I i acc st→st[n]? =some (.lst xs))(step:∀i x acc st,xs[i]? =some x→I i acc st→W (f (.tup [.int (i:Int),x]) st) fun o st1=>I (i+1) (match o with|some y=>acc++[y]|none=>acc) st1)
  (fin:∀acc st,I xs.length acc st→Q acc st):∀k i acc st,i≤xs.length→xs.length<k+i→I i acc st→W (c6 f (.en n) k i acc st) Q
 |0,i,acc,st,h1,h2,h=>by omega
 |k+1,i,acc,st,h1,h2,h=>by
  simp only[c6,gR,keep i acc st h]
  cases e:xs[i]? with
  |none=>
   have:i=xs.length:=by have:=List.getElem?_eq_none_iff.mp e;omega
   subst this
   exact fin acc st h
  |some x=>
   have hi:=(aA e).1
   refine aK ((step i x acc st e h).mono fun o st1 q=>?_)
   cases o with
   |none=>exact jm I keep step fin k (i+1) acc st1 hi (by omega) q
   |some y=>exact jm I keep step fin k (i+1) (acc++[y]) st1 hi (by omega) q
theorem ma{xs:List D}(hl:xs.length≤1000000)(hn:st[n]? =some (.lst xs))(I:Nat→List D→aS→Prop)(h0:I 0 [] st)(keep:∀i acc st,I i acc st→st[n]? =some (.lst xs))(step:∀i x acc st,xs[i]? =some x→I i acc st→W (f (.tup [.int (i:Int),x]) st) fun o st1=>I (i+1) (match o with|some y=>acc++[y]|none=>acc) st1)
  (fin:∀acc st,I xs.length acc st→Q (.ref st.length) (st++[.lst acc])):W (cf f (.en n) st) Q:=by
 have hL:gJ (.en n) st=xs.length:=by simp only[gJ,hn]
 unfold cf
 rw[hL,if_pos hl]
 refine aK (W.mono (jm (Q:=fun acc st=>Q (.ref st.length) (st++[.lst acc])) I keep step fin (xs.length+1) 0 [] st (by omega) (by omega) h0) fun acc st q=>(show Q (.ref st.length) (st++[.lst acc]) from q))
theorem jn{n:Nat}{xs:List D}{Q:List D→aS→Prop}(I:Nat→List D→aS→Prop)(keep:∀i acc st,I i acc st→st[n]? =some (.lst xs))(step:∀i x acc st,xs[i]? =some x→I i acc st→W (f x st) fun o st1=>I (i+1) (match o with|some y=>acc++[y]|none=>acc) st1)
  (fin:∀acc st,I xs.length acc st→Q acc st):∀k i acc st,i≤xs.length→xs.length<k+i→I i acc st→W (c6 f (.at n) k i acc st) Q
 |0,i,acc,st,h1,h2,h=>by omega
 |k+1,i,acc,st,h1,h2,h=>by
  simp only[c6,gR,keep i acc st h]
  cases e:xs[i]? with
  |none=>
   have:i=xs.length:=by have:=List.getElem?_eq_none_iff.mp e;omega
   subst this
   exact fin acc st h
  |some x=>
   have hi:=(aA e).1
   refine aK ((step i x acc st e h).mono fun o st1 q=>?_)
   cases o with
   |none=>exact jn I keep step fin k (i+1) acc st1 hi (by omega) q
   |some y=>exact jn I keep step fin k (i+1) (acc++[y]) st1 hi (by omega) q
theorem rJ{xs:List D}(hl:xs.length≤1000000)(hn:st[n]? =some (.lst xs))(I:Nat→List D→aS→Prop)(h0:I 0 [] st)(keep:∀i acc st,I i acc st→st[n]? =some (.lst xs))(step:∀i x acc st,xs[i]? =some x→I i acc st→W (f x st) fun o st1=>I (i+1) (match o with|some y=>acc++[y]|none=>acc) st1)
  (fin:∀acc st,I xs.length acc st→Q (.ref st.length) (st++[.lst acc])):W (cf f (.at n) st) Q:=by
 have hL:gJ (.at n) st=xs.length:=by simp only[gJ,hn]
 unfold cf
 rw[hL,if_pos hl]
 refine aK (W.mono (jn (Q:=fun acc st=>Q (.ref st.length) (st++[.lst acc])) I keep step fin (xs.length+1) 0 [] st (by omega) (by omega) h0) fun acc st q=>(show Q (.ref st.length) (st++[.lst acc]) from q))
theorem pf{g:c_}{loc:Loc}{b:Ex}{x:D}{Q:Option D→aS→Prop}(h:W (run g b (some x::loc) st) fun y st1=>Q (some y) st1):W (ba (run g b (some x::loc)) (fun y=>ret (some y)) st) Q:=aK (h.mono fun _ _ q=>q)
end
noncomputable def Kn(g:c_)(ss:List S)(Q:Fl→aS→Prop):Fl→aS→Prop:=fun r st=>match r with
 | .nx loc=>W (execs g ss loc st) Q
 | .rt d=>Q (.rt d) st
 | .ex n l=>Q (.ex n l) st
noncomputable def Kr(Q:D→aS→Prop):Fl→aS→Prop:=fun r st=>match r with
 | .nx _=>Q .non st
 | .rt d=>Q d st
 | .ex _ _=>False
noncomputable def Kx(Q:Rs→aS→Prop):Fl→aS→Prop:=fun r st=>match r with
 | .nx _=>Q (.v .non) st
 | .rt d=>Q (.v d) st
 | .ex n _=>Q (.x n) st
section
variable{g:c_}{loc:Loc}{st:aS}{Q:Fl→aS→Prop}{ss:List S}{e o i c:Ex}
theorem bq(h:W (execs g ss loc st) Q):Kn g ss Q (.nx loc) st:=h
theorem AK{d:D}(h:Q (.rt d) st):Kn g ss Q (.rt d) st:=h
theorem ck{Q:D→aS→Prop}(h:Q .non st):Kr Q (.nx loc) st:=h
theorem kr{Q:D→aS→Prop}{d:D}(h:Q d st):Kr Q (.rt d) st:=h
theorem tI{Q:Rs→aS→Prop}(h:Q (.v .non) st):Kx Q (.nx loc) st:=h
theorem tJ{Q:Rs→aS→Prop}{l:Loc}(h:Q (.x n) st):Kx Q (.ex n l) st:=h
theorem aT(h:Q (.nx loc) st):W (execs g [] loc st) Q:=by rw[execs];exact h
theorem bE{s:S}(h:W (exec g s loc st) (Kn g ss Q)):W (execs g (s::ss) loc st) Q:=by
 rw[execs]
 refine aK (h.mono fun r st1 q=>?_)
 cases r with
 |nx loc'=>exact q
 |rt d=>exact q
 |ex n l=>exact q
theorem d6{k:Tg}{f:Nat}{args:List Ex}(h:W (runs g args loc st) fun ds st1=>W (g f ds st1) fun r st2=>W (qP k loc r st2) (Kn g ss Q)):W (execs g (.callx k f args::ss) loc st) Q:=
 bE (by rw[exec];exact aK (h.mono fun _ _ q=>aK (q.mono fun _ _ q=>q)))
theorem kY{f:Nat}{args:List Ex}(h:W (runs g args loc st) fun ds st1=>W (jB g x f ds st1) fun n st2=>Q (.ex n loc) st2):W (execs g (.rais x f args::ss) loc st) Q:=
 bE (by rw[exec];exact aK (h.mono fun _ _ q=>aK (q.mono fun _ _ q=>q)))
theorem kX{ics:List Str}(h:W (run g e loc st) fun d st1=>W (run g o loc st1) fun x st2=>W (fS cs ics x f d st2) fun _ st3=>W (execs g ss loc st3) Q):W (execs g (.setf o f e cs ics::ss) loc st) Q:=
 bE (by rw[exec];exact aK (h.mono fun _ _ q=>aK (q.mono fun _ _ q=>aK (q.mono fun _ _ q=>q))))
theorem xn{ics:List Str}(h:W (run g o loc st) fun x st1=>∃n c fs i,x=.ref n∧st1[n]? =some (.ins c fs)∧fs.lookup f=some (.int i)∧c∈ics∧W (run g e loc st1) fun z st2=>∃j fs2,z=.int j∧st2[n]? =some (.ins c fs2)∧fs2.length<900∧W (execs g ss loc (st2.set n (.ins c (putD f (.int (i+j)) fs2)))) Q):W (execs g (.augf o f e ics::ss) loc st) Q:=
 bE (by
  rw[exec]
  refine aK (h.mono fun x st1 ⟨n,c,fs,i,e0,e1,e2,hc,q⟩=>aK ?_)
  subst e0
  simp only[oH,e1,e2]
  rw[if_pos hc]
  refine aK ?_
  simp only[q_,e1]
  refine aK (q.mono fun z st2 ⟨j,fs2,e3,e4,hl,q⟩=>aK ?_)
  subst e3
  simp only[zk]
  refine aK ?_
  simp only[q_,e4]
  show W ((if c=c then ba (fS [] ics (D.ref n) f (D.int (i+j))) fun x=>ret (Fl.nx loc) else stuck) st2) (Kn g ss Q)
  rw[if_pos rfl]
  refine aK ?_
  simp only[fS,e4]
  rw[if_pos ⟨hl,hc⟩]
  exact q)
noncomputable def CG(g:c_)(y1 n1:List Str)(i1:Nat)(s1:List S)(y2:List Str)(i2:Nat)(s2:List S)(Q:Fl→aS→Prop):Fl→aS→Prop:=fun r st=>match r with
 | .nx l=>Q (.nx l) st
 | .rt d=>Q (.rt d) st
 | .ex n l=>∃x d,st[n]? =some (.err x d true)∧((x∈y1∧W (execs g s1 (l.set i1 (some (.ref n))) st) fun r st1=>match r with
  | .nx l2=>Q (.nx (l2.set i1 none)) st1
  | .rt d=>Q (.rt d) st1
  | .ex _ _=>False)∨(x∉y1∧(x∈n1∧x∈y2)∧W (execs g s2 (l.set i2 (some (.ref n))) st) fun r st1=>match r with
  | .nx l2=>Q (.nx (l2.set i2 none)) st1
  | .rt d=>Q (.rt d) st1
  | .ex _ _=>False))
theorem nD{body s1 s2:List S}{y1 n1 y2:List Str}(h:W (execs g body loc st) (CG g y1 n1 i1 s1 y2 i2 s2 (Kn g ss Q))):W (execs g (.try2 body y1 n1 i1 s1 y2 i2 s2::ss) loc st) Q:=
 bE (by
  rw[exec]
  refine aK (h.mono fun r st1 q=>?_)
  cases r with
  |nx l=>exact q
  |rt d=>exact q
  |ex n l=>
   obtain⟨x,d,e,q⟩:=q
   simp only[e]
   rcases q with⟨hy,q⟩|⟨hn,hy,q⟩
   ·rw[if_pos hy]
    refine aK (q.mono fun r st2 q=>?_)
    cases r with
    |nx l2=>exact q
    |rt d=>exact q
    |ex _ _=>exact q.elim
   ·rw[if_neg hn,if_pos hy]
    refine aK (q.mono fun r st2 q=>?_)
    cases r with
    |nx l2=>exact q
    |rt d=>exact q
    |ex _ _=>exact q.elim)
theorem o9{body:List S}(h:W (run g e loc st) fun d st1=>∃s,jQ d=some s∧W (eY (fun x loc'=>ba (items? is.length x) fun ds=>execs g body (jv is ds loc')) s loc st1) (Kn g ss Q)):W (execs g (.forE is e body::ss) loc st) Q:=
 bE (by rw[exec];exact aK (h.mono fun _ _ ⟨s,e,q⟩=>aK (by unfold dU;rw[e];exact q)))
theorem uR{body:List S}(h:W (run g o loc st) fun x st1=>W (run g e loc st1) fun y st2=>∃s,zy x y=some s∧W (eY (fun x loc'=>ba (items? is.length x) fun ds=>execs g body (jv is ds loc')) s loc st2) (Kn g ss Q)):W (execs g (.forZ is o e body::ss) loc st) Q:=
 bE (by rw[exec];exact aK (h.mono fun _ _ q=>aK (q.mono fun _ _ ⟨s,e,q⟩=>aK (by unfold dU;rw[e];exact q))))
theorem bu(h:W (run g e loc st) fun d st1=>W (execs g ss (loc.set n (some d)) st1) Q):W (execs g (.set n e::ss) loc st) Q:=
 bE (by rw[exec];exact aK (h.mono fun _ _ q=>q))
theorem oY(h:W (run g e loc st) fun d st1=>W (run g o loc st1) fun x st2=>W (run g i loc st2) fun k st3=>W (gU x k d st3) fun _ st4=>W (execs g ss loc st4) Q):W (execs g (.setix o i e::ss) loc st) Q:=
 bE (by rw[exec];exact aK (h.mono fun _ _ q=>aK (q.mono fun _ _ q=>aK (q.mono fun _ _ q=>aK (q.mono fun _ _ q=>q)))))
theorem dn(h:W (run g e loc st) fun d st1=>Q (.rt d) st1):W (execs g (.ret e::ss) loc st) Q:=
 bE (by rw[exec];exact aK (h.mono fun _ _ q=>q))
theorem il(h:W (run g e loc st) fun _ st1=>W (execs g ss loc st1) Q):W (execs g (.ex e::ss) loc st) Q:=
 bE (by rw[exec];exact aK (h.mono fun _ _ q=>q))
theorem me(h:W (run g o loc st) fun x st1=>W (mI x st1) fun _ st2=>W (run g e loc st2) fun d st3=>W (append x d st3) fun _ st4=>W (execs g ss loc st4) Q):W (execs g (.app o e::ss) loc st) Q:=
 bE (by rw[exec];exact aK (h.mono fun _ _ q=>aK (q.mono fun _ _ q=>aK (q.mono fun _ _ q=>aK (q.mono fun _ _ q=>q)))))
theorem l5{c:Loc→M D}{f:Loc→M Fl}(I:Nat→Loc→aS→Prop)(turn:∀m loc st,I m loc st→W (c loc st) fun x st1=>∃b,x=.bl b∧(b=true→∃m',m=m'+1∧W (f loc st1) fun r st2=>match r with| .nx loc'=>I m' loc' st2| .rt d=>Q (.rt d) st2| .ex n l=>Q (.ex n l) st2)∧(b=false→Q (.nx loc) st1)):
  ∀k m loc st,m<k→I m loc st→W (gG c f k loc st) Q
 |0,m,loc,st,h1,h=>by omega
 |k+1,m,loc,st,h1,h=>by
  rw[gG]
  refine aK ((turn m loc st h).mono fun x st1 hp=>?_)
  obtain⟨b,e,q1,q2⟩:=hp
  subst e
  cases b with
  |false=>exact q2 rfl
  |true=>
   obtain⟨m',rfl,q⟩:=q1 rfl
   refine aK (show W ((if true=true then ba (f loc) _ else _) st1) _ from aK (q.mono fun r st2 q=>?_))
   cases r with
   |nx loc'=>exact l5 I turn k m' loc' st2 (by omega) q
   |rt d=>exact q
   |ex n l=>exact q
theorem rC(h:W (execs g ss loc st) Q):W (execs g (.pass::ss) loc st) Q:=bE (by rw[exec];exact h)
theorem cZ{x y:List S}(h:W (run g c loc st) fun z st1=>∃k,z=.bl k∧(k=true→W (execs g x loc st1) (Kn g ss Q))∧(k=false→W (execs g y loc st1) (Kn g ss Q))):W (execs g (.ite c x y::ss) loc st) Q:=
 bE (by
  rw[exec]
  exact aK (h.mono fun _ _ hp=>by
   obtain⟨k,e,q1,q2⟩:=hp
   subst e
   cases k with
   |true=>exact q1 rfl
   |false=>exact q2 rfl))
theorem rH{f:D→Loc→M Fl}{xs:List D}(I:Nat→Loc→aS→Prop)(step:∀i x loc st,xs[i]? =some x→I i loc st→W (f x loc st) fun r st1=>match r with| .nx loc'=>I (i+1) loc' st1| .rt d=>Q (.rt d) st1| .ex n l=>Q (.ex n l) st1)
  (fin:∀loc st,I xs.length loc st→Q (.nx loc) st):∀k i loc st,i≤xs.length→xs.length<k+i→I i loc st→W (fi f (.its xs) k i loc st) Q
 |0,i,acc,st,h1,h2,h=>by omega
 |k+1,i,loc,st,h1,h2,h=>by
  simp only[fi,gR]
  cases e:xs[i]? with
  |none=>
   have:i=xs.length:=by have:=List.getElem?_eq_none_iff.mp e;omega
   subst this
   exact fin loc st h
  |some x=>
   have hi:=(aA e).1
   refine aK ((step i x loc st e h).mono fun r st1 q=>?_)
   cases r with
   |nx loc'=>exact rH I step fin k (i+1) loc' st1 hi (by omega) q
   |rt d=>exact q
   |ex n l=>exact q
noncomputable def Kf(I:Loc→aS→Prop)(Q:Fl→aS→Prop):Fl→aS→Prop:=fun r st=>match r with
 | .nx loc=>I loc st
 | .rt d=>Q (.rt d) st
 | .ex n l=>Q (.ex n l) st
theorem AL{I:Loc→aS→Prop}(h:I loc st):Kf I Q (.nx loc) st:=h
theorem zK{rng:Bool}{body:List S}(I:List D→Nat→Loc→aS→Prop)
  (h:W (run g e loc st) fun d st1=>∃xs,fe rng d=some (.its xs)∧I xs 0 loc st1∧(∀i x loc st,xs[i]? =some x→I xs i loc st→W (execs g body (loc.set n (some x)) st) (Kf (I xs (i+1)) (Kn g ss Q)))∧∀loc st,I xs xs.length loc st→W (execs g ss loc st) Q):
  W (execs g (.for_ n rng e body::ss) loc st) Q:=by
 refine bE ?_
 rw[exec]
 refine aK (h.mono fun d st1 ⟨xs,hs,h0,step,fin⟩=>aK ?_)
 unfold dU
 rw[hs]
 show W (eY _ (.its xs) loc st1) _
 unfold eY
 refine rH (I xs) (fun i x loc st e q=>(step i x loc st e q).mono fun r st1 q=>?_) fin _ 0 loc st1 (by omega) (by show xs.length<xs.length+1+0;omega) h0
 cases r with
 |nx loc'=>exact q
 |rt d=>exact q
 |ex n l=>exact q
end
section
variable{g:c_}{loc:Loc}{st:aS}{Q:Fl→aS→Prop}{ss:List S}{e:Ex}
theorem o8{f:D→Loc→M Fl}{n:Nat}{xs:List D}(I:Nat→Loc→aS→Prop)(keep:∀i loc st,I i loc st→st[n]? =some (.lst xs))(step:∀i x loc st,xs[i]? =some x→I i loc st→W (f x loc st) fun r st1=>match r with| .nx loc'=>I (i+1) loc' st1| .rt d=>Q (.rt d) st1| .ex n l=>Q (.ex n l) st1)
  (fin:∀loc st,I xs.length loc st→Q (.nx loc) st):∀k i loc st,i≤xs.length→xs.length<k+i→I i loc st→W (fi f (.at n) k i loc st) Q
 |0,i,acc,st,h1,h2,h=>by omega
 |k+1,i,loc,st,h1,h2,h=>by
  simp only[fi,gR,keep i loc st h]
  cases e:xs[i]? with
  |none=>
   have:i=xs.length:=by have:=List.getElem?_eq_none_iff.mp e;omega
   subst this
   exact fin loc st h
  |some x=>
   have hi:=(aA e).1
   refine aK ((step i x loc st e h).mono fun r st1 q=>?_)
   cases r with
   |nx loc'=>exact o8 I keep step fin k (i+1) loc' st1 hi (by omega) q
   |rt d=>exact q
   |ex n l=>exact q
theorem kZ{body:List S}(I:Nat→List D→Nat→Loc→aS→Prop)
  (h:W (run g e loc st) fun d st1=>∃n xs,d=.ref n∧st1[n]? =some (.lst xs)∧I n xs 0 loc st1∧(∀i loc st,I n xs i loc st→st[n]? =some (.lst xs))∧(∀i x loc st,xs[i]? =some x→I n xs i loc st→W (execs g body (loc.set m (some x)) st) (Kf (I n xs (i+1)) (Kn g ss Q)))∧∀loc st,I n xs xs.length loc st→W (execs g ss loc st) Q):
  W (execs g (.for_ m false e body::ss) loc st) Q:=by
 refine bE ?_
 rw[exec]
 refine aK (h.mono fun d st1 ⟨n,xs,hd,hn,h0,keep,step,fin⟩=>aK ?_)
 subst hd
 show W (eY _ (.at n) loc st1) _
 have hL:gJ (.at n) st1=xs.length:=by simp only[gJ,hn]
 unfold eY
 rw[hL]
 refine o8 (I n xs) keep (fun i x loc st e q=>(step i x loc st e q).mono fun r st1 q=>?_) fin _ 0 loc st1 (by omega) (by omega) h0
 cases r with
 |nx loc'=>exact q
 |rt d=>exact q
 |ex n l=>exact q
end
theorem xc{g:c_}{loc:Loc}{st:aS}{Q:Fl→aS→Prop}{ss body:List S}{c:Ex}(I:Nat→Loc→aS→Prop)(m:Nat)(hm:m<1000000000)(h0:I m loc st)(turn:∀m loc st,I m loc st→W (run g c loc st) fun x st1=>∃b,x=.bl b∧(b=true→∃m',m=m'+1∧W (execs g body loc st1) (Kf (I m') (Kn g ss Q)))∧(b=false→W (execs g ss loc st1) Q)):
  W (execs g (.whil c body::ss) loc st) Q:=by
 refine bE ?_
 rw[exec]
 refine l5 I (fun m loc st h=>(turn m loc st h).mono fun x st1 ⟨b,e,q1,q2⟩=>⟨b,e,fun hb=>?_,q2⟩) yU m loc st hm h0
 obtain⟨m',e,q⟩:=q1 hb
 refine⟨m',e,q.mono fun r st2 q=>?_⟩
 cases r with
 |nx loc'=>exact q
 |rt d=>exact q
 |ex n l=>exact q
theorem xm{tab:List Fn}{k f:Nat}{fn:Fn}{ds:List D}{st:aS}{Q:D→aS→Prop}(hf:tab[f]? =some fn)(hl:ds.length=fn.ar)(h:W (execs (calls tab k) fn.body (ds.map some++List.replicate (fn.nl - ds.length) none) st) (Kr Q)):Wv (calls tab (k+1) f ds st) Q:=by
 simp only[Wv,calls,hf,nq,if_pos hl]
 refine aK (h.mono fun r st1 q=>?_)
 cases r with
 |nx loc'=>exact q
 |rt d=>exact q
 |ex n l=>exact q.elim
theorem uV{tab:List Fn}{k f:Nat}{fn:Fn}{ds:List D}{st:aS}{Q:Rs→aS→Prop}(hf:tab[f]? =some fn)(hl:ds.length=fn.ar)(h:W (execs (calls tab k) fn.body (ds.map some++List.replicate (fn.nl - ds.length) none) st) (Kx Q)):W (calls tab (k+1) f ds st) Q:=by
 simp only[calls,hf,nq,if_pos hl]
 refine aK (h.mono fun r st1 q=>?_)
 cases r with
 |nx loc'=>exact q
 |rt d=>exact q
 |ex n l=>exact q
section
variable{st:aS}{Q:D→aS→Prop}{i j:Int}
theorem w_add(h:Q (.int (i+j)) st):W (cu .add (.int i) (.int j) st) Q:=h
theorem w_sub(h:Q (.int (i - j)) st):W (cu .sub (.int i) (.int j) st) Q:=h
theorem w_mul(hb:(-18446744073709551616<i∧i<18446744073709551616)∨(-18446744073709551616<j∧j<18446744073709551616))(h:Q (.int (i*j)) st):W (cu .mul (.int i) (.int j) st) Q:=by
 simp only[cu];rw[if_pos (.inl (show(-big<i∧i<big)∨(-big<j∧j<big) from hb))];exact h
theorem w_mod(hb:0<j)(h:Q (.int (i % j)) st):W (cu .mod (.int i) (.int j) st) Q:=by
 simp only[cu];rw[if_pos (by omega),Int.fmod_eq_emod_of_nonneg i (by omega)];exact h
theorem gH(hb:0<j∧j<4611686018427387904)(h:Q (.int (i / j)) st):W (cu .fdiv (.int i) (.int j) st) Q:=by
 simp only[cu]
 rw[if_pos ⟨by omega,am (show j.natAbs<4611686018427387904 by omega) (by decide)⟩,Int.fdiv_eq_ediv_of_nonneg i (by omega)];exact h
theorem w_pow(hb:0≤j∧j≤1000∧i.natAbs<1000)(h:Q (.int (i^j.toNat)) st):W (cu .pow (.int i) (.int j) st) Q:=by
 simp only[cu];rw[if_pos hb];exact h
theorem rK{as bs:List D}(ha:as≠[])(hb:as.length+bs.length≤1000000)(h:Q (.tup (as++bs)) st):W (cu .add (.tup as) (.tup bs) st) Q:=by
 cases as with
 |nil=>exact absurd rfl ha
 |cons a as=>simp only[cu];rw[if_pos hb];exact h
theorem im{as bs:List D}(hm:st[m]? =some (.lst as))(hn:st[n]? =some (.lst bs))(hb:as.length+bs.length≤1000000)(h:Q (.ref st.length) (st++[.lst (as++bs)])):W (cu .add (.ref m) (.ref n) st) Q:=by
 simp only[cu,hm,hn];rw[if_pos hb];exact h
theorem nF{as:List D}(hm:st[m]? =some (.lst as))(hb:0≤j∧j≤1000∧as.length≤1000)(h:Q (.ref st.length) (st++[.lst (List.flatten (List.replicate j.toNat as))])):W (cu .mul (.ref m) (.int j) st) Q:=by
 simp only[cu,hm];rw[if_pos hb];exact h
theorem w_eq{x y:D}{k:Bool}(e:cY 60 st x y=some k)(h:Q (.bl k) st):W (bQ .Eq x y st) Q:=by simp only[bQ,e];exact h
theorem l_{x y:D}{k:Bool}(e:cY 60 st x y=some k)(h:Q (.bl (!k)) st):W (bQ .NotEq x y st) Q:=by simp only[bQ,e];exact h
theorem o_(h:Q (.bl (decide (i=j))) st):W (bQ .Eq (.int i) (.int j) st) Q:=w_eq (k:=decide (i=j)) (by simp[cY,shape,oO];rfl) h
theorem zH(h:Q (.bl (!decide (i=j))) st):W (bQ .NotEq (.int i) (.int j) st) Q:=l_ (k:=decide (i=j)) (by simp[cY,shape,oO];rfl) h
theorem w_lt(h:Q (.bl (decide (i<j))) st):W (bQ .Lt (.int i) (.int j) st) Q:=h
theorem Bv(h:Q (.bl (decide (i≤j))) st):W (bQ .LtE (.int i) (.int j) st) Q:=h
theorem Bw(h:Q (.bl (decide (j<i))) st):W (bQ .Gt (.int i) (.int j) st) Q:=h
theorem w_is{x y:D}{k:Bool}(e:zt x y=some k)(h:Q (.bl k) st):W (bQ .Is x y st) Q:=by simp only[bQ,e];exact h
theorem uQ{x y:D}{k:Bool}(e:zt x y=some k)(h:Q (.bl (!k)) st):W (bQ .IsNot x y st) Q:=by simp only[bQ,e];exact h
theorem fB{xs:List D}{d:D}(e:rf xs i=some d)(h:Q d st):W (index (.tup xs) (.int i) st) Q:=by simp only[index,cr,e];exact h
theorem zJ{xs:List D}{d:D}(e:rf xs i=some d)(h:Q d st):W (index (.fl xs) (.int i) st) Q:=by simp only[index,cr,e];exact h
theorem kf{xs:List D}{d:D}(hn:st[n]? =some (.lst xs))(e:rf xs i=some d)(h:Q d st):W (index (.ref n) (.int i) st) Q:=by simp only[index,cr,hn,e];exact h
theorem wQ{kvs:List (Key×D)}{k:Str}{d:D}(hn:st[n]? =some (.dct kvs))(e:io kvs (.inr k)=some d)(h:Q d st):W (index (.ref n) (.str k) st) Q:=by simp only[index,zv,hn,e];exact h
theorem xi{kvs:List (Key×D)}{d:D}(hn:st[n]? =some (.dct kvs))(e:io kvs (.inl i)=some d)(h:Q d st):W (index (.ref n) (.int i) st) Q:=by simp only[index,cr,zv,hn,e];exact h
theorem i5{kvs:List (Key×D)}(hn:st[n]? =some (.dct kvs))(h:Q (.ref st.length) (st++[.dct kvs])):W (fO .dict [.ref n] st) Q:=by simp only[fO,hn];exact h
theorem nE{kvs:List (Key×D)}{x v:D}{k:Key}{Q:Unit→aS→Prop}(hn:st[n]? =some (.dct kvs))(hk:yK x=some k)(hl:kvs.length<1000000)(h:Q () (st.set n (.dct (jx kvs k v)))):W (gU (.ref n) x v st) Q:=by simp only[gU,hn,hk];rw[if_pos hl];exact h
theorem kW{c:Str}{fs:List (Str×D)}{ics:List Str}{v:D}{Q:Unit→aS→Prop}(hn:st[n]? =some (.ins c fs))(hl:fs.length<900∧c∈ics)(h:Q () (st.set n (.ins c (putD f v fs)))):W (fS cs ics (.ref n) f v st) Q:=by simp only[fS,hn];rw[if_pos hl];exact h
theorem iI{xs:List α}(h0:0≤i)(h1:i<xs.length):∃d,rf xs i=some d∧xs[i.toNat]? =some d:=by
 have hi:i.toNat<xs.length:=by omega
 refine⟨xs[i.toNat],?_,by simp[hi]⟩
 unfold rf zq
 rw[if_pos h0,if_pos h1]
 show xs[i.toNat]? =_
 simp[hi]
theorem db{xs:List D}(hn:st[n]? =some (.lst xs))(h0:0≤i)(h1:i<xs.length)(h:∀d,d∈xs→xs[i.toNat]? =some d→Q d st):W (index (.ref n) (.int i) st) Q:=by
 obtain⟨d,e,e2⟩:=iI h0 h1
 exact kf hn e (h d (al e2) e2)
theorem jk{xs:List D}(h:Q (.int xs.length) st):W (fO .len [.tup xs] st) Q:=h
theorem xh{xs:List D}(h:Q (.int xs.length) st):W (fO .len [.fl xs] st) Q:=h
theorem eI{xs:List D}(hn:st[n]? =some (.lst xs))(h:Q (.int xs.length) st):W (fO .len [.ref n] st) Q:=by simp only[fO,cr,hn];exact h
theorem o6{xs:List D}(h:Q (.ref st.length) (st++[.lst xs])):W (fO .list [.tup xs] st) Q:=h
theorem iY{xs:List D}(hn:st[n]? =some (.lst xs))(h:Q (.ref st.length) (st++[.lst xs])):W (fO .list [.ref n] st) Q:=by simp only[fO,cr,hn];exact h
theorem bW{xs:List D}(hn:st[n]? =some (.lst xs))(h:Q (.tup xs) st):W (fO .tuple [.ref n] st) Q:=by simp only[fO,cr,hn];exact h
theorem rF{b:Bool}(h:Q (.int (if b then 1 else 0)) st):W (fO .int [.bl b] st) Q:=h
theorem w_allL{xs:List D}{k:Bool}(hn:st[n]? =some (.lst xs))(e:allB xs=some k)(h:Q (.bl k) st):W (fO .all [.ref n] st) Q:=by simp only[fO,hn,e];exact h
theorem rA{xs:List D}(hn:¬(HT.cF xs.length 0 lo=0∧HT.cF xs.length xs.length hi=xs.length))(h:Q (.tup (cutD xs lo hi)) st):W (slice (.tup xs) lo hi st) Q:=by simp only[slice];rw[if_neg hn];exact h
theorem l8{xs:List D}(hn:st[n]? =some (.lst xs))(h:Q (.ref st.length) (st++[.lst (cutD xs lo hi)])):W (slice (.ref n) lo hi st) Q:=by simp only[slice,cr,hn];exact h
theorem gf{xs:List D}{Q:Unit→aS→Prop}(hn:st[n]? =some (.lst xs))(h:Q () st):W (mI (.ref n) st) Q:=by simp only[mI,hn];exact h
theorem eR{xs:List D}{v:D}{Q:Unit→aS→Prop}(hn:st[n]? =some (.lst xs))(hl:xs.length<1000000)(h:Q () (st.set n (.lst (xs++[v])))):W (append (.ref n) v st) Q:=by simp only[append,hn];rw[if_pos hl];exact h
end
noncomputable def Gr(st st':aS):Prop:=∃t,st'=st++t
theorem Gr.refl(st:aS):Gr st st:=⟨[],by simp⟩
theorem Gr.trans{a b c:aS}(h:Gr a b)(k:Gr b c):Gr a c:=by
 obtain⟨t,rfl⟩:=h
 obtain⟨u,rfl⟩:=k
 exact⟨t++u,by simp⟩
theorem Gr.one(st:aS)(o:O):Gr st (st++[o]):=⟨[o],rfl⟩
theorem Gr.more{a b:aS}(h:Gr a b)(o:O):Gr a (b++[o]):=h.trans (.one b o)
theorem Gr.le{a b:aS}(h:Gr a b):a.length≤b.length:=by obtain⟨t,rfl⟩:=h;simp
theorem Gr.at{a b:aS}(h:Gr a b){o:O}(e:a[i]? =some o):b[i]? =some o:=by
 obtain⟨t,rfl⟩:=h
 have:=(aA e).1
 rw[aN this];exact e
theorem aE{st:aS}{o:O}:(st++[o])[st.length]? =some o:=by simp
theorem aI{st:aS}{o:O}{t:aS}(e:st[i]? =some o):(st++t)[i]? =some o:=by
 have:=(aA e).1
 rw[aN this];exact e
theorem jr{j:Int}(h: -1000000≤j∧j≤1000000):fe true (.int j)=some (.its (bp j.toNat)):=by simp only[fe];rw[if_pos h]
theorem dS(n:Nat):(bp n).length=n:=by simp[bp]
theorem bo{st:aS}{o:O}(h:n<st.length):(st.set n o)[n]? =some o:=by rw[aV h]
noncomputable def fT:D→Bool
 | .int _=>true
 | .bl _=>true
 | .str _=>true
 | .non=>true
 |_=>false
theorem kB{st:aS}{d:D}(h:fT d=true):cY (n+1) st d d=some true:=by
 cases d<;>simp[fT] at h<;>simp[cY,shape,oO]
theorem gP{f:D→D→Option Bool}:∀{xs:List D},(∀x∈xs,f x x=some true)→cW f xs xs=some true
 |[],_=>rfl
 |x::xs,h=>by
  unfold cW
  rw[h x (by simp),gP fun y hy=>h y (by simp[hy])]
  rfl
theorem j4{st:aS}{a b:O}:(st++[a,b])[st.length]? =some a:=by simp
theorem xp{st:aS}{a b:O}:(st++[a,b])[st.length+1]? =some b:=by simp
theorem d7{st:aS}{a b:O}:(st++[a]).set st.length b=st++[b]:=by simp
theorem cH{st:aS}{a b c:O}:(st++[a,b]).set st.length c=st++[c,b]:=by simp
theorem rY{st:aS}{a b c:O}:(st++[a,b]).set (st.length+1) c=st++[a,c]:=by simp
section
variable{Q:Nat→aS→Prop}{g:c_}{st:aS}{x:Str}{j:Nat}{ds:List D}
theorem o0(h:Wv (g j (.ref st.length::ds) (st++[.err x none false])) fun d st1=>d=.non∧∃m,st1[st.length]? =some (.err x m false)∧Q st.length (st1.set st.length (.err x m true))):W (jB g x j ds st) Q:=by
 unfold jB
 refine aK (W.mono h fun r st1 q=>?_)
 cases r with
 |v d=>
  obtain⟨rfl,m,e,q⟩:=q
  simp only[e]
  rw[if_pos trivial]
  exact q
 |x n=>exact q.elim
end
section
variable{Q:Unit→aS→Prop}{st:aS}{cs ics:List Str}{f x:Str}{v:D}
theorem uP{t:Bool}(hx:x∈cs)(h:Q () (st++[.err x (some (st.length+1)) t,.edc [(f,v)]])):W (fS cs ics (.ref st.length) f v (st++[.err x none t])) Q:=by
 have e:(st++[O.err x none t])[st.length]? =some (.err x none t):=aE
 simp only[fS,e]
 rw[if_pos hx,d7]
 show Q () _
 simpa using h
end
local macro_rules| `(tactic|walk_at "ev1")=> `(tactic|with_reducible first
 |refine bz ?_|(refine aZ (by with_unfolding_all rfl) ?_)|refine fQ ?_|refine bX ?_|refine pc ?_|refine bv ?_|refine oZ ?_|refine w_not ?_|refine w_and ?_|refine w_or ?_|refine bZ ?_|refine uU ?_|refine dq ?_|refine ik ?_|refine jj ?_
 |refine xg ?_|refine zL ?_|refine l9 ?_|refine dv ?_|refine cG ?_|refine o7 ?_|refine rG ?_|refine jo ?_|refine w_compIf ?_|refine au ?_|refine ag ?_|refine pf ?_|refine w_eltIf ?_
 |refine aT ?_|refine bu ?_|refine oY ?_|refine dn ?_|refine w_ret0 ?_|refine il ?_|refine me ?_|refine rC ?_|refine cZ ?_|refine bq ?_|refine AK ?_|refine ck ?_|refine kr ?_|refine AL ?_|refine kf_rt ?_
 |refine w_add ?_|refine w_sub ?_|refine o_ ?_|refine zH ?_|refine w_lt ?_|refine Bv ?_|refine Bw ?_|refine w_ge ?_|refine jk ?_|refine xh ?_|refine o6 ?_|refine w_tupleT ?_|refine rF ?_|refine w_max ?_|refine w_min ?_|refine w_abs ?_
 |(refine w_mul (by omega) ?_)|(refine w_mod (by omega) ?_)|(refine gH (by omega) ?_)|(refine w_pow (by decide) ?_)|(refine fB (by with_unfolding_all rfl) ?_))
local macro_rules| `(tactic|walk_at "ev")=> `(tactic|repeat (walk_at "ev1"))
namespace K27
variable{c i m s steps:Int}{a bl cp f1 f2 fn j l n p sp u v:Nat}{b r:Bool}{st st' st1:aS}{Q:D→aS→Prop}{loc:Loc}{g:c_}{logs xs ys:List D}{ss:List S}{bud e ending gv last thing x:D}{rs:List (Nat×Nat)}{sb:D×Nat}
noncomputable abbrev oA:Nat:=0
noncomputable def fk:Fn:=⟨1,1,[.ret (.and (.isi (.v 0) .int) (.not (.isi (.v 0) .bool)))]⟩
noncomputable abbrev oB:Nat:=1
noncomputable def fm:Fn:=⟨1,1,[.ret (.isi (.v 0) .bool)]⟩
noncomputable abbrev gK:Nat:=2
noncomputable def fj:Fn:=⟨1,1,[.ite (.cmp .Eq (.ix (.v 0) (.c (.int (0)))) (.c (.str "row"))) [.ret (.comp true (.ix (.v 0) (.c (.int (1)))) (.c (.tup [.str "num"])))] [],.ite (.cmp .Eq (.ix (.v 0) (.c (.int (0)))) (.c (.str "record"))) [.ret (.bt .list [(.ix (.v 0) (.c (.int (1))))])] [],.ret (.lst [])]⟩
noncomputable abbrev ce:Nat:=3
noncomputable def cB:Fn:=⟨2,3,[.ite (.cmp .Eq (.v 1) (.c (.tup [.str "num"]))) [.ret (.fn 0 [(.v 0)])] [],.ite (.cmp .Eq (.v 1) (.c (.tup [.str "truth"]))) [.ret (.fn 1 [(.v 0)])] [],.set 2 (.fn 2 [(.v 1)]),.ite (.or (.not (.isi (.v 0) .tuple)) (.cmp .NotEq (.bt .len [(.v 0)]) (.bt .len [(.v 2)]))) [.ret (.c (.bl false))] [],.ret (.bt .all [(.compE (.v 2) (.fn 3 [(.ix (.v 2) (.v 0)),(.v 1)]))])]⟩
noncomputable abbrev jE:Nat:=4
noncomputable def hV:Fn:=⟨1,1,[.ite (.isi (.v 0) .bool) [.ret (.tup [(.c (.str "truth")),(.v 0)])] [],.ite (.isi (.v 0) .int) [.ret (.tup [(.c (.str "num")),(.v 0)])] [],.ret (.bt .tuple [(.comp false (.v 0) (.fn 4 [(.v 0)]))])]⟩
noncomputable abbrev cL:Nat:=5
noncomputable def bU:Fn:=⟨3,5,[.callx .no 6 [(.bt .len [(.v 0)]),(.v 1)],.forE [3,4] (.v 0) [.ite (.not (.fn 3 [(.ix (.v 1) (.v 3)),(.v 4)])) [.rais "NoInput" 21 [(.v 3)]] []],.callx .no 7 [(.v 2)]]⟩
noncomputable abbrev fZ:Nat:=6
noncomputable def cN:Fn:=⟨2,2,[.ite (.or (.not (.isi (.v 1) .list)) (.cmp .NotEq (.bt .len [(.v 1)]) (.v 0))) [.rais "NoInput" 21 [(.c (.non))]] []]⟩
noncomputable abbrev gC:Nat:=7
noncomputable def dg:Fn:=⟨1,1,[.ite (.or (.not (.fn 0 [(.v 0)])) (.not (.chain .LtE .LtE (.c (.int (0))) (.v 0) (.c (.int (10000)))))) [.rais "NoBudget" 22 []] []]⟩
noncomputable abbrev bT:Nat:=8
noncomputable def ci:Fn:=⟨3,3,[.callx .no 5 [(.fld (.meth (.v 0) "function_named" [("Code",28)] [(.c (.str "main"))]) "takes" [] ["Function"]),(.v 1),(.v 2)],.ret (.meth (.new "BlockRunner" 43 [(.v 0),(.v 2)]) "run_from_main" [("BlockRunner",36)] [(.v 1)])]⟩
noncomputable abbrev jG:Nat:=9
noncomputable def cQ:Fn:=⟨2,2,[.ite (.cmp .Lt (.v 1) (.bt .len [(.v 0)])) [.ret (.ix (.v 0) (.v 1))] [],.ret (.c (.int (0)))]⟩
noncomputable abbrev lH:Nat:=10
noncomputable def dH:Fn:=⟨2,3,[.set 2 (.bin .mod (.bin .add (.bin .add (.bin .mul (.bin .mod (.v 0) (.c (.int (2147483629)))) (.c (.int (48271)))) (.bin .mul (.v 1) (.c (.int (7919))))) (.c (.int (104729)))) (.c (.int (2147483629)))),.set 2 (.bin .mod (.bin .add (.bin .add (.bin .mul (.bin .mod (.bin .mul (.v 2) (.v 2)) (.c (.int (2147483629)))) (.c (.int (16807)))) (.bin .mul (.v 1) (.c (.int (104729))))) (.c (.int (11)))) (.c (.int (2147483587)))),.ret (.bin .mod (.bin .mul (.v 2) (.v 2)) (.c (.int (2147483587))))]⟩
noncomputable abbrev jF:Nat:=11
noncomputable def cO:Fn:=⟨2,5,[.set 2 (.fn 10 [(.v 0),(.bin .add (.c (.int (10))) (.v 1))]),.ite (.cmp .Eq (.bin .mod (.v 2) (.c (.int (4)))) (.c (.int (0)))) [.ret (.tup [(.c (.str "num"))])] [],.ite (.cmp .Eq (.bin .mod (.v 2) (.c (.int (4)))) (.c (.int (1)))) [.ret (.tup [(.c (.str "truth"))])] [],.ite (.cmp .Eq (.bin .mod (.v 2) (.c (.int (4)))) (.c (.int (2)))) [.ret (.tup [(.c (.str "row")),(.bin .add (.c (.int (1))) (.bin .mod (.bin .fdiv (.v 2) (.c (.int (4)))) (.c (.int (6)))))])] [],.set 3 (.lst []),.for_ 4 false (.sl (.lst [(.c (.int (16))),(.c (.int (32))),(.c (.int (64))),(.c (.int (128)))]) (.bin .add (.c (.int (1))) (.bin .mod (.bin .fdiv (.v 2) (.c (.int (4)))) (.c (.int (4))))) (.bin .add (.c (.int (1))) (.bin .mod (.bin .fdiv (.v 2) (.c (.int (4)))) (.c (.int (4))))) false true) [.app (.v 3) (.ix (.lst [(.tup [(.c (.str "num"))]),(.tup [(.c (.str "truth"))])]) (.bin .mod (.bin .fdiv (.v 2) (.v 4)) (.c (.int (2)))))],.ret (.tup [(.c (.str "record")),(.bt .tuple [(.v 3)])])]⟩
noncomputable abbrev eM:Nat:=12
noncomputable def di:Fn:=⟨1,1,[.ite (.cmp .Eq (.ix (.v 0) (.c (.int (0)))) (.c (.str "row"))) [.ret (.bin .mul (.lst [(.tup [(.c (.str "num"))])]) (.ix (.v 0) (.c (.int (1)))))] [],.ite (.cmp .Eq (.ix (.v 0) (.c (.int (0)))) (.c (.str "record"))) [.ret (.bt .list [(.ix (.v 0) (.c (.int (1))))])] [],.ret (.lst [])]⟩
noncomputable abbrev f6:Nat:=13
noncomputable def cP:Fn:=⟨3,7,[.set 3 (.fn 10 [(.v 1),(.bin .add (.c (.int (20))) (.v 2))]),.ite (.cmp .Eq (.v 0) (.tup [(.c (.str "num"))])) [.ret (.ix (.lst [(.bin .sub (.bin .mod (.v 3) (.c (.int (9)))) (.c (.int (4)))),(.bin .mul (.v 3) (.bin .pow (.c (.int (10))) (.c (.int (30))))),(.bin .sub (.c (.int (0))) (.bin .mul (.v 3) (.v 3)))]) (.bin .mod (.bin .fdiv (.v 3) (.c (.int (9)))) (.c (.int (3)))))] [],.ite (.cmp .Eq (.v 0) (.tup [(.c (.str "truth"))])) [.ret (.cmp .Eq (.bin .mod (.v 3) (.c (.int (2)))) (.c (.int (0))))] [],.set 4 (.lst []),.forE [5,6] (.fn 12 [(.v 0)]) [.app (.v 4) (.fn 13 [(.v 6),(.v 1),(.bin .add (.bin .add (.bin .mul (.c (.int (7))) (.v 2)) (.c (.int (31)))) (.v 5))])],.ret (.bt .tuple [(.v 4)])]⟩
noncomputable abbrev dB:Nat:=14
noncomputable def bD:Fn:=⟨3,7,[.ite (.cmp .Eq (.v 0) (.tup [(.c (.str "num"))])) [.ret (.ix (.lst [(.c (.bl true)),(.c (.bl false)),(.c (.non)),(.c (.str "1")),(.tup [(.c (.int (1)))]),(.lst [(.c (.int (1)))]),.emp,(.tup [(.c (.str "num")),(.c (.int (1)))])]) (.bin .mod (.v 2) (.c (.int (8)))))] [],.ite (.cmp .Eq (.v 0) (.tup [(.c (.str "truth"))])) [.ret (.ix (.lst [(.c (.int (0))),(.c (.int (1))),(.c (.non)),(.c (.str "yes")),(.tup [(.c (.bl true))]),(.lst []),.emp,(.tup [(.c (.str "truth")),(.c (.bl true))])]) (.bin .mod (.v 2) (.c (.int (8)))))] [],.set 3 (.bin .mod (.bin .fdiv (.v 2) (.c (.int (9)))) (.bt .len [(.v 1)])),.set 4 (.c (.non)),.ite (.isi (.ix (.v 1) (.v 3)) .bool) [.set 4 (.bt .int [(.ix (.v 1) (.v 3))])] [.ite (.cmp .In (.ix (.v 1) (.v 3)) (.tup [(.c (.int (0))),(.c (.int (1)))])) [.set 4 (.cmp .Eq (.ix (.v 1) (.v 3)) (.c (.int (1))))] []],.set 5 (.lst [(.bin .add (.v 1) (.tup [(.c (.int (0)))])),(.sl (.v 1) (.neg (.c (.int (1)))) (.neg (.c (.int (1)))) false true),(.bt .list [(.v 1)]),(.c (.non)),(.ix (.v 1) (.v 3)),(.tup []),.emp]),.for_ 6 false (.lst [(.v 4),(.tup [(.c (.int (1)))])]) [.app (.v 5) (.bin .add (.bin .add (.sl (.v 1) (.v 3) (.v 3) false true) (.tup [(.v 6)])) (.sl (.v 1) (.bin .add (.v 3) (.c (.int (1)))) (.bin .add (.v 3) (.c (.int (1)))) true false))],.ret (.ix (.v 5) (.bin .mod (.v 2) (.c (.int (9)))))]⟩
noncomputable abbrev mP:Nat:=15
noncomputable def eh:Fn:=⟨2,7,[.set 2 (.compEIf (.v 0) (.cmp .In (.ix (.v 1) (.c (.int (0)))) (.tup [(.c (.str "num")),(.c (.str "truth"))])) (.v 0)),.set 3 (.comp false (.v 2) (.new "Row" 23 [(.c (.non)),(.c (.str "log")),(.c (.non)),(.lst [(.tup [(.c (.str "name")),(.v 0)])])])),.set 4 (.tup [(.c (.str "num"))]),.set 5 (.tup [(.c (.str "num")),(.bin .mod (.v 1) (.c (.int (100))))]),.ite (.and (.cmp .NotEq (.v 0) (.lst [])) (.cmp .Gt (.bin .mod (.bin .fdiv (.v 1) (.c (.int (100)))) (.c (.int (3)))) (.c (.int (0))))) [.set 5 (.tup [(.c (.str "name")),(.bin .mod (.bin .fdiv (.v 1) (.c (.int (300)))) (.bt .len [(.v 0)]))]),.set 4 (.ix (.v 0) (.ix (.v 5) (.c (.int (1)))))] [],.set 6 (.lst [(.new "Block" 25 [(.lrng (.bt .len [(.v 0)])),(.v 3),(.new "Back" 24 [(.v 5)])])]),.ret (.new "Code" 27 [(.dict ["main"] [(.new "Function" 26 [(.v 0),(.v 4),(.den (.v 0)),(.v 6)])])])]⟩
noncomputable abbrev eL:Nat:=16
noncomputable def dh:Fn:=⟨1,1,[.ite (.isi (.v 0) .tuple) [.ret (.bt .tuple [(.comp false (.v 0) (.fn 16 [(.v 0)]))])] [],.ret (.ix (.lst [(.tup [(.c (.str "num")),(.v 0)]),(.tup [(.c (.str "truth")),(.v 0)])]) (.bt .int [(.isi (.v 0) .bool)]))]⟩
noncomputable abbrev gL:Nat:=17
noncomputable def fo:Fn:=⟨3,6,[.set 3 (.c (.non)),.try2 [.callx (.set 4) 8 [(.v 0),(.v 1),(.v 2)],.set 3 (.bin .add (.meth (.v 4) "seen" [("Run",30)] []) (.tup [(.fld (.v 4) "steps" [] ["Run","BlockRunner"])]))] ["NoInput"] ["NoBudget"] 5 [.set 3 (.lst [(.c (.str "input")),(.fld (.v 5) "place" ["NoInput","NoBudget"] []),(.isc (.v 5) ["NoInput","NoBudget"] []),(.isc (.v 5) ["NoInput","NoBudget"] []),(.isc (.v 5) ["NoBudget"] ["NoInput"])])] ["NoBudget"] 5 [.set 3 (.lst [(.c (.str "budget")),(.isc (.v 5) ["NoInput","NoBudget"] []),(.isc (.v 5) ["NoInput","NoBudget"] []),(.isc (.v 5) ["NoInput"] ["NoBudget"])])],.ret (.v 3)]⟩
noncomputable abbrev mQ:Nat:=18
noncomputable def ei:Fn:=⟨2,6,[.set 2 (.ix (.fld (.ix (.fld (.v 0) "functions" [] ["Code"]) (.c (.str "main"))) "blocks" [] ["Function"]) (.c (.int (0)))),.set 3 (.bt .tuple [(.comp false (.fld (.v 2) "rows" [] ["Block","Stay"]) (.fn 16 [(.ix (.v 2) (.ix (.ix (.fld (.v 0) "operands" [] ["Row"]) (.c (.int (0)))) (.c (.int (1)))))]))]),.set 4 (.fld (.fld (.v 2) "end" [] ["Block","Stay"]) "operand" [] ["Back"]),.set 5 (.v 4),.ite (.cmp .Eq (.ix (.v 4) (.c (.int (0)))) (.c (.str "name"))) [.set 5 (.fn 16 [(.ix (.v 1) (.ix (.v 4) (.c (.int (1)))))])] [],.ret (.tup [(.c (.str "answer")),(.v 5),(.v 3),(.c (.int (0))),(.bin .add (.bt .len [(.fld (.v 2) "rows" [] ["Block","Stay"])]) (.c (.int (1))))])]⟩
noncomputable abbrev hJ:Nat:=19
noncomputable def bY:Fn:=⟨1,1,[.ret (.ix (.lst [(.neg (.c (.int (1)))),(.c (.int (10001))),(.c (.bl true)),(.c (.non)),(.c (.str "5")),(.lst [(.c (.int (5)))]),(.tup []),(.bin .pow (.c (.int (10))) (.c (.int (40)))),(.neg (.bin .pow (.c (.int (10))) (.c (.int (20))))),.emp,(.c (.bl false)),(.c (.str ""))]) (.bin .mod (.v 0) (.c (.int (12)))))]⟩
noncomputable abbrev AN:Nat:=20
noncomputable def kz:Fn:=⟨1,16,[.set 1 (.fn 9 [(.v 0),(.c (.int (0)))]),.set 2 (.comp true (.bin .mod (.fn 10 [(.v 1),(.c (.int (1)))]) (.c (.int (5)))) (.fn 11 [(.v 2),(.v 0)])),.set 3 (.fn 9 [(.v 0),(.c (.int (1)))]),.set 4 (.compE (.v 2) (.fn 13 [(.v 1),(.v 5),(.v 0)])),.set 5 (.fn 15 [(.v 2),(.fn 10 [(.v 1),(.c (.int (2)))])]),.set 6 (.fn 18 [(.v 5),(.v 4)]),.for_ 7 false (.lst [(.c (.int (0))),(.c (.int (1))),(.c (.int (10000))),(.bin .mod (.fn 10 [(.v 1),(.c (.int (3)))]) (.c (.int (10001))))]) [.ite (.cmp .NotEq (.fn 17 [(.v 5),(.v 4),(.v 7)]) (.v 6)) [.ret (.c (.bl false))] []],.for_ 8 false (.bin .add (.sl (.v 0) (.c (.int (2))) (.c (.int (30))) true true) (.lst [(.fn 10 [(.v 1),(.c (.int (4)))])])) [.set 9 (.fn 19 [(.bin .fdiv (.v 8) (.c (.int (7))))]),.ite (.cmp .NotEq (.fn 17 [(.v 5),(.bt .list [(.v 4)]),(.v 9)]) (.lst [(.c (.str "budget")),(.c (.bl true)),(.c (.bl true)),(.c (.bl false))])) [.ret (.c (.bl false))] [],.set 10 (.lst [(.bin .add (.v 4) (.lst [(.c (.int (0)))])),(.bt .tuple [(.v 4)]),(.c (.non)),.emp,(.c (.str "ab")),(.bin .add (.v 4) (.lst [(.c (.non)),(.c (.int (1)))])),(.c (.int (5))),(.sl (.v 4) (.neg (.c (.int (1)))) (.neg (.c (.int (1)))) false true)]),.app (.v 10) (.bin .mul (.lst [(.lst [])]) (.bin .add (.bt .len [(.v 4)]) (.c (.int (1))))),.set 11 (.ix (.v 10) (.bin .mod (.v 8) (.c (.int (9))))),.ite (.and (.cmp .Eq (.v 4) (.lst [])) (.cmp .Eq (.v 11) (.lst []))) [.set 11 (.c (.non))] [],.ite (.cmp .NotEq (.fn 17 [(.v 5),(.v 11),(.ix (.lst [(.v 9),(.c (.int (7)))]) (.bin .mod (.bin .fdiv (.v 8) (.c (.int (5)))) (.c (.int (2)))))]) (.lst [(.c (.str "input")),(.c (.non)),(.c (.bl true)),(.c (.bl true)),(.c (.bl false))])) [.ret (.c (.bl false))] [],.ite (.cmp .NotEq (.v 4) (.lst [])) [.set 12 (.bin .mod (.bin .fdiv (.v 8) (.c (.int (3)))) (.bt .len [(.v 4)])),.set 13 (.lst [(.fn 14 [(.ix (.v 2) (.v 12)),(.ix (.v 4) (.v 12)),(.bin .fdiv (.v 8) (.c (.int (11))))])]),.set 14 (.bin .add (.bin .add (.sl (.v 4) (.v 12) (.v 12) false true) (.v 13)) (.bin .mul (.lst [(.c (.non))]) (.bin .sub (.bin .sub (.bt .len [(.v 4)]) (.v 12)) (.c (.int (1)))))),.ite (.cmp .Eq (.bin .mod (.bin .fdiv (.v 8) (.c (.int (2)))) (.c (.int (2)))) (.c (.int (0)))) [.set 14 (.bin .add (.sl (.v 14) (.bin .add (.v 12) (.c (.int (1)))) (.bin .add (.v 12) (.c (.int (1)))) false true) (.sl (.v 4) (.bin .add (.v 12) (.c (.int (1)))) (.bin .add (.v 12) (.c (.int (1)))) true false))] [],.set 15 (.bt .list [(.v 14)]),.ite (.cmp .NotEq (.fn 17 [(.v 5),(.v 14),(.ix (.lst [(.v 9),(.c (.int (7)))]) (.bin .mod (.v 8) (.c (.int (2)))))]) (.lst [(.c (.str "input")),(.v 12),(.c (.bl true)),(.c (.bl true)),(.c (.bl false))])) [.ret (.c (.bl false))] [],.ite (.cmp .NotEq (.v 14) (.v 15)) [.ret (.c (.bl false))] []] []],.ret (.cmp .Eq (.fn 17 [(.v 5),(.bt .list [(.v 4)]),(.c (.int (3)))]) (.v 6))]⟩
noncomputable abbrev jI:Nat:=21
noncomputable def cT:Fn:=⟨2,2,[.setf (.v 0) "place" (.v 1) ["NoInput","NoBudget"] []]⟩
noncomputable abbrev iW:Nat:=22
noncomputable def cy:Fn:=⟨1,1,[.pass]⟩
noncomputable abbrev oF:Nat:=23
noncomputable def fu:Fn:=⟨5,5,[.setf (.v 0) "name" (.v 1) [] ["Row"],.setf (.v 0) "op" (.v 2) [] ["Row"],.setf (.v 0) "extra" (.v 3) [] ["Row"],.setf (.v 0) "operands" (.bt .tuple [(.v 4)]) [] ["Row"]]⟩
noncomputable abbrev mW:Nat:=24
noncomputable def ez:Fn:=⟨2,2,[.setf (.v 0) "operand" (.v 1) [] ["Back"]]⟩
noncomputable abbrev lL:Nat:=25
noncomputable def dM:Fn:=⟨4,4,[.setf (.v 0) "params" (.bt .tuple [(.v 1)]) [] ["Block"],.setf (.v 0) "rows" (.bt .tuple [(.v 2)]) [] ["Block","Stay"],.setf (.v 0) "end" (.v 3) [] ["Block","Stay"]]⟩
noncomputable abbrev iX:Nat:=26
noncomputable def cz:Fn:=⟨5,5,[.setf (.v 0) "takes" (.bt .tuple [(.v 1)]) [] ["Function"],.setf (.v 0) "gives" (.v 2) [] ["Function"],.setf (.v 0) "kinds" (.bt .dict [(.v 3)]) [] ["Function"],.setf (.v 0) "kept_kinds" (.bt .dict [(.v 3)]) [] ["Function"],.setf (.v 0) "blocks" (.bt .tuple [(.v 4)]) [] ["Function"]]⟩
noncomputable abbrev mV:Nat:=27
noncomputable def em:Fn:=⟨2,2,[.setf (.v 0) "functions" (.bt .dict [(.v 1)]) [] ["Code"],.setf (.v 0) "kept_functions" (.bt .dict [(.v 1)]) [] ["Code"]]⟩
noncomputable abbrev fL:Nat:=28
noncomputable def bB:Fn:=⟨2,2,[.ret (.ix (.fld (.v 0) "kept_functions" [] ["Code"]) (.v 1))]⟩
noncomputable abbrev oE:Nat:=29
noncomputable def ft:Fn:=⟨6,6,[.setf (.v 0) "ending" (.v 1) [] ["Run","BlockRunner"],.setf (.v 0) "thing" (.v 2) [] ["Run","BlockRunner"],.setf (.v 0) "log" (.bt .list [(.v 3)]) [] ["Run","BlockRunner"],.setf (.v 0) "kept_log" (.bt .tuple [(.v 3)]) [] ["Run"],.setf (.v 0) "took" (.v 4) [] ["Run","BlockRunner"],.setf (.v 0) "steps" (.v 5) [] ["Run","BlockRunner"]]⟩
noncomputable abbrev oC:Nat:=30
noncomputable def fq:Fn:=⟨1,1,[.ret (.tup [(.fld (.v 0) "ending" [] ["Run","BlockRunner"]),(.fld (.v 0) "thing" [] ["Run","BlockRunner"]),(.fld (.v 0) "kept_log" [] ["Run"]),(.fld (.v 0) "took" [] ["Run","BlockRunner"])])]⟩
noncomputable abbrev lK:Nat:=31
noncomputable def dL:Fn:=⟨2,2,[.setf (.v 0) "budget" (.v 1) [] ["BlockRunner"],.setf (.v 0) "log" (.lst []) [] ["Run","BlockRunner"],.setf (.v 0) "took" (.c (.int (0))) [] ["Run","BlockRunner"],.setf (.v 0) "steps" (.c (.int (0))) [] ["Run","BlockRunner"],.setf (.v 0) "ending" (.c (.non)) [] ["Run","BlockRunner"],.setf (.v 0) "thing" (.c (.non)) [] ["Run","BlockRunner"]]⟩
noncomputable abbrev j8:Nat:=32
noncomputable def dj:Fn:=⟨2,2,[.app (.fld (.v 0) "log" [] ["Run","BlockRunner"]) (.fn 4 [(.v 1)])]⟩
noncomputable abbrev jJ:Nat:=33
noncomputable def cU:Fn:=⟨2,2,[.setf (.v 0) "ending" (.c (.str "answer")) [] ["Run","BlockRunner"],.setf (.v 0) "thing" (.fn 4 [(.v 1)]) [] ["Run","BlockRunner"]]⟩
noncomputable abbrev j9:Nat:=34
noncomputable def dl:Fn:=⟨1,1,[.ret (.new "Run" 29 [(.fld (.v 0) "ending" [] ["Run","BlockRunner"]),(.fld (.v 0) "thing" [] ["Run","BlockRunner"]),(.fld (.v 0) "log" [] ["Run","BlockRunner"]),(.fld (.v 0) "took" [] ["Run","BlockRunner"]),(.fld (.v 0) "steps" [] ["Run","BlockRunner"])])]⟩
noncomputable abbrev mU:Nat:=35
noncomputable def el:Fn:=⟨2,2,[.ex (.fn 31 [(.v 0),(.v 1)]),.setf (.v 0) "frames" (.lst []) [] ["BlockRunner"]]⟩
noncomputable abbrev f7:Nat:=36
noncomputable def bJ:Fn:=⟨2,2,[.ex (.meth (.v 0) "begin" [("BlockRunner",44)] [(.c (.str "main")),(.v 1)]),.whil (.cmp .Is (.fld (.v 0) "ending" [] ["Run","BlockRunner"]) (.c (.non))) [.ex (.meth (.v 0) "go_on" [("BlockRunner",37)] [])],.ret (.meth (.v 0) "ended" [("BlockRunner",34)] [])]⟩
noncomputable abbrev lJ:Nat:=37
noncomputable def dJ:Fn:=⟨1,3,[.set 1 (.ix (.fld (.v 0) "frames" [] ["BlockRunner"]) (.neg (.c (.int (1))))),.for_ 2 false (.fld (.v 1) "rows" [] ["Block","Stay"]) [.augf (.v 0) "steps" (.c (.int (1))) ["Run","BlockRunner"],.ex (.meth (.v 0) "do_row" [("BlockRunner",45)] [(.v 1),(.v 2)]),.ite (.cmp .IsNot (.fld (.v 0) "ending" [] ["Run","BlockRunner"]) (.c (.non))) [.ret0] []],.augf (.v 0) "steps" (.c (.int (1))) ["Run","BlockRunner"],.ex (.meth (.v 0) "do_end" [("BlockRunner",46)] [(.v 1),(.fld (.v 1) "end" [] ["Block","Stay"])])]⟩
noncomputable abbrev iV:Nat:=38
noncomputable def cx:Fn:=⟨1,1,[.ex (.pop (.fld (.v 0) "frames" [] ["BlockRunner"]) false)]⟩
noncomputable abbrev lI:Nat:=39
noncomputable def dI:Fn:=⟨2,2,[.ex (.meth (.v 0) "end_call" [("BlockRunner",38)] []),.ite (.cmp .Eq (.bt .len [(.fld (.v 0) "frames" [] ["BlockRunner"])]) (.c (.int (0)))) [.ex (.meth (.v 0) "answer" [("BlockRunner",33)] [(.v 1)])] [.ex (.meth (.ix (.fld (.v 0) "frames" [] ["BlockRunner"]) (.neg (.c (.int (1))))) "go_well" [] [(.v 1)])]]⟩
noncomputable abbrev mR:Nat:=40
noncomputable def ej:Fn:=⟨3,3,[.setf (.v 0) "function" (.v 1) [] ["Stay"],.setf (.v 0) "have" .emp [] ["Stay"],.ex (.meth (.v 0) "come_to" [("Stay",41)] [(.c (.int (0))),(.v 2)])]⟩
noncomputable abbrev jH:Nat:=41
noncomputable def cR:Fn:=⟨3,6,[.set 3 (.ix (.fld (.fld (.v 0) "function" [] ["Stay"]) "blocks" [] ["Function"]) (.v 1)),.setf (.v 0) "rows" (.fld (.v 3) "rows" [] ["Block","Stay"]) [] ["Block","Stay"],.setf (.v 0) "end" (.fld (.v 3) "end" [] ["Block","Stay"]) [] ["Block","Stay"],.forZ [4,5] (.fld (.v 3) "params" [] ["Block"]) (.v 2) [.setix (.fld (.v 0) "have" [] ["Stay"]) (.v 4) (.v 5)]]⟩
noncomputable abbrev fC:Nat:=42
noncomputable def cw:Fn:=⟨2,2,[.ret (.ite (.cmp .Eq (.ix (.v 1) (.c (.int (0)))) (.c (.str "name"))) (.ix (.fld (.v 0) "have" [] ["Stay"]) (.ix (.v 1) (.c (.int (1))))) (.ix (.v 1) (.c (.int (1)))))]⟩
noncomputable abbrev gM:Nat:=43
noncomputable def bV:Fn:=⟨3,3,[.ex (.fn 35 [(.v 0),(.v 2)]),.setf (.v 0) "code" (.v 1) [] ["BlockRunner"]]⟩
noncomputable abbrev gt:Nat:=44
noncomputable def bO:Fn:=⟨3,3,[.app (.fld (.v 0) "frames" [] ["BlockRunner"]) (.new "Stay" 40 [(.meth (.fld (.v 0) "code" [] ["BlockRunner"]) "function_named" [("Code",28)] [(.v 1)]),(.v 2)])]⟩
noncomputable abbrev f8:Nat:=45
noncomputable def bK:Fn:=⟨3,3,[.ite (.cmp .Eq (.fld (.v 2) "op" [] ["Row"]) (.c (.str "tick"))) [.ex (.meth (.v 0) "takes_tick" [] [])] [.ite (.cmp .Eq (.fld (.v 2) "op" [] ["Row"]) (.c (.str "log"))) [.ex (.meth (.v 0) "write" [("BlockRunner",32)] [(.meth (.v 1) "value_of" [("Stay",42)] [(.ix (.fld (.v 2) "operands" [] ["Row"]) (.c (.int (0))))])])] [.stop]]]⟩
noncomputable abbrev f9:Nat:=46
noncomputable def bL:Fn:=⟨3,3,[.ite (.isk (.v 2) [] ["Row","Back","Block","Function","Code","Run","Stay","BlockRunner"]) [.ex (.meth (.v 1) "go_along" [] [(.fld (.v 2) "edge" [] []),(.lst [])])] [.ite (.isk (.v 2) [] ["Row","Back","Block","Function","Code","Run","Stay","BlockRunner"]) [.ex (.meth (.v 1) "go_along" [] [(.ite (.meth (.v 1) "value_of" [("Stay",42)] [(.fld (.v 2) "test" [] [])]) (.fld (.v 2) "yes" [] []) (.fld (.v 2) "no" [] [])),(.lst [])])] [.ite (.isk (.v 2) ["Back"] ["Row","Block","Function","Code","Run","Stay","BlockRunner"]) [.ex (.meth (.v 0) "leave" [("BlockRunner",39)] [(.meth (.v 1) "value_of" [("Stay",42)] [(.fld (.v 2) "operand" [] ["Back"])])])] [.ite (.isk (.v 2) [] ["Row","Back","Block","Function","Code","Run","Stay","BlockRunner"]) [.ex (.meth (.v 0) "fault_comes" [] [(.fld (.v 2) "fault" [] [])])] [.ite (.cmp .Eq (.fld (.v 2) "op" [] ["Row"]) (.c (.str "call"))) [.ex (.meth (.v 0) "enter" [] [(.fld (.v 2) "extra" [] ["Row"]),(.meth (.v 1) "values_of" [] [(.fld (.v 2) "asked" [] [])])])] [.ex (.meth (.v 0) "risk" [] [(.v 1),(.fld (.v 2) "op" [] ["Row"]),(.fld (.v 2) "extra" [] ["Row"]),(.meth (.v 1) "values_of" [] [(.fld (.v 2) "asked" [] [])])])]]]]]]⟩
noncomputable def tab:List Fn:=[fk,fm,fj,cB,hV,bU,cN,dg,ci,cQ,dH,cO,di,cP,bD,eh,dh,fo,ei,bY,kz,cT,cy,fu,ez,dM,cz,em,bB,ft,fq,dL,dj,cU,dl,el,bJ,dJ,cx,dI,ej,cR,cw,bV,bO,bK,bL]
local macro_rules| `(tactic|walk_at "call0")=> `(tactic|(refine xm rfl rfl ?_;dsimp only[fk,fm,fj,cB,hV,bU,cN,dg,ci,cQ,dH,cO,di,cP,bD,eh,dh,fo,ei,bY,kz,cT,cy,fu,ez,dM,cz,em,bB,ft,fq,dL,dj,cU,dl,el,bJ,dJ,cx,dI,ej,cR,cw,bV,bO,bK,bL,List.map,List.length,List.replicate,List.append,HAppend.hAppend,Append.append]))
local macro_rules| `(tactic|walk_at "callx0")=> `(tactic|(refine uV rfl rfl ?_;dsimp only[fk,fm,fj,cB,hV,bU,cN,dg,ci,cQ,dH,cO,di,cP,bD,eh,dh,fo,ei,bY,kz,cT,cy,fu,ez,dM,cz,em,bB,ft,fq,dL,dj,cU,dl,el,bJ,dJ,cx,dI,ej,cR,cw,bV,bO,bK,bL,List.map,List.length,List.replicate,List.append,HAppend.hAppend,Append.append]))
local macro_rules| `(tactic|walk_at "call")=> `(tactic|(walk_at "call0";walk_at "ev"))
local macro_rules| `(tactic|walk_at "callx")=> `(tactic|(walk_at "callx0";walk_at "ev"))
inductive Kd where
 |num|truth|row (n:Nat)|rcd (ps:List Bool)
noncomputable def pd(b:Bool):D:=if b then .tup [.str "truth"] else .tup [.str "num"]
noncomputable def Kd.d:Kd→D
 | .num=>.tup [.str "num"]
 | .truth=>.tup [.str "truth"]
 | .row n=>.tup [.str "row",.int n]
 | .rcd ps=>.tup [.str "record",.tup (ps.map pd)]
noncomputable def Kd.ok:Kd→Prop
 | .row n=>1≤n∧n≤6
 | .rcd ps=>1≤ps.length∧ps.length≤4
 |_=>True
noncomputable def Kd.parts:Kd→List Bool
 | .row n=>List.replicate n false
 | .rcd ps=>ps
 |_=>[]
noncomputable def sc:Bool→D→Prop
 |false,d=>∃i,d=.int i
 |true,d=>∃b,d=.bl b
noncomputable def nU:List Bool→List D→Prop
 |[],[]=>True
 |b::bs,d::ds=>sc b d∧nU bs ds
 |_,_=>False
noncomputable def fits:Kd→D→Prop
 | .num,d=>sc false d
 | .truth,d=>sc true d
 |k,d=>∃xs,d=.tup xs∧nU k.parts xs
noncomputable def nL:D→D
 | .int i=>.tup [.str "num",.int i]
 | .bl b=>.tup [.str "truth",.bl b]
 |d=>d
noncomputable def eJ:D→D
 | .tup xs=>.tup (xs.map nL)
 |d=>nL d
theorem cI:∀{bs:List Bool}{ds:List D},nU bs ds→ds.length=bs.length
 |[],[],_=>rfl
 |_::_,_::_,h=>by simp[cI h.2]
theorem lh:∀{bs:List Bool}{ds:List D}{i:Nat}{d:D},nU bs ds→ds[i]? =some d→∃b,bs[i]? =some b∧sc b d
 |[],[],_,_,_,q=>by simp at q
 |[],_::_,_,_,h,_=>h.elim
 |_::_,[],_,_,h,_=>h.elim
 |b::bs,d::ds,0,e,h,q=>by simp at q;subst q;exact⟨b,rfl,h.1⟩
 |b::bs,d::ds,i+1,e,h,q=>by simpa using lh h.2 (by simpa using q)
theorem mn:∀{bs:List Bool}{ds:List D}{b:Bool}{d:D},nU bs ds→sc b d→nU (bs++[b]) (ds++[d])
 |[],[],_,_,_,h=>⟨h,trivial⟩
 |_::_,_::_,_,_,h,k=>⟨h.1,mn h.2 k⟩
noncomputable def Cw(c m:Int):Int:=(c % 2147483629*48271+m*7919+104729) % 2147483629
noncomputable def Cv(n m:Int):Int:=(n*n % 2147483629*16807+m*104729+11) % 2147483587
noncomputable def mx(c m:Int):Int:=Cv (Cw c m) m*Cv (Cw c m) m % 2147483587
theorem wY(c m:Int):0≤mx c m:=Int.emod_nonneg _ (by omega)
theorem AJ(c m:Int):mx c m<2147483587:=aY _ (by omega)
section
variable{k:Nat}{st:aS}{Q:D→aS→Prop}
theorem ff(h:Q (.int (mx c m)) st):Wv (calls tab (k+1) lH [.int c,.int m] st) Q:=by
 walk_at "call"
 exact h
theorem su{ns:List Int}(h:∀i,Q (.int i) st):Wv (calls tab (k+1) jG [.fl (ns.map .int),.int j] st) Q:=by
 walk_at "call"
 refine⟨_,rfl,fun hj=>?_,fun _=>?_⟩
 ·walk_at "ev"
  have hj:=of_decide_eq_true hj
  obtain⟨d,e,e2⟩:=iI (xs:=ns.map D.int) (i:=(j:Int)) (by omega) (by simpa using hj)
  refine zJ e ?_
  rw[aM] at e2
  cases q:ns[(j:Int).toNat]? with
  |none=>rw[q] at e2;cases e2
  |some i=>rw[q] at e2;cases e2;exact h i
 ·walk_at "ev"
  exact h 0
end
theorem _root_.Ev.Gr.set{st st':aS}{p:Nat}{o:O}(h:Gr st st')(hp:st.length≤p):Gr st (st'.set p o):=by
 obtain⟨t,rfl⟩:=h
 exact⟨t.set (p - st.length) o,by rw[List.set_append_right _ _ hp]⟩
theorem Cg(h0:0≤m)(h1:m<4):(∀x∈cutD [.int 16,.int 32,.int 64,.int 128] none (some (1+m)),∃y,x=.int y∧0<y∧y≤128)∧1≤(cutD [.int 16,.int 32,.int 64,.int 128] none (some (1+m))).length∧(cutD [.int 16,.int 32,.int 64,.int 128] none (some (1+m))).length≤4:=by
 have:m=0∨m=1∨m=2∨m=3:=by omega
 rcases this with rfl|rfl|rfl|rfl
 ·refine⟨?_,by decide,by decide⟩
  rw[show cutD [.int 16,.int 32,.int 64,.int 128] none (some (1+0))=[.int 16] from rfl]
  simp
 ·refine⟨?_,by decide,by decide⟩
  rw[show cutD [.int 16,.int 32,.int 64,.int 128] none (some (1+1))=[.int 16,.int 32] from rfl]
  simp
 ·refine⟨?_,by decide,by decide⟩
  rw[show cutD [.int 16,.int 32,.int 64,.int 128] none (some (1+2))=[.int 16,.int 32,.int 64] from rfl]
  simp
 ·refine⟨?_,by decide,by decide⟩
  rw[show cutD [.int 16,.int 32,.int 64,.int 128] none (some (1+3))=[.int 16,.int 32,.int 64,.int 128] from rfl]
  simp
section
variable{k:Nat}{st:aS}{Q:D→aS→Prop}
theorem xB{j:Int}(h:∀kd st',Kd.ok kd→Gr st st'→Q kd.d st'):Wv (calls tab (k+2) jF [.int c,.int j] st) Q:=by
 walk_at "call"
 refine ff ?_
 generalize hm:mx c (10+j)=m
 have h0:0≤m:=by rw[←hm];exact wY _ _
 walk_at "ev"
 refine⟨_,rfl,fun _=>?_,fun _=>?_⟩
 ·walk_at "ev"
  exact h .num _ trivial (.refl _)
 walk_at "ev"
 refine⟨_,rfl,fun _=>?_,fun _=>?_⟩
 ·walk_at "ev"
  exact h .truth _ trivial (.refl _)
 walk_at "ev"
 refine⟨_,rfl,fun _=>?_,fun _=>?_⟩
 ·walk_at "ev"
  have:=h (.row (1+m / 4 % 6).toNat) st ⟨by omega,by omega⟩ (.refl _)
  rw[Kd.d,show(((1+m / 4 % 6).toNat:Nat):Int)=1+m / 4 % 6 by omega] at this
  exact this
 walk_at "ev"
 obtain⟨c1,c2,c3⟩:=Cg (m:=m / 4 % 4) (by omega) (by omega)
 refine kZ (fun n xs i loc st'=>∃ps:List Bool,ps.length=i∧Gr st st'∧st'[st.length]? =some (.lst (ps.map pd))∧st'[n]? =some (.lst xs)∧n≠st.length∧∃z,loc=[some (.int c),some (.int j),some (.int m),some (.ref st.length),z]) ?_
 walk_at "ev"
 refine⟨_,rfl,l8 aE ?_⟩
 generalize cutD [.int 16,.int 32,.int 64,.int 128] none (some (1+m / 4 % 4))=xs at c1 c2 c3
 refine⟨_,xs,rfl,aE,⟨[],rfl,((Gr.one _ _).more _).more _,aI (aI aE),aE,by simp,_,rfl⟩,fun i loc st' ⟨ps,_,_,_,e,_⟩=>e,?_,?_⟩
 ·rintro i x loc st' hx ⟨ps,hl,g,e1,e2,hn,z,rfl⟩
  obtain⟨y,rfl,y0,y1⟩:=c1 x (al hx)
  walk_at "ev"
  refine gf e1 ?_
  walk_at "ev"
  refine db aE (by omega) (by simp;omega) fun d hd _=>?_
  have hd':∃b,d=pd b:=by
   simp at hd
   rcases hd with rfl|rfl
   ·exact⟨false,rfl⟩
   ·exact⟨true,rfl⟩
  obtain⟨b,rfl⟩:=hd'
  refine eR (aI e1) (by simp;have:=(aA hx).1;omega) ?_
  walk_at "ev"
  refine⟨ps++[b],by simp[hl],(g.more _).set (af _),?_,?_,hn,_,rfl⟩
  ·rw[bo (by have:=(aA e1).1;simp;omega)]
   simp
  ·rw[ah (Ne.symm hn)]
   exact aI e2
 ·rintro loc st' ⟨ps,hl,g,e1,e2,hn,z,rfl⟩
  walk_at "ev"
  refine bW e1 ?_
  walk_at "ev"
  exact h (.rcd ps) st' ⟨by omega,by omega⟩ g
end
section
variable{st:aS}
theorem oN(kd:Kd):cY 60 st kd.d (.tup [.str "num"])=some (match kd with| .num=>true|_=>false):=by
 cases kd<;>simp[cY,shape,cW,j3,oO,Kd.d]<;>decide+kernel
theorem oM(kd:Kd):cY 60 st kd.d (.tup [.str "truth"])=some (match kd with| .truth=>true|_=>false):=by
 cases kd<;>simp[cY,shape,cW,j3,oO,Kd.d]<;>decide+kernel
theorem oo(b:Bool):cY 60 st (pd b) (.tup [.str "num"])=some (!b):=by
 cases b<;>simp[cY,shape,cW,j3,oO,pd]<;>decide+kernel
theorem om(b:Bool):cY 60 st (pd b) (.tup [.str "truth"])=some b:=by
 cases b<;>simp[cY,shape,cW,j3,oO,pd]<;>decide+kernel
noncomputable def Kd.hd:Kd→Str
 | .num=> "num"
 | .truth=> "truth"
 | .row _=> "row"
 | .rcd _=> "record"
theorem eq_str{a b:Str}:cY 60 st (.str a) (.str b)=some (a==b):=by simp[cY,shape,oO]
end
section
variable{g:c_}{loc:Loc}{st:aS}{Q:Fl→aS→Prop}{ss:List S}{e o:Ex}
theorem i0{f:D→Loc→M Fl}{s:Src}{L:Nat}{it:Nat→D}(I:Nat→Loc→aS→Prop)(keep:∀i loc st,I i loc st→gR s i st=some (if i<L then some (it i) else none))(step:∀i loc st,i<L→I i loc st→W (f (it i) loc st) fun r st1=>match r with| .nx loc'=>I (i+1) loc' st1| .rt d=>Q (.rt d) st1| .ex n l=>Q (.ex n l) st1)
  (fin:∀loc st,I L loc st→Q (.nx loc) st):∀k i loc st,i≤L→L<k+i→I i loc st→W (fi f s k i loc st) Q
 |0,i,acc,st,h1,h2,h=>by omega
 |k+1,i,loc,st,h1,h2,h=>by
  simp only[fi,keep i loc st h]
  by_cases hi:i<L
  ·simp only[if_pos hi]
   refine aK ((step i loc st hi h).mono fun r st1 q=>?_)
   cases r with
   |nx loc'=>exact i0 I keep step fin k (i+1) loc' st1 hi (by omega) q
   |rt d=>exact q
   |ex n l=>exact q
  ·simp only[if_neg hi]
   have:i=L:=by omega
   subst this
   exact fin loc st h
theorem xk{b:Nat}{body:List S}(I:Nat→List D→Nat→Loc→aS→Prop)
  (h:W (run g e loc st) fun d st1=>∃n xs,d=.ref n∧st1[n]? =some (.lst xs)∧I n xs 0 loc st1∧(∀i loc st,I n xs i loc st→st[n]? =some (.lst xs))∧(∀i x loc st,xs[i]? =some x→I n xs i loc st→W (execs g body ((loc.set a (some (.int i))).set b (some x)) st) (Kf (I n xs (i+1)) (Kn g ss Q)))∧∀loc st,I n xs xs.length loc st→W (execs g ss loc st) Q):
  W (execs g (.forE [a,b] e body::ss) loc st) Q:=by
 refine o9 (h.mono fun d st1 hp=>?_)
 obtain⟨n,xs,hd,hn,h0,keep,step,fin⟩:=hp
 subst hd
 refine⟨.en n,rfl,?_⟩
 have hL:gJ (.en n) st1=xs.length:=by simp only[gJ,hn]
 unfold eY
 rw[hL]
 refine i0 (L:=xs.length) (it:=fun i=>.tup [.int i,xs.getD i .non]) (I n xs) (fun i loc st q=>?_) (fun i loc st hi q=>?_) fin _ 0 loc st1 (by omega) (by omega) h0
 ·simp only[gR,keep i loc st q]
  by_cases hi:i<xs.length
  ·simp[hi]
  ·simp[hi]
 ·have e1:xs[i]? =some (xs.getD i .non):=by simp[hi]
  refine aK ?_
  show W (.ok [.int i,xs.getD i .non] st) _
  refine(step i _ loc st e1 q).mono fun r st1 q=>?_
  cases r with
  |nx loc'=>exact q
  |rt d=>exact q
  |ex n l=>exact q
theorem uS{b:Nat}{body:List S}(I:List D→Nat→Loc→aS→Prop)
  (h:W (run g e loc st) fun d st1=>∃xs,d=.tup xs∧I xs 0 loc st1∧(∀i x loc st,xs[i]? =some x→I xs i loc st→W (execs g body ((loc.set a (some (.int i))).set b (some x)) st) (Kf (I xs (i+1)) (Kn g ss Q)))∧∀loc st,I xs xs.length loc st→W (execs g ss loc st) Q):
  W (execs g (.forE [a,b] e body::ss) loc st) Q:=by
 refine o9 (h.mono fun d st1 hp=>?_)
 obtain⟨xs,hd,h0,step,fin⟩:=hp
 subst hd
 refine⟨.its (fD 0 xs),rfl,?_⟩
 have hL:(fD 0 xs).length=xs.length:=by
  have:∀(l:List D)(k:Nat),(fD k l).length=l.length:=fun l=>by
   induction l with
   |nil=>intro k;rfl
   |cons x l ih=>intro k;simp[fD,ih]
  exact this xs 0
 unfold eY
 show W (fi _ _ ((fD 0 xs).length+1) 0 loc st1) _
 rw[hL]
 refine i0 (L:=xs.length) (it:=fun i=>.tup [.int i,xs.getD i .non]) (I xs) (fun i loc st q=>?_) (fun i loc st hi q=>?_) fin _ 0 loc st1 (by omega) (by omega) h0
 ·simp only[gR,iG]
  by_cases hi:i<xs.length
  ·simp[hi]
  ·simp[hi]
 ·have e1:xs[i]? =some (xs.getD i .non):=by simp[hi]
  refine aK ?_
  show W (.ok [.int i,xs.getD i .non] st) _
  refine(step i _ loc st e1 q).mono fun r st1 q=>?_
  cases r with
  |nx loc'=>exact q
  |rt d=>exact q
  |ex n l=>exact q
theorem xj{b:Nat}{body:List S}(I:List D→Nat→List D→Nat→Loc→aS→Prop)
  (h:W (run g o loc st) fun d st1=>W (run g e loc st1) fun d2 st2=>∃ts n xs,d=.tup ts∧d2=.ref n∧st2[n]? =some (.lst xs)∧ts.length=xs.length∧I ts n xs 0 loc st2∧(∀i loc st,I ts n xs i loc st→st[n]? =some (.lst xs))∧(∀i t x loc st,ts[i]? =some t→xs[i]? =some x→I ts n xs i loc st→W (execs g body ((loc.set a (some t)).set b (some x)) st) (Kf (I ts n xs (i+1)) (Kn g ss Q)))∧∀loc st,I ts n xs xs.length loc st→W (execs g ss loc st) Q):
  W (execs g (.forZ [a,b] o e body::ss) loc st) Q:=by
 refine uR (h.mono fun d st1 h=>h.mono fun d2 st2 hp=>?_)
 obtain⟨ts,n,xs,hd,hd2,hn,hl,h0,keep,step,fin⟩:=hp
 subst hd hd2
 refine⟨.zp ts n,rfl,?_⟩
 unfold eY
 show W (fi _ _ (ts.length+1) 0 loc st2) _
 rw[hl]
 refine i0 (L:=xs.length) (it:=fun i=>.tup [ts.getD i .non,xs.getD i .non]) (I ts n xs) (fun i loc st q=>?_) (fun i loc st hi q=>?_) fin _ 0 loc st2 (by omega) (by omega) h0
 ·simp only[gR,keep i loc st q]
  by_cases hi:i<xs.length
  ·have:i<ts.length:=by omega
   simp[hi,this]
  ·have:¬i<ts.length:=by omega
   simp[hi,this]
 ·have e1:xs[i]? =some (xs.getD i .non):=by simp[hi]
  have e3:i<ts.length:=by omega
  have e2:ts[i]? =some (ts.getD i .non):=by simp[e3]
  refine aK ?_
  show W (.ok [ts.getD i .non,xs.getD i .non] st) _
  refine(step i _ _ loc st e2 e1 q).mono fun r st1 q=>?_
  cases r with
  |nx loc'=>exact q
  |rt d=>exact q
  |ex n l=>exact q
end
section
variable{k:Nat}{st:aS}{Q:D→aS→Prop}
noncomputable def Kd.long:Kd→Bool
 | .row _=>true
 | .rcd _=>true
 |_=>false
theorem sj{kd:Kd}(hk:kd.long=true)(ho:kd.ok)(h:∀p st',st.length≤p→Gr st st'→st'[p]? =some (.lst (kd.parts.map pd))→Q (.ref p) st'):Wv (calls tab (k+1) eM [kd.d] st) Q:=by
 cases kd with
 |num=>cases hk
 |truth=>cases hk
 |row n=>
  show Wv (calls tab (k+1) eM [.tup [.str "row",.int n]] st) Q
  walk_at "call"
  refine w_eq (k:=true) (by rw[eq_str];decide+kernel) ⟨true,rfl,fun _=>?_,nofun⟩
  walk_at "ev"
  obtain⟨h1,h2⟩:=ho
  refine nF aE ⟨by omega,by omega,by simp⟩ ?_
  walk_at "ev"
  refine h _ _ (by simp) ((Gr.one _ _).more _) ?_
  rw[aE]
  have:∀n:Nat,List.flatten (List.replicate n [D.tup [.str "num"]])=(List.replicate n false).map pd:=fun n=>by
   induction n with
   |zero=>rfl
   |succ n ih=>rw[List.replicate_succ,List.flatten_cons,ih,List.replicate_succ];rfl
  simp only[Kd.parts,←this,Int.toNat_natCast]
 |rcd ps=>
  show Wv (calls tab (k+1) eM [.tup [.str "record",.tup (ps.map pd)]] st) Q
  walk_at "call"
  refine w_eq (k:=false) (by rw[eq_str];decide+kernel) ⟨false,rfl,nofun,fun _=>?_⟩
  walk_at "ev"
  refine w_eq (k:=true) (by rw[eq_str];decide+kernel) ⟨true,rfl,fun _=>?_,nofun⟩
  walk_at "ev"
  exact h _ _ (af _) (Gr.one _ _) aE
theorem nZ{j:Int}(h:∀d st',sc b d→Gr st st'→Q d st'):Wv (calls tab (k+2) f6 [pd b,.int c,.int j] st) Q:=by
 walk_at "call"
 refine ff ?_
 generalize hm:mx c (20+j)=m
 have h0:0≤m:=by rw[←hm];exact wY _ _
 have h1:m<2147483587:=by rw[←hm];exact AJ _ _
 walk_at "ev"
 refine w_eq (oo b) ⟨!b,rfl,fun hb=>?_,fun hb=>?_⟩
 ·have:b=false:=by simpa using hb
  subst this
  walk_at "ev"
  refine db aE (by omega) (by simp;omega) fun d hd _=>?_
  walk_at "ev"
  simp at hd
  rcases hd with rfl|rfl|rfl
  ·exact h _ _ ⟨_,rfl⟩ (.one _ _)
  ·exact h _ _ ⟨_,rfl⟩ (.one _ _)
  ·exact h _ _ ⟨_,rfl⟩ (.one _ _)
 ·have:b=true:=by simpa using hb
  subst this
  walk_at "ev"
  refine w_eq (om true) ⟨true,rfl,fun _=>?_,nofun⟩
  walk_at "ev"
  exact h _ _ ⟨_,rfl⟩ (.refl _)
theorem Am{kd:Kd}(ho:kd.ok){j:Int}(h:∀d st',fits kd d→Gr st st'→Q d st'):Wv (calls tab (k+3) f6 [kd.d,.int c,.int j] st) Q:=by
 by_cases hk:kd.long=true
 ·walk_at "call"
  refine ff ?_
  walk_at "ev"
  refine w_eq (oN kd) ⟨false,(by cases kd<;>first|rfl|(cases hk;done)),nofun,fun _=>?_⟩
  walk_at "ev"
  refine w_eq (oM kd) ⟨false,(by cases kd<;>first|rfl|(cases hk;done)),nofun,fun _=>?_⟩
  walk_at "ev"
  refine xk (fun n xs i loc st'=>∃ds:List D,nU (kd.parts.take i) ds∧Gr st st'∧st'[st.length]? =some (.lst ds)∧st'[n]? =some (.lst xs)∧n≠st.length∧∃m y z,loc=[some kd.d,some (.int c),some (.int j),m,some (.ref st.length),y,z]) ?_
  walk_at "ev"
  refine sj hk ho fun p st1 hp g1 e1=>?_
  have hp':st.length+1≤p:=by simpa using hp
  refine⟨p,_,rfl,e1,⟨[],trivial,(Gr.one _ _).trans g1,g1.at aE,e1,by omega,_,_,_,rfl⟩,fun i loc st' ⟨ds,_,_,_,e,_⟩=>e,?_,?_⟩
  ·rintro i x loc st' hx ⟨ds,hs,g,e2,e3,hn,m,y,z,rfl⟩
   rw[aM] at hx
   cases q:kd.parts[i]? with
   |none=>rw[q] at hx;cases hx
   |some b=>
    rw[q] at hx
    cases hx
    walk_at "ev"
    refine gf e2 ?_
    walk_at "ev"
    refine nZ fun d st2 hd g2=>?_
    have hi:=(aA q).1
    have hl:=cI hs
    have hpl:kd.parts.length≤6:=by cases kd<;>simp[Kd.parts,Kd.ok] at ho ⊢<;>omega
    refine eR (g2.at e2) (by simp at hl;omega) ?_
    walk_at "ev"
    refine⟨ds++[d],?_,(g.trans g2).set (af _),?_,?_,hn,_,_,_,rfl⟩
    ·rw[List.take_succ,q]
     exact mn hs hd
    ·rw[bo (by have:=(aA (g2.at e2)).1;omega)]
    ·rw[ah (Ne.symm hn)]
     exact g2.at e3
  ·rintro loc st' ⟨ds,hs,g,e2,e3,hn,m,y,z,rfl⟩
   rw[List.length_map,List.take_length] at hs
   walk_at "ev"
   refine bW e2 ?_
   walk_at "ev"
   refine h _ _ ?_ g
   cases kd with
   |num=>cases hk
   |truth=>cases hk
   |row n=>exact⟨ds,rfl,hs⟩
   |rcd ps=>exact⟨ds,rfl,hs⟩
 ·cases kd with
  |num=>exact nZ (b:=false) (k:=k+1) h
  |truth=>exact nZ (b:=true) (k:=k+1) h
  |row n=>exact absurd rfl hk
  |rcd ps=>exact absurd rfl hk
end
noncomputable def mo(st:aS):Bool→D→Option Bool
 |false,d=>match cb st .int d,cb st .bool d with
  |some a,some b=>some (a&& !b)
  |_,_=>none
 |true,d=>cb st .bool d
noncomputable def oq:D→Prop
 | .ref _=>False
 |_=>True
noncomputable def xx:Bool→D→Bool
 |false,.int _=>true
 |true,.bl _=>true
 |_,_=>false
theorem se{d:D}(h:oq d):mo st b d=some (xx b d):=by
 cases d<;>cases b<;>first|rfl|cases h
theorem xw{d:D}(h:sc b d):xx b d=true∧oq d:=by
 cases b
 ·obtain⟨i,rfl⟩:=h;exact⟨rfl,trivial⟩
 ·obtain⟨i,rfl⟩:=h;exact⟨rfl,trivial⟩
noncomputable def iJ:List Bool→List D→Bool
 |b::bs,d::ds=>xx b d&&iJ bs ds
 |_,_=>true
theorem pr:∀{bs:List Bool}{ds:List D},nU bs ds→iJ bs ds=true∧∀d∈ds,oq d
 |[],[],_=>⟨rfl,by simp⟩
 |[],_::_,h=>h.elim
 |_::_,[],h=>h.elim
 |b::bs,d::ds,h=>by
  obtain⟨h1,h2⟩:=xw h.1
  obtain⟨h3,h4⟩:=pr h.2
  refine⟨by simp[iJ,h1,h3],fun x hx=>?_⟩
  rcases List.mem_cons.mp hx with rfl|hx
  ·exact h2
  ·exact h4 x hx
section
variable{k:Nat}{st:aS}{Q:D→aS→Prop}
theorem i8{d:D}(hr:mo st false d=some r)(h:Q (.bl r) st):Wv (calls tab (k+1) oA [d] st) Q:=by
 walk_at "call"
 cases ha:cb st .int d with
 |none=>simp[mo,ha] at hr
 |some a=>
  cases hb:cb st .bool d with
  |none=>simp[mo,ha,hb] at hr
  |some b=>
   have hr':(a&& !b)=r:=by simpa[mo,ha,hb] using hr
   subst hr'
   refine⟨a,rfl,a,rfl,fun h1=>?_,fun h1=>?_⟩
   ·subst h1
    walk_at "ev"
    refine⟨b,hb,b,rfl,?_⟩
    walk_at "ev"
    exact h
   ·subst h1
    walk_at "ev"
    exact h
theorem vp{d:D}(hr:mo st true d=some r)(h:Q (.bl r) st):Wv (calls tab (k+1) oB [d] st) Q:=by
 walk_at "call"
 refine⟨r,hr,?_⟩
 walk_at "ev"
 exact h
theorem lq{d:D}(hr:mo st b d=some r)(h:Q (.bl r) st):Wv (calls tab (k+2) ce [d,pd b] st) Q:=by
 walk_at "call"
 refine w_eq (oo b) ⟨!b,rfl,fun hb=>?_,fun hb=>?_⟩
 ·have:b=false:=by simpa using hb
  subst this
  walk_at "ev"
  refine i8 hr ?_
  walk_at "ev"
  exact h
 ·have:b=true:=by simpa using hb
  subst this
  walk_at "ev"
  refine w_eq (om true) ⟨true,rfl,fun _=>?_,nofun⟩
  walk_at "ev"
  refine vp hr ?_
  walk_at "ev"
  exact h
theorem vv{kd:Kd}(hk:kd.long=true)(ho:kd.ok)(h:∀p st',st.length≤p→Gr st st'→st'[p]? =some (.lst (kd.parts.map pd))→Q (.ref p) st'):Wv (calls tab (k+1) gK [kd.d] st) Q:=by
 cases kd with
 |num=>cases hk
 |truth=>cases hk
 |row n=>
  show Wv (calls tab (k+1) gK [.tup [.str "row",.int n]] st) Q
  walk_at "call"
  refine w_eq (k:=true) (by rw[eq_str];decide+kernel) ⟨true,rfl,fun _=>?_,nofun⟩
  walk_at "ev"
  obtain⟨h1,h2⟩:=ho
  refine⟨_,jr ⟨by omega,by omega⟩,i6 (by rw[dS];omega) (fun i acc st'=>st'=st∧acc=(List.replicate i false).map pd) ⟨rfl,rfl⟩ ?_ ?_⟩
  ·rintro i x acc st' hx ⟨rfl,rfl⟩
   walk_at "ev"
   refine⟨rfl,?_⟩
   rw[List.replicate_succ',List.map_append]
   rfl
  ·rintro acc st' ⟨rfl,rfl⟩
   walk_at "ev"
   refine h _ _ (af _) (Gr.one _ _) ?_
   rw[aE,dS,Int.toNat_natCast]
   rfl
 |rcd ps=>
  show Wv (calls tab (k+1) gK [.tup [.str "record",.tup (ps.map pd)]] st) Q
  walk_at "call"
  refine w_eq (k:=false) (by rw[eq_str];decide+kernel) ⟨false,rfl,nofun,fun _=>?_⟩
  walk_at "ev"
  refine w_eq (k:=true) (by rw[eq_str];decide+kernel) ⟨true,rfl,fun _=>?_,nofun⟩
  walk_at "ev"
  exact h _ _ (af _) (Gr.one _ _) aE
theorem sr{kd:Kd}(hk:kd.long=true)(ho:kd.ok){d:D}(h:∀p st',st.length≤p→Gr st st'→st'[p]? =some (.lst (kd.parts.map pd))→W (execs (calls tab (k+1)) (cB.body.drop 3) [some d,some kd.d,some (.ref p)] st') (Kr Q)):Wv (calls tab (k+2) ce [d,kd.d] st) Q:=by
 walk_at "call"
 refine w_eq (oN kd) ⟨false,(by cases kd<;>first|rfl|(cases hk;done)),nofun,fun _=>?_⟩
 walk_at "ev"
 refine w_eq (oM kd) ⟨false,(by cases kd<;>first|rfl|(cases hk;done)),nofun,fun _=>?_⟩
 walk_at "ev"
 refine vv hk ho fun p st' hp g e=>?_
 exact h p st' hp g e
theorem sq{kd:Kd}(hk:kd.long=true)(ho:kd.ok){d:D}(hd:cb st .tuple d=some false∨∃xs,d=.tup xs∧xs.length≠kd.parts.length)(hm:∀st',Gr st st'→cb st' .tuple d=cb st .tuple d)(h:∀st',Gr st st'→Q (.bl false) st'):Wv (calls tab (k+2) ce [d,kd.d] st) Q:=by
 refine sr hk ho fun p st' hp g e=>?_
 dsimp only[cB,List.drop]
 walk_at "ev"
 rcases hd with hd|⟨xs,rfl,hl⟩
 ·refine⟨false,by rw[hm st' g];exact hd,false,rfl,?_⟩
  walk_at "ev"
  refine⟨true,rfl,fun _=>?_,nofun⟩
  walk_at "ev"
  refine⟨true,rfl,fun _=>?_,nofun⟩
  walk_at "ev"
  exact h st' g
 ·refine⟨true,rfl,true,rfl,?_⟩
  walk_at "ev"
  refine⟨false,rfl,nofun,fun _=>?_⟩
  walk_at "ev"
  refine eI e ?_
  walk_at "ev"
  refine⟨_,rfl,fun _=>?_,fun hz=>?_⟩
  ·walk_at "ev"
   exact h st' g
  ·simp at hz
   exact absurd (by exact_mod_cast hz) hl
end
theorem md{a b:Ex}(I:Nat→List D→Nat→List D→aS→Prop)
  (h:W (run g a loc st) fun d st1=>∃n xs,d=.ref n∧st1[n]? =some (.lst xs)∧xs.length≤1000000∧I n xs 0 [] st1∧(∀i acc st,I n xs i acc st→st[n]? =some (.lst xs))∧(∀i x acc st,xs[i]? =some x→I n xs i acc st→W (run g b (some (.int i)::some x::loc) st) fun y st1=>I n xs (i+1) (acc++[y]) st1)∧∀acc st,I n xs xs.length acc st→Q (.ref st.length) (st++[.lst acc])):W (run g (.compE a b) loc st) Q:=by
 refine uT (h.mono fun d st1 hp=>?_)
 obtain⟨n,xs,hd,hn,hl,h0,keep,step,fin⟩:=hp
 subst hd
 refine⟨.en n,rfl,ma hl hn (I n xs) h0 keep (fun i x acc st e q=>?_) fin⟩
 exact aK ((step i x acc st e q).mono fun y st1 q=>q)
theorem allB_snoc:∀{xs:List D}{a b:Bool},allB xs=some a→allB (xs++[.bl b])=some (a&&b)
 |[],a,b,h=>by cases h;simp[allB]
 |x::xs,a,b,h=>by
  cases x with
  |bl c=>
   cases q:allB xs with
   |none=>simp[allB,q] at h
   |some k=>
    have h':(c&&k)=a:=by simpa[allB,q] using h
    simp[allB,allB_snoc q,←h',Bool.and_assoc]
  |_=>simp[allB] at h
theorem kP:∀{bs:List Bool}{ds:List D}{i:Nat}{b:Bool}{d:D},bs[i]? =some b→ds[i]? =some d→iJ (bs.take (i+1)) (ds.take (i+1))=(iJ (bs.take i) (ds.take i)&&xx b d)
 |b::bs,d::ds,0,_,_,e,f=>by cases e;cases f;simp[iJ]
 |b::bs,d::ds,i+1,_,_,e,f=>by
  have:=kP (bs:=bs) (ds:=ds) (i:=i) (by simpa using e) (by simpa using f)
  simp only[List.take_succ_cons,iJ,this,Bool.and_assoc]
section
variable{k:Nat}{st:aS}{Q:D→aS→Prop}
theorem nY{kd:Kd}(hk:kd.long=true)(ho:kd.ok)(hl:xs.length=kd.parts.length)(hn:∀x∈xs,oq x)(h:∀st',Gr st st'→Q (.bl (iJ kd.parts xs)) st'):Wv (calls tab (k+3) ce [.tup xs,kd.d] st) Q:=by
 refine sr hk ho fun p st' hp g e=>?_
 dsimp only[cB,List.drop]
 walk_at "ev"
 refine⟨true,rfl,true,rfl,?_⟩
 walk_at "ev"
 refine⟨false,rfl,nofun,fun _=>?_⟩
 walk_at "ev"
 refine eI e ?_
 walk_at "ev"
 refine⟨_,rfl,fun hz=>?_,fun _=>?_⟩
 ·exfalso
  simp at hz
  omega
 walk_at "ev"
 have hpl:kd.parts.length≤6:=by cases kd<;>simp[Kd.parts,Kd.ok] at ho ⊢<;>omega
 refine md (fun n ys i acc st2=>Gr st' st2∧n=p∧allB acc=some (iJ (kd.parts.take i) (xs.take i))∧ys=kd.parts.map pd) ?_
 walk_at "ev"
 refine⟨p,_,rfl,e,by simp;omega,⟨.refl _,rfl,rfl,rfl⟩,fun i acc st2 ⟨g2,hp,_,hy⟩=>?_,?_,?_⟩
 ·rw[hp,hy];exact g2.at e
 ·rintro i x acc st2 hx ⟨g2,_,ha,_⟩
  rw[aM] at hx
  cases q:kd.parts[i]? with
  |none=>rw[q] at hx;cases hx
  |some b=>
   rw[q] at hx
   cases hx
   have hi:=(aA q).1
   have hx':xs[i]? =some xs[i]:=aC (by omega)
   walk_at "ev"
   obtain⟨d,e1,e2⟩:=iI (xs:=xs) (i:=(i:Int)) (by omega) (by omega)
   have:d=xs[i]:=by
    rw[Int.toNat_natCast,hx'] at e2
    exact(aj e2).symm
   subst this
   refine fB e1 ?_
   walk_at "ev"
   refine lq (k:=k) (se (hn _ (al hx'))) ⟨g2,rfl,?_,rfl⟩
   rw[kP q hx']
   exact allB_snoc ha
 ·rintro acc st2 ⟨g2,_,ha,_⟩
  walk_at "ev"
  rw[List.length_map,List.take_length,←hl,List.take_length] at ha
  refine w_allL aE ha ?_
  walk_at "ev"
  exact h _ ((g.trans g2).more _)
theorem Ak{kd:Kd}(ho:kd.ok){d:D}(hd:fits kd d)(h:∀st',Gr st st'→Q (.bl true) st'):Wv (calls tab (k+3) ce [d,kd.d] st) Q:=by
 cases kd with
 |num=>
  obtain⟨h1,h2⟩:=xw (show sc false d from hd)
  exact lq (b:=false) (k:=k+1) (by rw[se h2,h1]) (h _ (.refl _))
 |truth=>
  obtain⟨h1,h2⟩:=xw (show sc true d from hd)
  exact lq (b:=true) (k:=k+1) (by rw[se h2,h1]) (h _ (.refl _))
 |row n=>
  obtain⟨xs,rfl,hs⟩:=hd
  obtain⟨h1,h2⟩:=pr hs
  refine nY rfl ho (cI hs) h2 fun st' g=>?_
  rw[h1]
  exact h _ g
 |rcd ps=>
  obtain⟨xs,rfl,hs⟩:=hd
  obtain⟨h1,h2⟩:=pr hs
  refine nY rfl ho (cI hs) h2 fun st' g=>?_
  rw[h1]
  exact h _ g
theorem nW{d:D}(hd:sc b d)(h:Q (nL d) st):Wv (calls tab (k+1) jE [d] st) Q:=by
 walk_at "call"
 cases b with
 |false=>
  obtain⟨i,rfl⟩:=hd
  refine⟨false,rfl,false,rfl,nofun,fun _=>?_⟩
  walk_at "ev"
  refine⟨true,rfl,true,rfl,fun _=>?_,nofun⟩
  walk_at "ev"
  exact h
 |true=>
  obtain⟨i,rfl⟩:=hd
  refine⟨true,rfl,true,rfl,fun _=>?_,nofun⟩
  walk_at "ev"
  exact h
theorem iw{bs:List Bool}{ds:List D}{d:D}(h:nU bs ds)(hd:d∈ds):∃b,sc b d:=by
 obtain⟨i,hi⟩:=List.getElem?_of_mem hd
 obtain⟨b,_,q⟩:=lh h hi
 exact⟨b,q⟩
theorem ph{a b:Ex}{f:D→D}(ha:∀{Q:D→aS→Prop},Q (.tup xs) st→W (run g a loc st) Q)(hl:xs.length≤1000000)(hb:∀x∈xs,∀st',Gr st st'→W (run g b (some x::loc) st') fun y st1=>y=f x∧Gr st st1)(h:∀st',Gr st st'→Q (.ref st'.length) (st'++[.lst (xs.map f)])):W (run g (.comp false a b) loc st) Q:=by
 refine jo (ha ⟨_,rfl,i6 hl (fun i acc st'=>Gr st st'∧acc=(xs.take i).map f) ⟨.refl _,by simp⟩ ?_ ?_⟩)
 ·rintro i x acc st' hx ⟨g,rfl⟩
  refine pf ((hb x (al hx) st' g).mono fun y st1 ⟨e,g1⟩=>⟨g1,?_⟩)
  subst e
  rw[List.take_succ,hx]
  simp
 ·rintro acc st' ⟨g,rfl⟩
  rw[List.take_length]
  exact h st' g
theorem wU{kd:Kd}(ho:kd.ok){d:D}(hd:fits kd d)(h:∀st',Gr st st'→Q (eJ d) st'):Wv (calls tab (k+2) jE [d] st) Q:=by
 have long:∀xs:List D,xs.length≤6→(∀x∈xs,∃b,sc b x)→(∀st',Gr st st'→Q (eJ (.tup xs)) st')→Wv (calls tab (k+2) jE [.tup xs] st) Q:=fun xs hl hs h=>by
  walk_at "call0"
  refine cZ (o7 (aZ rfl ⟨false,rfl,false,rfl,nofun,fun _=>?_⟩))
  walk_at "ev"
  refine⟨false,rfl,false,rfl,nofun,fun _=>?_⟩
  refine aT (bq (dn (cG (ag (ph (xs:=xs) (f:=nL) (fun q=>aZ rfl q) (by omega) ?_ ?_)))))
  ·intro x hx st' g
   obtain⟨b,hb⟩:=hs x hx
   walk_at "ev"
   exact nW (k:=k) hb ⟨rfl,g⟩
  ·intro st' g
   walk_at "ev"
   refine bW aE ?_
   walk_at "ev"
   exact h _ (g.more _)
 cases kd with
 |num=>
  obtain⟨i,rfl⟩:=hd
  exact nW (b:=false) (k:=k+1) ⟨i,rfl⟩ (h _ (.refl _))
 |truth=>
  obtain⟨i,rfl⟩:=hd
  exact nW (b:=true) (k:=k+1) ⟨i,rfl⟩ (h _ (.refl _))
 |row n=>
  obtain⟨xs,rfl,hs⟩:=hd
  refine long xs ?_ (fun x hx=>iw hs hx) h
  have:=cI hs
  simp[Kd.parts,Kd.ok] at this ho
  omega
 |rcd ps=>
  obtain⟨xs,rfl,hs⟩:=hd
  refine long xs ?_ (fun x hx=>iw hs hx) h
  have:=cI hs
  simp[Kd.parts,Kd.ok] at this ho
  omega
end
section
variable{k:Nat}{st:aS}{Q:D→aS→Prop}
theorem ln{d:D}(hd:sc b d)(h:∀st',Gr st st'→Q (nL d) st'):Wv (calls tab (k+1) eL [d] st) Q:=by
 walk_at "call"
 cases b with
 |false=>
  obtain⟨i,rfl⟩:=hd
  refine⟨false,rfl,false,rfl,nofun,fun _=>?_⟩
  walk_at "ev"
  refine⟨false,rfl,?_⟩
  walk_at "ev"
  refine kf aE (d:= .tup [.str "num",.int i]) rfl ?_
  walk_at "ev"
  exact h _ (.one _ _)
 |true=>
  obtain⟨i,rfl⟩:=hd
  refine⟨false,rfl,false,rfl,nofun,fun _=>?_⟩
  walk_at "ev"
  refine⟨true,rfl,?_⟩
  walk_at "ev"
  refine kf aE (d:= .tup [.str "truth",.bl i]) rfl ?_
  walk_at "ev"
  exact h _ (.one _ _)
theorem so{kd:Kd}(ho:kd.ok){d:D}(hd:fits kd d)(h:∀st',Gr st st'→Q (eJ d) st'):Wv (calls tab (k+2) eL [d] st) Q:=by
 have long:∀xs:List D,xs.length≤6→(∀x∈xs,∃b,sc b x)→(∀st',Gr st st'→Q (eJ (.tup xs)) st')→Wv (calls tab (k+2) eL [.tup xs] st) Q:=fun xs hl hs h=>by
  walk_at "call0"
  refine cZ (o7 (aZ rfl ⟨true,rfl,true,rfl,fun _=>?_,nofun⟩))
  refine dn (cG (ag (ph (xs:=xs) (f:=nL) (fun q=>aZ rfl q) (by omega) ?_ ?_)))
  ·intro x hx st' g
   obtain⟨b,hb⟩:=hs x hx
   walk_at "ev"
   exact ln (k:=k) hb fun st1 g1=>⟨rfl,g.trans g1⟩
  ·intro st' g
   walk_at "ev"
   refine bW aE ?_
   walk_at "ev"
   exact h _ (g.more _)
 cases kd with
 |num=>
  obtain⟨i,rfl⟩:=hd
  exact ln (b:=false) (k:=k+1) ⟨i,rfl⟩ h
 |truth=>
  obtain⟨i,rfl⟩:=hd
  exact ln (b:=true) (k:=k+1) ⟨i,rfl⟩ h
 |row n=>
  obtain⟨xs,rfl,hs⟩:=hd
  refine long xs ?_ (fun x hx=>iw hs hx) h
  have:=cI hs
  simp[Kd.parts,Kd.ok] at this ho
  omega
 |rcd ps=>
  obtain⟨xs,rfl,hs⟩:=hd
  refine long xs ?_ (fun x hx=>iw hs hx) h
  have:=cI hs
  simp[Kd.parts,Kd.ok] at this ho
  omega
end
theorem pF:∀{fs:List (Str×D)}{f:Str}{v:D},(fs.map (·.1)).contains f=false→putD f v fs=fs++[(f,v)]
 |[],_,_,_=>rfl
 |(a,w)::r,f,v,h=>by
  simp only[List.map_cons,List.contains_cons,Bool.or_eq_false_iff] at h
  have hne:a≠f:=fun z=>by simp[z] at h
  simp[putD,hne,pF h.2]
theorem cq{Q:Fl→aS→Prop}{e:Ex}{f:Str}{cs ics:List Str}(h0:loc[0]? =some (some (.ref p)))
  (h:W (run g e loc st) fun d st1=>∃c fs,(st1[p]? =some (.ins c fs)∧fs.length<900∧c∈ics∧(fs.map (·.1)).contains f=false)∧W (execs g ss loc (st1.set p (.ins c (fs++[(f,d)])))) Q):W (execs g (.setf (.v 0) f e cs ics::ss) loc st) Q:=
 kX (h.mono fun d st1 ⟨c,fs,⟨hp,hl,hc,hk⟩,q⟩=>aZ h0 (kW hp ⟨hl,hc⟩ (by rw[pF hk];exact q)))
theorem gu{c f:Str}{fs:List (Str×D)}{ics:List Str}{P:Str→List (Str×D)→Prop}(hp:st1[p]? =some (.ins c fs))(q:P c fs)(hl:fs.length<900:=by simp)(hc:c∈ics:=by decide+kernel)(hk:(fs.map (·.1)).contains f=false:=by(simp only[List.nil_append,List.cons_append,List.map_cons,List.map_nil];decide+kernel)):∃c fs,(st1[p]? =some (.ins c fs)∧fs.length<900∧c∈ics∧(fs.map (·.1)).contains f=false)∧P c fs:=⟨c,fs,⟨hp,hl,hc,hk⟩,q⟩
section
variable{k:Nat}{st:aS}{Q:D→aS→Prop}{p:Nat}
theorem Ap{a c:D}{op:Str}(hp:st[p]? =some (.ins "Row" []))(hl:st[l]? =some (.lst xs))(hpl:p≠l)(h:Q .non (st.set p (.ins "Row" [("name",a),("op",.str op),("extra",c),("operands",.tup xs)]))):Wv (calls tab (k+1) oF [.ref p,a,.str op,c,.ref l] st) Q:=by
 walk_at "call0"
 have hlt:=(aA hp).1
 refine cq rfl (aZ rfl (gu (hp) ?_))
 refine cq rfl (aZ rfl (gu (bo hlt) ?_))
 rw[List.set_set]
 refine cq rfl (aZ rfl (gu (bo hlt) ?_))
 rw[List.set_set]
 refine cq rfl (cG (ag (aZ rfl (au (bW (by rw[ah hpl];exact hl) (gu (bo hlt) ?_))))))
 rw[List.set_set]
 exact aT (ck h)
theorem xY{a:D}(hp:st[p]? =some (.ins "Back" []))(h:Q .non (st.set p (.ins "Back" [("operand",a)]))):Wv (calls tab (k+1) mW [.ref p,a] st) Q:=by
 walk_at "call0"
 exact cq rfl (aZ rfl (gu hp (aT (ck h))))
theorem vM{b:Nat}(hp:st[p]? =some (.ins "Block" []))(ha:st[a]? =some (.lst xs))(hb:st[b]? =some (.lst ys))(h1:p≠a)(h2:p≠b)(h:Q .non (st.set p (.ins "Block" [("params",.tup xs),("rows",.tup ys),("end",e)]))):Wv (calls tab (k+1) lL [.ref p,.ref a,.ref b,e] st) Q:=by
 walk_at "call0"
 have hlt:=(aA hp).1
 refine cq rfl (cG (ag (aZ rfl (au (bW ha (gu (hp) ?_))))))
 refine cq rfl (cG (ag (aZ rfl (au (bW (by rw[ah h2];exact hb) (gu (bo hlt) ?_))))))
 rw[List.set_set]
 refine cq rfl (aZ rfl (gu (bo hlt) ?_))
 rw[List.set_set]
 exact aT (ck h)
theorem n5{b d:Nat}{kvs:List (Key×D)}(hp:st[p]? =some (.ins "Function" []))(ha:st[a]? =some (.lst xs))(hb:st[b]? =some (.lst ys))(hd:st[d]? =some (.dct kvs))(h1:p≠a)(h2:p≠b)(h3:p≠d)
  (h:Q .non ((st++[O.dct kvs,O.dct kvs]).set p (.ins "Function" [("takes",.tup xs),("gives",gv),("kinds",.ref st.length),("kept_kinds",.ref (st.length+1)),("blocks",.tup ys)]))):Wv (calls tab (k+1) iX [.ref p,.ref a,gv,.ref d,.ref b] st) Q:=by
 walk_at "call0"
 have hlt:=(aA hp).1
 refine cq rfl (cG (ag (aZ rfl (au (bW ha (gu (hp) ?_))))))
 refine cq rfl (aZ rfl (gu (bo hlt) ?_))
 rw[List.set_set]
 refine cq rfl (cG (ag (aZ rfl (au (i5 (by rw[ah h3];exact hd) (gu (aI (bo hlt)) ?_))))))
 rw[aF,aB _ _ (by rw[aF];exact hlt),List.set_set]
 refine cq rfl (cG (ag (aZ rfl (au (i5 (aI (by rw[ah h3];exact hd)) (gu (aI (aI (bo hlt))) ?_))))))
 rw[aB _ _ (by simp;omega),aB _ _ (by rw[aF];exact hlt),List.set_set]
 refine cq rfl (cG (ag (aZ rfl (au (bW (aI (aI (by rw[ah h2];exact hb))) (gu (aI (aI (bo hlt))) ?_))))))
 rw[aB _ _ (by simp;omega),aB _ _ (by rw[aF];exact hlt),List.set_set]
 refine aT (ck ?_)
 rw[aB _ _ hlt] at h
 simpa using h
theorem xX{d:Nat}{kvs:List (Key×D)}(hp:st[p]? =some (.ins "Code" []))(hd:st[d]? =some (.dct kvs))(h3:p≠d)
  (h:Q .non ((st++[O.dct kvs,O.dct kvs]).set p (.ins "Code" [("functions",.ref st.length),("kept_functions",.ref (st.length+1))]))):Wv (calls tab (k+1) mV [.ref p,.ref d] st) Q:=by
 walk_at "call0"
 have hlt:=(aA hp).1
 refine cq rfl (cG (ag (aZ rfl (au (i5 hd (gu (aI hp) ?_))))))
 rw[aB _ _ hlt]
 refine cq rfl (cG (ag (aZ rfl (au (i5 (aI (by rw[ah h3];exact hd)) (gu (aI (aI (bo hlt))) ?_))))))
 rw[aB _ _ (by simp;omega),aB _ _ (by rw[aF];exact hlt),List.set_set]
 refine aT (ck ?_)
 rw[aB _ _ hlt] at h
 simpa using h
end
theorem nG{a b c:Ex}(I:Nat→List D→Nat→List D→aS→Prop)
  (h:W (run g a loc st) fun d st1=>∃n xs,d=.ref n∧st1[n]? =some (.lst xs)∧xs.length≤1000000∧I n xs 0 [] st1∧(∀i acc st,I n xs i acc st→st[n]? =some (.lst xs))∧(∀i x acc st,xs[i]? =some x→I n xs i acc st→W (run g c (some (.int i)::some x::loc) st) fun z st1=>∃q,z=.bl q∧(q=true→W (run g b (some (.int i)::some x::loc) st1) fun y st2=>I n xs (i+1) (acc++[y]) st2)∧(q=false→I n xs (i+1) acc st1))∧∀acc st,I n xs xs.length acc st→Q (.ref st.length) (st++[.lst acc])):W (run g (.compEIf a c b) loc st) Q:=by
 rw[run]
 refine aK (h.mono fun d st1 ⟨n,xs,hd,hn,hl,h0,keep,step,fin⟩=>aK ?_)
 subst hd
 show W (cf _ (.en n) st1) Q
 refine ma hl hn (I n xs) h0 keep (fun i x acc st e q=>?_) fin
 refine aK ((step i x acc st e q).mono fun z st1 hp=>?_)
 obtain⟨q,hz,h1,h2⟩:=hp
 subst hz
 refine aK ?_
 cases q with
 |true=>exact aK ((h1 rfl).mono fun y st2 q=>q)
 |false=>exact h2 rfl
noncomputable def iK(st:aS)(n:Nat)(rs:List (Nat×Nat)):Prop:=∀r∈rs,r.2<n∧st[r.1]? =some (.ins "Row" [("name",.non),("op",.str "log"),("extra",.non),("operands",.tup [.tup [.str "name",.int r.2]])])
noncomputable def LastOk(n:Nat)(d:D):Prop:=(∃v,d=.tup [.str "num",.int v])∨∃j:Nat,j<n∧d=.tup [.str "name",.int j]
structure Cd(st:aS)(c f1 f2 fn bl en:Nat)(ks:List Kd)(rs:List (Nat×Nat))(last:D):Prop where
 code:st[c]? =some (.ins "Code" [("functions",.ref f1),("kept_functions",.ref f2)])
 d1:st[f1]? =some (.dct [(.inr "main",.ref fn)])
 d2:st[f2]? =some (.dct [(.inr "main",.ref fn)])
 fun_:∃gv a b,st[fn]? =some (.ins "Function" [("takes",.tup (ks.map Kd.d)),("gives",gv),("kinds",.ref a),("kept_kinds",.ref b),("blocks",.tup [.ref bl])])
 block:st[bl]? =some (.ins "Block" [("params",.tup (bp ks.length)),("rows",.tup (rs.map fun r=>.ref r.1)),("end",.ref en)])
 end_:st[en]? =some (.ins "Back" [("operand",last)])
 rows:iK st ks.length rs
 last:LastOk ks.length last
 many:rs.length≤4
theorem iK.gr(h:iK st n rs)(g:Gr st st'):iK st' n rs:=fun r hr=>⟨(h r hr).1,g.at (h r hr).2⟩
theorem Cd.gr{c en:Nat}{ks:List Kd}(h:Cd st c f1 f2 fn bl en ks rs last)(g:Gr st st'):Cd st' c f1 f2 fn bl en ks rs last:=
 ⟨g.at h.code,g.at h.d1,g.at h.d2,(let⟨a,b,d,e⟩:=h.fun_;⟨a,b,d,g.at e⟩),g.at h.block,g.at h.end_,h.rows.gr g,h.last,h.many⟩
theorem zI{kd:Kd}(h:Q (.str kd.hd) st):W (index kd.d (.int 0) st) Q:=by
 cases kd<;>exact fB rfl h
theorem wo{t:aS}{o:O}:Gr st (List.set (st++t) st.length o):=Ev.Gr.set ⟨t,rfl⟩ (af _)
section
variable{k:Nat}{st:aS}{Q:D→aS→Prop}
theorem xK{ks:List Kd}(hsp:st[sp]? =some (.lst (ks.map Kd.d)))(hl:ks.length≤4)(h:∀cp f1 f2 fn bl en rs last st',Gr st st'→Cd st' cp f1 f2 fn bl en ks rs last→Q (.ref cp) st'):Wv (calls tab (k+2) mP [.ref sp,.int c] st) Q:=by
 walk_at "call0"
 refine bu (nG (fun n xs i acc st'=>Gr st st'∧n=sp∧xs=ks.map Kd.d∧∃js:List Nat,acc=js.map (fun(j:Nat)=>D.int (j:Int))∧(∀j∈js,j<ks.length)∧js.length≤i) (aZ rfl ⟨sp,_,rfl,hsp,by simp;omega,⟨.refl _,rfl,rfl,[],rfl,by simp,af _⟩,?_,?_,?_⟩))
 ·rintro i acc st' ⟨g,_,_,_⟩
  exact g.at hsp
 ·rintro i x acc st' hx ⟨g,_,_,js,rfl,hj,hjl⟩
  rw[aM] at hx
  cases q:ks[i]? with
  |none=>rw[q] at hx;cases hx
  |some kd=>
   rw[q] at hx
   cases hx
   have hi:=(aA q).1
   walk_at "ev"
   refine zI ?_
   walk_at "ev"
   have hb:∃b,ig st' (.str kd.hd) [.str "num",.str "truth"]=some b:=by
    refine⟨("num"==kd.hd||("truth"==kd.hd||false)),?_⟩
    simp only[ig,eq_str]
   obtain⟨b,hb⟩:=hb
   simp only[bQ,cr,hb]
   refine⟨b,rfl,fun _=>aZ rfl ⟨g,by first|rfl|trivial,by first|rfl|trivial,js++[i],by simp,fun j hj'=>?_,by simp;omega⟩,fun _=>⟨g,by first|rfl|trivial,by first|rfl|trivial,js,rfl,hj,by omega⟩⟩
   rcases List.mem_append.mp hj' with z|z
   ·exact hj j z
   ·have:j=i:=by simpa using z
    omega
 rintro acc st1 ⟨g1,_,_,js,rfl,hj,hjl⟩
 rw[List.length_map] at hjl
 have gA:=g1.more (.lst (js.map fun(j:Nat)=>D.int (j:Int)))
 generalize hst2:st1++[O.lst (js.map fun(j:Nat)=>D.int (j:Int))]=st2 at gA
 have e2:st2[st1.length]? =some (.lst (js.map fun(j:Nat)=>D.int (j:Int))):=by rw[←hst2];exact aE
 have gsp:st2[sp]? =some (.lst (ks.map Kd.d)):=gA.at hsp
 refine bu (jo (aZ rfl ⟨.at st1.length,rfl,rJ (by simp;omega) e2 (fun i acc st'=>Gr st2 st'∧∃rs:List (Nat×Nat),acc=rs.map (fun r=>D.ref r.1)∧rs.length=i∧iK st' ks.length rs) ⟨.refl _,[],rfl,rfl,fun _ z=>nomatch z⟩ (fun i acc st' ⟨g,_⟩=>g.at e2) ?_ ?_⟩))
 ·rintro i x acc st' hx ⟨g,rs,rfl,hr,hrs⟩
  rw[aM] at hx
  cases q:js[i]? with
  |none=>rw[q] at hx;cases hx
  |some j=>
   rw[q] at hx
   cases hx
   have hjk:=hj j (al q)
   walk_at "ev"
   refine Ap (k:=k) aE (aI aE) (by simp) ⟨rfl,?_⟩
   rw[d7]
   have g3:Gr st' ((st'++[O.lst [.tup [.str "name",.int j]]])++[O.ins "Row" [("name",.non),("op",.str "log"),("extra",.non),("operands",.tup [.tup [.str "name",.int j]])]]):=(Gr.one _ _).more _
   refine⟨g.trans g3,rs++[((st'++[O.lst [.tup [.str "name",.int j]]]).length,j)],by simp,by simp[hr],fun r hrm=>?_⟩
   rcases List.mem_append.mp hrm with z|z
   ·exact hrs.gr g3 r z
   ·have:r=((st'++[O.lst [.tup [.str "name",.int j]]]).length,j):=by simpa using z
    subst this
    exact⟨hjk,aE⟩
 rintro acc st3 ⟨g3,rs,rfl,hrl,hrs⟩
 rw[List.length_map] at hrl
 have gB:=g3.more (.lst (rs.map fun r=>D.ref r.1))
 generalize hst4:st3++[O.lst (rs.map fun r=>D.ref r.1)]=st4 at gB
 have e4:st4[st3.length]? =some (.lst (rs.map fun r=>D.ref r.1)):=by rw[←hst4];exact aE
 have hrs4:iK st4 ks.length rs:=by rw[←hst4];exact hrs.gr (.one _ _)
 have g4:Gr st st4:=gA.trans gB
 have fin:∀(gv last:D)(st5:aS),Gr st st5→Gr st4 st5→LastOk ks.length last→W (execs (calls tab (k+1)) [.set 6 (.lst [(.new "Block" 25 [(.lrng (.bt .len [(.v 0)])),(.v 3),(.new "Back" 24 [(.v 5)])])]),.ret (.new "Code" 27 [(.dict ["main"] [(.new "Function" 26 [(.v 0),(.v 4),(.den (.v 0)),(.v 6)])])])] [some (.ref sp),some (.int c),some (.ref st1.length),some (.ref st3.length),some gv,some last,none] st5) (Kr Q):=by
  intro gv last st5 g5 g45 hlast
  walk_at "ev"
  refine eI (g5.at hsp) ⟨_,rfl,by simp;omega,?_⟩
  walk_at "ev"
  refine xY (k:=k) aE ⟨rfl,?_⟩
  rw[d7]
  have lk:(((ks.map Kd.d).length:Nat):Int).toNat=ks.length:=by simp
  rw[lk]
  have g6:Gr st5 ((st5++[O.lst (bp ks.length)])++[O.ins "Back" [("operand",last)]]):=(Gr.one _ _).more _
  have eA:((st5++[O.lst (bp ks.length)])++[O.ins "Back" [("operand",last)]])[st5.length]? =some (.lst (bp ks.length)):=aI aE
  have eB:((st5++[O.lst (bp ks.length)])++[O.ins "Back" [("operand",last)]])[(st5++[O.lst (bp ks.length)]).length]? =some (.ins "Back" [("operand",last)]):=aE
  generalize (st5++[O.lst (bp ks.length)]).length=en at eB ⊢
  generalize (st5++[O.lst (bp ks.length)])++[O.ins "Back" [("operand",last)]]=st6 at g6 eA eB ⊢
  have l6:=g6.le
  have l4:=(aA ((g45.trans g6).at e4)).1
  walk_at "ev"
  refine vM (k:=k) aE (aI eA) (aI ((g45.trans g6).at e4)) (aR (aA eA).1) (aR l4) ⟨rfl,?_⟩
  rw[d7]
  have g7:Gr st6 (st6++[O.ins "Block" [("params",.tup (bp ks.length)),("rows",.tup (rs.map fun r=>D.ref r.1)),("end",.ref en)]]):=Gr.one _ _
  have eC:(st6++[O.ins "Block" [("params",.tup (bp ks.length)),("rows",.tup (rs.map fun r=>D.ref r.1)),("end",.ref en)]])[st6.length]? =some (.ins "Block" [("params",.tup (bp ks.length)),("rows",.tup (rs.map fun r=>D.ref r.1)),("end",.ref en)]):=aE
  generalize st6++[O.ins "Block" [("params",.tup (bp ks.length)),("rows",.tup (rs.map fun r=>D.ref r.1)),("end",.ref en)]]=st7 at g7 eC ⊢
  generalize st6.length=bl at eC ⊢
  refine au ?_
  have g57:=g6.trans g7
  refine dn (l9 (ag (xl ?_)))
  walk_at "ev"
  refine⟨sp,_,rfl,aI (g57.at (g5.at hsp)),?_⟩
  walk_at "ev"
  have g8:Gr st7 ((st7++[O.lst [.ref bl]])++[O.dct ((ks.map Kd.d).zipIdx.map fun q=>(Sum.inl (q.2:Int),q.1))]):=(Gr.one _ _).more _
  have eD:((st7++[O.lst [.ref bl]])++[O.dct ((ks.map Kd.d).zipIdx.map fun q=>(Sum.inl (q.2:Int),q.1))])[st7.length]? =some (.lst [.ref bl]):=aI aE
  have eE:((st7++[O.lst [.ref bl]])++[O.dct ((ks.map Kd.d).zipIdx.map fun q=>(Sum.inl (q.2:Int),q.1))])[(st7++[O.lst [.ref bl]]).length]? =some (.dct ((ks.map Kd.d).zipIdx.map fun q=>(Sum.inl (q.2:Int),q.1))):=aE
  generalize (st7++[O.lst [.ref bl]])++[O.dct ((ks.map Kd.d).zipIdx.map fun q=>(Sum.inl (q.2:Int),q.1))]=st8 at g8 eD eE ⊢
  generalize (st7++[O.lst [.ref bl]]).length=kd at eE ⊢
  have g58:=g57.trans g8
  have lt:=fun{i:Nat}{o:O}(e:st8[i]? =some o)=>aR (aA e).1
  refine n5 (k:=k) aE (aI (g58.at (g5.at hsp))) (aI eD) (aI eE) (lt (g58.at (g5.at hsp))) (lt eD) (lt eE) ⟨rfl,?_⟩
  have g9:Gr st8 (List.set (st8++[O.ins "Function" []]++[O.dct ((ks.map Kd.d).zipIdx.map fun q=>(Sum.inl (q.2:Int),q.1)),O.dct ((ks.map Kd.d).zipIdx.map fun q=>(Sum.inl (q.2:Int),q.1))]) st8.length (O.ins "Function" [("takes",.tup (ks.map Kd.d)),("gives",gv),("kinds",.ref (st8++[O.ins "Function" []]).length),("kept_kinds",.ref ((st8++[O.ins "Function" []]).length+1)),("blocks",.tup [.ref bl])])):=by
   rw[List.append_assoc]
   exact wo
  have eF:(List.set (st8++[O.ins "Function" []]++[O.dct ((ks.map Kd.d).zipIdx.map fun q=>(Sum.inl (q.2:Int),q.1)),O.dct ((ks.map Kd.d).zipIdx.map fun q=>(Sum.inl (q.2:Int),q.1))]) st8.length (O.ins "Function" [("takes",.tup (ks.map Kd.d)),("gives",gv),("kinds",.ref (st8++[O.ins "Function" []]).length),("kept_kinds",.ref ((st8++[O.ins "Function" []]).length+1)),("blocks",.tup [.ref bl])]))[st8.length]? =some (O.ins "Function" [("takes",.tup (ks.map Kd.d)),("gives",gv),("kinds",.ref (st8++[O.ins "Function" []]).length),("kept_kinds",.ref ((st8++[O.ins "Function" []]).length+1)),("blocks",.tup [.ref bl])]):=bo (by simp)
  generalize List.set (st8++[O.ins "Function" []]++[O.dct ((ks.map Kd.d).zipIdx.map fun q=>(Sum.inl (q.2:Int),q.1)),O.dct ((ks.map Kd.d).zipIdx.map fun q=>(Sum.inl (q.2:Int),q.1))]) st8.length _=st9 at g9 eF ⊢
  generalize st8.length=fn at eF ⊢
  refine au ⟨⟨rfl,by simp⟩,au ?_⟩
  show Wv (calls tab (k+1) 27 [.ref (st9++[O.dct [(Sum.inr "main",.ref fn)]]).length,.ref st9.length] ((st9++[O.dct [(Sum.inr "main",.ref fn)]])++[.ins "Code" []])) _
  refine xX (k:=k) aE (aI aE) (by simp) ⟨rfl,?_⟩
  have gX:Gr st9 (List.set (st9++[O.dct [(Sum.inr "main",.ref fn)]]++[O.ins "Code" []]++[O.dct [(Sum.inr "main",.ref fn)],O.dct [(Sum.inr "main",.ref fn)]]) (st9++[O.dct [(Sum.inr "main",.ref fn)]]).length (O.ins "Code" [("functions",.ref (st9++[O.dct [(Sum.inr "main",.ref fn)]]++[O.ins "Code" []]).length),("kept_functions",.ref ((st9++[O.dct [(Sum.inr "main",.ref fn)]]++[O.ins "Code" []]).length+1))])):=by
   refine Ev.Gr.set ⟨[O.dct [(Sum.inr "main",.ref fn)],O.ins "Code" [],O.dct [(Sum.inr "main",.ref fn)],O.dct [(Sum.inr "main",.ref fn)]],by simp⟩ (by simp)
  have g19:=g58.trans g9
  have gZ:=g19.trans gX
  refine h _ _ _ fn bl en rs last _ (g5.trans gZ) ⟨bo (by simp),?_,?_,⟨_,_,_,gX.at eF⟩,(g8.trans (g9.trans gX)).at eC,(g7.trans (g8.trans (g9.trans gX))).at eB,hrs4.gr (g45.trans gZ),hlast,by omega⟩
  ·rw[ah (by simp)]
   exact j4
  ·rw[ah (by simp)]
   exact xp
 have g5:Gr st4 (st4++[O.lst []]):= .one _ _
 have hs5:=g5.at (g4.at hsp)
 have num:∀st5,Gr st4 st5→W (execs (calls tab (k+1)) [.set 6 (.lst [(.new "Block" 25 [(.lrng (.bt .len [(.v 0)])),(.v 3),(.new "Back" 24 [(.v 5)])])]),.ret (.new "Code" 27 [(.dict ["main"] [(.new "Function" 26 [(.v 0),(.v 4),(.den (.v 0)),(.v 6)])])])] [some (.ref sp),some (.int c),some (.ref st1.length),some (.ref st3.length),some (.tup [.str "num"]),some (.tup [.str "num",.int (c % 100)]),none] st5) (Kr Q):=fun st5 g=>fin _ _ st5 (g4.trans g) g (.inl ⟨_,rfl⟩)
 walk_at "ev"
 refine l_ (k:=ks.isEmpty) ?_ ⟨!ks.isEmpty,rfl,fun hk=>?_,fun hk=>?_⟩
 ·have e1:shape (st4++[O.lst []]) (.ref sp)=some (.l (ks.map Kd.d)):=by simp only[shape,hs5]
  have e2:shape (st4++[O.lst []]) (.ref st4.length)=some (.l []):=by simp only[shape,aE]
  unfold cY
  rw[e1,e2]
  cases ks<;>rfl
 ·have hk0:0<ks.length:=by cases ks with
   |nil=>cases hk
   |cons _ _=>simp
  walk_at "ev"
  refine⟨_,rfl,fun _=>?_,fun _=>?_⟩
  ·walk_at "ev"
   refine eI hs5 ?_
   refine w_mod (by simp;omega) ?_
   walk_at "ev"
   have hb:0≤c / 300 % ((ks.map Kd.d).length:Int)∧c / 300 % ((ks.map Kd.d).length:Int)<((ks.map Kd.d).length:Int):=⟨Int.emod_nonneg _ (by rw[List.length_map];omega),aY _ (by rw[List.length_map];omega)⟩
   refine db hs5 hb.1 hb.2 fun d _ _=>?_
   refine aT (bq (fin d _ _ (g4.trans g5) g5 (.inr ⟨(c / 300 % ((ks.map Kd.d).length:Int)).toNat,?_,?_⟩)))
   ·have:=hb.2
    simp only[List.length_map] at this hb ⊢
    omega
   ·rw[show(((c / 300 % ((ks.map Kd.d).length:Int)).toNat:Nat):Int)=c / 300 % ((ks.map Kd.d).length:Int) by omega]
  ·exact aT (bq (num _ g5))
 ·refine⟨false,rfl,nofun,fun _=>?_⟩
  exact aT (bq (num _ g5))
end
section
variable{k:Nat}{st:aS}{Q:Rs→aS→Prop}
noncomputable def oW(st:aS)(n:Nat)(d:D):Prop:=∃m,st[n]? =some (.err "NoInput" (some m) true)∧st[m]? =some (.edc [("place",d)])
theorem jw{d:D}{Q:Nat→aS→Prop}(h:∀n st',Gr st st'→oW st' n d→Q n st'):W (jB (calls tab (k+1)) "NoInput" jI [d] st) Q:=by
 refine o0 ?_
 walk_at "call0"
 refine kX (aZ rfl (aZ rfl (uP (by decide+kernel) (aT (ck ⟨rfl,_,j4,?_⟩)))))
 rw[cH]
 exact h _ _ ⟨_,rfl⟩ ⟨_,j4,xp⟩
theorem si{Q:Nat→aS→Prop}(h:∀n st',Gr st st'→st'[n]? =some (.err "NoBudget" none true)→Q n st'):W (jB (calls tab (k+1)) "NoBudget" iW [] st) Q:=by
 refine o0 ?_
 walk_at "call0"
 refine rC (aT (ck ⟨rfl,_,aE,?_⟩))
 show Q st.length (List.set (st++[O.err "NoBudget" none false]) st.length (O.err "NoBudget" none true))
 rw[d7]
 exact h _ _ ⟨_,rfl⟩ aE
theorem vD{m:Nat}{d:D}(hd:cb st .list d=some false∨∃v ds,d=.ref v∧st[v]? =some (.lst ds)∧ds.length≠m)(h:∀n st',Gr st st'→oW st' n .non→Q (.x n) st'):W (calls tab (k+2) fZ [.int m,d] st) Q:=by
 walk_at "callx0"
 refine cZ ?_
 walk_at "ev"
 rcases hd with hd|⟨v,ds,rfl,hv,hl⟩
 ·refine⟨false,hd,false,rfl,?_⟩
  refine⟨true,rfl,fun _=>?_,nofun⟩
  refine⟨true,rfl,fun _=>?_,nofun⟩
  refine kY (ag (bz (au (jw (k:=k) fun n st' g e=>?_))))
  exact h n st' g e
 ·refine⟨true,by simp only[cb,hv],true,rfl,?_⟩
  refine⟨false,rfl,nofun,fun _=>?_⟩
  walk_at "ev"
  refine eI hv ?_
  walk_at "ev"
  refine⟨true,by simp;omega,fun _=>?_,nofun⟩
  refine kY (ag (bz (au (jw (k:=k) fun n st' g e=>?_))))
  exact h n st' g e
theorem vE{ds:List D}(hv:st[v]? =some (.lst ds))(h:Q (.v .non) st):W (calls tab (k+1) fZ [.int ds.length,.ref v] st) Q:=by
 walk_at "callx0"
 refine cZ ?_
 walk_at "ev"
 refine⟨true,by simp only[cb,hv],true,rfl,?_⟩
 refine⟨false,rfl,nofun,fun _=>?_⟩
 walk_at "ev"
 refine eI hv ?_
 walk_at "ev"
 refine⟨false,by simp,nofun,fun _=>?_⟩
 exact aT (bq (aT (tI h)))
theorem vA{ks:List Kd}{d b:D}(hd:cb st .list d=some false∨∃v ds,d=.ref v∧st[v]? =some (.lst ds)∧ds.length≠ks.length)(h:∀n st',Gr st st'→oW st' n .non→Q (.x n) st'):W (calls tab (k+3) cL [.tup (ks.map Kd.d),d,b] st) Q:=by
 walk_at "callx0"
 refine d6 (ag (cG (ag (aZ rfl (au (jk (ag (aZ rfl (au ?_)))))))))
 rw[List.length_map]
 refine vD (k:=k) hd fun n st' g e=>?_
 exact h n st' g e
theorem lm{ks:List Kd}{ds:List D}{b:D}{at_:Nat}(hok:∀kd∈ks,Kd.ok kd)(hv:st[v]? =some (.lst ds))(hl:ds.length=ks.length)(hf:∀i kd d,i<at_→ks[i]? =some kd→ds[i]? =some d→fits kd d)(ha:at_≤ks.length)
  (hb:∀kd d st',ks[at_]? =some kd→ds[at_]? =some d→Gr st st'→Wv (calls tab (k+3) ce [d,kd.d] st') (fun r st''=>r=.bl false∧Gr st' st'')∧∀n st',Gr st st'→oW st' n (.int at_)→Q (.x n) st')
  (hr:at_=ks.length→∀loc st',Gr st st'→(∃x y,loc=[some (.tup (ks.map Kd.d)),some (.ref v),some b,x,y])→W (execs (calls tab (k+3)) (bU.body.drop 2) loc st') (Kx Q)):W (calls tab (k+4) cL [.tup (ks.map Kd.d),.ref v,b] st) Q:=by
 walk_at "callx0"
 refine d6 (ag (cG (ag (aZ rfl (au (jk (ag (aZ rfl (au ?_)))))))))
 rw[List.length_map,←hl]
 refine vE (k:=k+2) hv ?_
 show W (execs _ _ _ st) _
 refine uS (fun xs i loc st'=>Gr st st'∧xs=ks.map Kd.d∧i≤at_∧∃x y,loc=[some (.tup (ks.map Kd.d)),some (.ref v),some b,x,y]) ?_
 refine aZ rfl ⟨_,rfl,⟨.refl _,rfl,by omega,_,_,rfl⟩,?_,?_⟩
 ·rintro i x loc st' hx ⟨g,_,hi,a1,a2,rfl⟩
  rw[aM] at hx
  cases q:ks[i]? with
  |none=>rw[q] at hx;cases hx
  |some kd=>
   rw[q] at hx
   cases hx
   have hik:=(aA q).1
   have hd:ds[i]? =some ds[i]:=aC (by omega)
   walk_at "ev"
   obtain⟨d,e1,e2⟩:=iI (xs:=ds) (i:=(i:Int)) (by omega) (by omega)
   have:d=ds[i]:=by
    rw[Int.toNat_natCast,hd] at e2
    exact(aj e2).symm
   subst this
   refine kf (g.at hv) e1 ?_
   walk_at "ev"
   by_cases hlt:i<at_
   ·refine Ak (k:=k) (hok kd (al q)) (hf i kd _ hlt q hd) fun st2 g2=>?_
    refine⟨true,rfl,?_⟩
    refine⟨false,rfl,nofun,fun _=>?_⟩
    exact aT ⟨g.trans g2,rfl,hlt,_,_,rfl⟩
   ·have:i=at_:=by omega
    subst this
    obtain⟨h1,h2⟩:=hb kd _ st' q hd g
    refine h1.mono fun r st2 ⟨e3,g2⟩=>?_
    subst e3
    refine⟨false,rfl,?_⟩
    refine⟨true,rfl,fun _=>?_,nofun⟩
    refine kY (ag (aZ rfl (au (jw (k:=k+2) fun n st3 g3 e=>?_))))
    exact h2 n st3 (g.trans (g2.trans g3)) e
 ·rintro loc st' ⟨g,_,hi,hloc⟩
  rw[List.length_map] at hi
  exact hr (by omega) loc st' g hloc
end
theorem tY{Q:Fl→aS→Prop}{d:D}(h:W (execs g ss loc st) Q):W (qP .no loc (.v d) st) (Kn g ss Q):=h
theorem fY{t:Ty}{d:D}(h:cb st t d=some b)(g:Gr st st'):cb st' t d=some b:=by
 cases d with
 |ref n=>
  simp only[cb] at h ⊢
  cases e:st[n]? with
  |none=>rw[e] at h;cases h
  |some o=>rw[g.at e];rw[e] at h;exact h
 |_=>exact h
theorem nV{d:D}(h:mo st b d=some r)(g:Gr st st'):mo st' b d=some r:=by
 cases b with
 |true=>exact fY (show cb st .bool d=some r from h) g
 |false=>
  cases ha:cb st .int d with
  |none=>simp[mo,ha] at h
  |some a=>
   cases hb:cb st .bool d with
   |none=>simp[mo,ha,hb] at h
   |some c=>
    simp only[mo,fY ha g,fY hb g]
    simpa[mo,ha,hb] using h
noncomputable def nA(st:aS)(b:D):Prop:=mo st false b=some false∨∃i,b=.int i∧¬(0≤i∧i≤10000)
section
variable{k:Nat}{st:aS}{Q:Rs→aS→Prop}{ks:List Kd}{v:Nat}{ds:List D}{b:D}
noncomputable def da(ks:List Kd)(ds:List D):Prop:=ds.length=ks.length∧∀(i:Nat)(kd:Kd)(d:D),ks[i]? =some kd→ds[i]? =some d→fits kd d
theorem xS(hb:nA st b)(h:∀n st',Gr st st'→st'[n]? =some (.err "NoBudget" none true)→Q (.x n) st'):W (calls tab (k+2) gC [b] st) Q:=by
 walk_at "callx0"
 refine cZ (w_or (w_not (dv (ag (aZ rfl (au ?_))))))
 have fin:W (execs (calls tab (k+1)) [.rais "NoBudget" 22 []] [some b] st) (Kn (calls tab (k+1)) [] (Kx Q)):=kY (au (si (k:=k) fun n st2 g2 e=>h n st2 g2 e))
 rcases hb with hb|⟨i,rfl,hi⟩
 ·refine i8 (k:=k) hb ⟨false,rfl,?_⟩
  refine⟨true,rfl,fun _=>?_,nofun⟩
  exact⟨true,rfl,fun _=>fin,nofun⟩
 ·refine i8 (k:=k) (r:=true) rfl ⟨true,rfl,?_⟩
  refine⟨false,rfl,nofun,fun _=>?_⟩
  walk_at "ev"
  refine⟨_,rfl,fun h1=>?_,fun h1=>?_⟩
  ·have h1:=of_decide_eq_true h1
   walk_at "ev"
   refine⟨_,rfl,?_⟩
   refine⟨true,by simp;omega,fun _=>fin,nofun⟩
  ·refine⟨false,rfl,?_⟩
   exact⟨true,rfl,fun _=>fin,nofun⟩
theorem xR(hb:0≤i∧i≤10000)(h:Q (.v .non) st):W (calls tab (k+2) gC [.int i] st) Q:=by
 walk_at "callx0"
 refine cZ (w_or (w_not (dv (ag (aZ rfl (au ?_))))))
 refine i8 (k:=k) (r:=true) rfl ⟨true,rfl,?_⟩
 refine⟨false,rfl,nofun,fun _=>?_⟩
 walk_at "ev"
 refine⟨true,by simp;omega,fun _=>?_,nofun⟩
 walk_at "ev"
 refine⟨true,by simp;omega,?_⟩
 refine⟨false,rfl,nofun,fun _=>?_⟩
 exact aT (bq (aT (tI h)))
theorem vC(hok:∀kd∈ks,Kd.ok kd)(hv:st[v]? =some (.lst ds))(hf:da ks ds)(hb:nA st b)(h:∀n st',Gr st st'→st'[n]? =some (.err "NoBudget" none true)→Q (.x n) st'):W (calls tab (k+4) cL [.tup (ks.map Kd.d),.ref v,b] st) Q:=by
 refine lm (at_:=ks.length) hok hv hf.1 (fun i kd d _ h1 h2=>hf.2 i kd d h1 h2) (af _) (fun kd d st' q=>by simp at q) fun _ loc st' g hloc=>?_
 obtain⟨x,y,rfl⟩:=hloc
 dsimp only[bU,List.drop]
 refine d6 (ag (aZ rfl (au ?_)))
 refine xS (k:=k+1) ?_ fun n st2 g2 e=>h n st2 (g.trans g2) e
 rcases hb with hb|hb
 ·exact .inl (nV hb g)
 ·exact .inr hb
theorem vB(hok:∀kd∈ks,Kd.ok kd)(hv:st[v]? =some (.lst ds))(hf:da ks ds)(hb:0≤i∧i≤10000)(h:∀st',Gr st st'→Q (.v .non) st'):W (calls tab (k+4) cL [.tup (ks.map Kd.d),.ref v,.int i] st) Q:=by
 refine lm (at_:=ks.length) hok hv hf.1 (fun i kd d _ h1 h2=>hf.2 i kd d h1 h2) (af _) (fun kd d st' q=>by simp at q) fun _ loc st' g hloc=>?_
 obtain⟨x,y,rfl⟩:=hloc
 dsimp only[bU,List.drop]
 refine d6 (ag (aZ rfl (au ?_)))
 refine xR (k:=k+1) hb ?_
 exact tY (aT (tI (h st' g)))
end
section
variable{k:Nat}{st:aS}{Q:D→aS→Prop}{p:Nat}
theorem vL{b:D}(hp:st[p]? =some (.ins "BlockRunner" []))(h:Q .non ((st++[O.lst []]).set p (.ins "BlockRunner" [("budget",b),("log",.ref st.length),("took",.int 0),("steps",.int 0),("ending",.non),("thing",.non)]))):Wv (calls tab (k+1) lK [.ref p,b] st) Q:=by
 walk_at "call0"
 have hlt:=(aA hp).1
 refine cq rfl (aZ rfl (gu hp ?_))
 refine cq rfl (bX (au (gu (aI (bo hlt)) ?_)))
 rw[aF,aB _ _ (by rw[aF];exact hlt),List.set_set]
 have nx:∀{fs fs':List (Str×D)},(List.set st p (.ins "BlockRunner" fs)++[O.lst []])[p]? =some (.ins "BlockRunner" fs):=aI (bo hlt)
 refine cq rfl (bz (gu (aI (bo hlt)) ?_))
 rw[aB _ _ (by rw[aF];exact hlt),List.set_set]
 refine cq rfl (bz (gu (aI (bo hlt)) ?_))
 rw[aB _ _ (by rw[aF];exact hlt),List.set_set]
 refine cq rfl (bz (gu (aI (bo hlt)) ?_))
 rw[aB _ _ (by rw[aF];exact hlt),List.set_set]
 refine cq rfl (bz (gu (aI (bo hlt)) ?_))
 rw[aB _ _ (by rw[aF];exact hlt),List.set_set]
 refine aT (ck ?_)
 rw[aB _ _ hlt] at h
 exact h
theorem xW{b:D}(h:Q .non (st++[O.ins "BlockRunner" [("budget",b),("log",.ref (st.length+1)),("took",.int 0),("steps",.int 0),("ending",.non),("thing",.non),("frames",.ref (st.length+2))],.lst [],.lst []])):Wv (calls tab (k+2) mU [.ref st.length,b] (st++[.ins "BlockRunner" []])) Q:=by
 obtain⟨s0,hs0⟩:∃s0,s0=st++[O.ins "BlockRunner" []]:=⟨_,rfl⟩
 rw[←hs0]
 walk_at "call0"
 rw[hs0]
 refine il (dv (ag (aZ rfl (ag (aZ rfl (au (vL (k:=k) aE ?_)))))))
 rw[List.append_assoc,show [O.ins "BlockRunner" []]++[O.lst []]=[O.ins "BlockRunner" [],O.lst []] from rfl,cH]
 have e:(st++[O.ins "BlockRunner" []]).length=st.length+1:=by simp
 rw[e]
 refine cq rfl (bX (au (gu (aI j4) ?_)))
 refine aT (ck ?_)
 rw[aB _ _ (by simp),cH]
 have e2:∀a b:O,(st++[a,b]).length=st.length+2:=fun a b=>by simp
 rw[e2]
 simpa using h
theorem nP{a b c d:O}:(st++[a,b,c]).set st.length d=st++[d,b,c]:=by simp
theorem rQ{a b c:O}:(st++[a,b,c])[st.length]? =some a:=by simp
theorem sC{b c:D}(h:Q .non (st++[O.ins "BlockRunner" [("budget",b),("log",.ref (st.length+1)),("took",.int 0),("steps",.int 0),("ending",.non),("thing",.non),("frames",.ref (st.length+2)),("code",c)],.lst [],.lst []])):Wv (calls tab (k+3) gM [.ref st.length,c,b] (st++[.ins "BlockRunner" []])) Q:=by
 obtain⟨s0,hs0⟩:∃s0,s0=st++[O.ins "BlockRunner" []]:=⟨_,rfl⟩
 rw[←hs0]
 walk_at "call0"
 rw[hs0]
 refine il (dv (ag (aZ rfl (ag (aZ rfl (au (xW (k:=k) ?_)))))))
 refine cq rfl (aZ rfl (gu rQ ?_))
 rw[nP]
 exact aT (ck h)
end
theorem pR:∀{fs:List (Str×D)}{m:Str},(fs.map (·.1)).contains m=false→fs.lookup m=none
 |[],_,_=>rfl
 |(a,w)::r,m,h=>by
  simp only[List.map_cons,List.contains_cons,Bool.or_eq_false_iff] at h
  simp only[List.lookup_cons,h.1]
  exact pR h.2
theorem lk:∀{fs:List (Str×D)}{f:Str}{d:D}(i:Nat),fs[i]? =some (f,d)→((fs.take i).map (·.1)).contains f=false→fs.lookup f=some d
 |(a,w)::r,f,d,0,h,_=>by simp at h;obtain⟨rfl,rfl⟩:=h;simp[List.lookup_cons]
 |(a,w)::r,f,d,i+1,h,k=>by
  simp only[List.take_succ_cons,List.map_cons,List.contains_cons,Bool.or_eq_false_iff] at k
  simp only[List.lookup_cons,k.1]
  exact lk i (by simpa using h) k.2
theorem eZ{c f:Str}{fs:List (Str×D)}{ics:List Str}{d:D}{P:D→Prop}(hp:st1[p]? =some (.ins c fs))(i:Nat)(hi:fs[i]? =some (f,d))(q:P d)(hc:c∈ics:=by decide+kernel)(hk:((fs.take i).map (·.1)).contains f=false:=by(simp only[List.nil_append,List.cons_append,List.take_succ_cons,List.take_zero,List.map_cons,List.map_nil];decide+kernel)):∃n c fs d,D.ref p=.ref n∧st1[n]? =some (.ins c fs)∧fs.lookup f=some d∧c∈ics∧P d:=⟨p,c,fs,d,rfl,hp,lk i hi hk,hc,q⟩
theorem nB{c m:Str}{fs:List (Str×D)}{ms:List (Str×Nat)}{P:Nat→Nat→Prop}(hp:st1[p]? =some (.ins c fs))(hj:ms.lookup c=some j)(q:P p j)(hk:(fs.map (·.1)).contains m=false:=by(simp only[List.nil_append,List.cons_append,List.map_cons,List.map_nil];decide+kernel)):∃n c fs j,D.ref p=.ref n∧st1[n]? =some (.ins c fs)∧fs.lookup m=none∧ms.lookup c=some j∧P n j:=⟨p,c,fs,j,rfl,hp,pR hk,hj,q⟩
noncomputable def kv(ds:List D):List (Key×D):=ds.zipIdx.map fun q=>((Sum.inl (q.2:Int):Key),q.1)
theorem pT:∀(ds:List D)(k j:Nat),io ((ds.zipIdx k).map fun q=>((Sum.inl (q.2:Int):Key),q.1)) (.inl ((k+j:Nat):Int))=ds[j]?
 |[],k,j=>by simp[io]
 |d::ds,k,0=>by simp[io]
 |d::ds,k,j+1=>by
  have:¬((Sum.inl (k:Int):Key)=.inl ((k+(j+1):Nat):Int)):=fun z=>by
   have:=Sum.inl.inj z
   omega
  simp only[List.zipIdx_cons,List.map_cons,io,this,if_false,List.getElem?_cons_succ]
  have:=pT ds (k+1) j
  rw[show k+1+j=k+(j+1) by omega] at this
  exact this
theorem yF{ds:List D}{j:Nat}:io (kv ds) (.inl (j:Int))=ds[j]?:=by
 have:=pT ds 0 j
 rw[Nat.zero_add] at this
 exact this
theorem yE{ds:List D}{i:Nat}{d:D}(h:ds[i]? =some d):jx (kv (ds.take i)) (.inl (i:Int)) d=kv (ds.take (i+1)):=by
 have hi:=(aA h).1
 have hlen:(ds.take i).length=i:=by simp;omega
 unfold jx kv
 rw[if_neg ?_,List.take_succ,h,List.zipIdx_append,List.map_append,hlen]
 ·simp
 ·intro hc
  obtain⟨q,hq,hq2⟩:=List.any_eq_true.mp hc
  obtain⟨p,hp,rfl⟩:=List.mem_map.mp hq
  have hp2:=List.mem_zipIdx hp
  have:=Sum.inl.inj (of_decide_eq_true hq2)
  omega
section
variable{k:Nat}{st:aS}{Q:D→aS→Prop}
theorem xQ{S H en:Nat}{tk ra rb rows:D}{ds:List D}(hS:st[S]? =some (.ins "Stay" [("function",.ref fn),("have",.ref H)]))(hH:st[H]? =some (.dct []))(hf:st[fn]? =some (.ins "Function" [("takes",tk),("gives",gv),("kinds",ra),("kept_kinds",rb),("blocks",.tup [.ref bl])]))
  (hb:st[bl]? =some (.ins "Block" [("params",.tup (bp ds.length)),("rows",rows),("end",.ref en)])) (hv:st[v]? =some (.lst ds))(h1:S≠H)(h2:S≠fn)(h3:S≠bl)(h4:S≠v)(h5:H≠v)(hl:ds.length≤4)
  (h:Q .non ((st.set S (.ins "Stay" [("function",.ref fn),("have",.ref H),("rows",rows),("end",.ref en)])).set H (.dct (kv ds)))):Wv (calls tab (k+1) jH [.ref S,.int 0,.ref v] st) Q:=by
 walk_at "call0"
 have hlt:=(aA hS).1
 have hlH:=(aA hH).1
 refine bu (dq (bf (bf (aZ rfl (eZ hS 0 rfl (eZ hf 4 rfl (aZ rfl (fB rfl ?_))))))))
 refine cq rfl (bf (aZ rfl (eZ hb 1 rfl (gu hS ?_))))
 refine cq rfl (bf (aZ rfl (eZ (p:=bl) (by rw[ah h3];exact hb) 2 rfl (gu (bo hlt) ?_))))
 rw[List.set_set]
 obtain⟨sA,hsA⟩:∃sA,sA=st.set S (.ins "Stay" [("function",.ref fn),("have",.ref H),("rows",rows),("end",.ref en)]):=⟨_,rfl⟩
 have eS:sA[S]? =some (.ins "Stay" [("function",.ref fn),("have",.ref H),("rows",rows),("end",.ref en)]):=by rw[hsA];exact bo hlt
 have ne:∀{i:Nat},S≠i→sA[i]? =st[i]?:=fun{i} hi=>by rw[hsA,ah hi]
 rw[←hsA] at h
 show W (execs _ _ _ (List.set st S (.ins "Stay" [("function",.ref fn),("have",.ref H),("rows",rows),("end",.ref en)]))) _
 rw[←hsA]
 refine xj (fun ts m xs i loc st'=>st'=sA.set H (.dct (kv (ds.take i)))∧ts=bp ds.length∧m=v∧xs=ds∧∃x y,loc=[some (.ref S),some (.int 0),some (.ref v),some (.ref bl),x,y]) ?_
 refine bf (aZ rfl (eZ ((ne h3).trans hb) 0 rfl (aZ rfl ⟨_,v,ds,rfl,rfl,(ne h4).trans hv,by rw[dS],⟨?_,rfl,rfl,rfl,_,_,rfl⟩,?_,?_,?_⟩)))
 ·have:sA[H]? =some (.dct (kv (ds.take 0))):=(ne h1).trans hH
  apply List.ext_getElem?
  intro i
  by_cases hi:H=i
  ·subst hi
   rw[this,bo (by rw[hsA,aF];exact hlH)]
  ·rw[ah hi]
 ·rintro i loc st' ⟨rfl,_⟩
  rw[ah h5]
  exact(ne h4).trans hv
 ·rintro i t x loc st' ht hx ⟨rfl,_,_,_,a,b,rfl⟩
  have:t=.int i:=by
   unfold bp at ht
   rw[aM] at ht
   cases q:(List.range ds.length)[i]? with
   |none=>rw[q] at ht;cases ht
   |some j=>
    rw[q] at ht
    have:j=i:=by
     have:=aA q
     obtain⟨_,e⟩:=this
     simpa using e.symm
    subst this
    exact(aj ht).symm
  subst this
  have hlH2:H<sA.length:=by rw[hsA,aF];exact hlH
  refine oY (aZ rfl (bf (aZ rfl (eZ (p:=S) (by rw[ah (Ne.symm h1)];exact eS) 1 rfl (aZ rfl (nE (bo hlH2) rfl ?_ ?_))))))
  ·simp[kv]
   omega
  ·rw[List.set_set,yE hx]
   exact aT ⟨rfl,rfl,rfl,rfl,_,_,rfl⟩
 ·rintro loc st' ⟨rfl,_⟩
  rw[List.take_length]
  exact aT (ck h)
end
section
variable{k:Nat}{st:aS}{Q:D→aS→Prop}
variable{cp f1 f2 fn bl en v:Nat}{ks:List Kd}{rs:List (Nat×Nat)}{last:D}{ds:List D}
theorem pv(hC:Cd st cp f1 f2 fn bl en ks rs last)(h:Q (.ref fn) st):Wv (calls tab (k+1) fL [.ref cp,.str "main"] st) Q:=by
 walk_at "call0"
 exact dn (dq (bf (aZ rfl (eZ hC.code 1 rfl (aZ rfl (wQ hC.d2 (by simp[io]) h))))))
theorem xV(hC:Cd st cp f1 f2 fn bl en ks rs last)(hv:st[v]? =some (.lst ds))(hl:ds.length=ks.length)(h4:ds.length≤4)
  (h:Q .non (st++[O.ins "Stay" [("function",.ref fn),("have",.ref (st.length+1)),("rows",.tup (rs.map fun r=>D.ref r.1)),("end",.ref en)],.dct (kv ds)])):Wv (calls tab (k+2) mR [.ref st.length,.ref fn,.ref v] (st++[.ins "Stay" []])) Q:=by
 obtain⟨s0,hs0⟩:∃s0,s0=st++[O.ins "Stay" []]:=⟨_,rfl⟩
 rw[←hs0]
 walk_at "call0"
 rw[hs0]
 have lt:=fun{i:Nat}{o:O}(e:st[i]? =some o)=>(aA e).1
 obtain⟨gv,ra,rb,hf⟩:=hC.fun_
 have b1:=lt hf
 have b2:=lt hC.block
 have b3:=lt hv
 refine cq rfl (aZ rfl (gu aE ?_))
 rw[d7]
 refine cq rfl (pc (gu (aI aE) ?_))
 have e1:∀a:O,(st++[a]).length=st.length+1:=fun a=>by simp
 rw[e1,List.append_assoc,show ∀a b:O,[a]++[b]=[a,b] from fun _ _=>rfl,cH]
 refine il (cm (aZ rfl (nB j4 rfl (ag (bz (ag (aZ rfl (au ?_))))))))
 have hb:=hC.block
 rw[←hl] at hb
 refine xQ (k:=k) (H:=st.length+1) j4 xp (aI hf) (aI hb) (aI hv) (by omega) (by omega) (by omega) (by omega) (by omega) h4 ?_
 rw[cH,rY]
 exact aT (ck h)
structure Rn(b st:aS)(bud:D)(steps:Int)(ending thing:D)(logs eX:List D)(cp fn:Nat)(sb:D×Nat)(ds:List D):Prop where
 gr:Gr b st
 br:st[b.length]? =some (.ins "BlockRunner" [("budget",bud),("log",.ref (b.length+1)),("took",.int 0),("steps",.int steps),("ending",ending),("thing",thing),("frames",.ref (b.length+2)),("code",.ref cp)])
 lg:st[b.length+1]? =some (.lst logs)
 fr:st[b.length+2]? =some (.lst eX)
 sy:st[b.length+3]? =some (.ins "Stay" [("function",.ref fn),("have",.ref (b.length+4)),("rows",sb.1),("end",.ref sb.2)])
 hv:st[b.length+4]? =some (.dct (kv ds))
variable{b:aS}{bud:D}
theorem Rn.more{b st:aS}{bud:D}{eX:List D}{cp fn:Nat}{ds:List D}(h:Rn b st bud steps ending thing logs eX cp fn sb ds)(g:Gr st st'):Rn b st' bud steps ending thing logs eX cp fn sb ds:=
 ⟨h.gr.trans g,g.at h.br,g.at h.lg,g.at h.fr,g.at h.sy,g.at h.hv⟩
theorem Rn.brs{b st:aS}{bud:D}{steps':Int}{ending' thing':D}{eX:List D}{cp fn:Nat}{ds:List D}(h:Rn b st bud steps ending thing logs eX cp fn sb ds):Rn b (st.set b.length (.ins "BlockRunner" [("budget",bud),("log",.ref (b.length+1)),("took",.int 0),("steps",.int steps'),("ending",ending'),("thing",thing'),("frames",.ref (b.length+2)),("code",.ref cp)])) bud steps' ending' thing' logs eX cp fn sb ds:=
 ⟨h.gr.set (af _),bo (aA h.br).1,by rw[ah (by omega)];exact h.lg,by rw[ah (by omega)];exact h.fr,by rw[ah (by omega)];exact h.sy,by rw[ah (by omega)];exact h.hv⟩
theorem Rn.lgs{b st:aS}{bud:D}{logs' eX:List D}{cp fn:Nat}{ds:List D}(h:Rn b st bud steps ending thing logs eX cp fn sb ds):Rn b (st.set (b.length+1) (.lst logs')) bud steps ending thing logs' eX cp fn sb ds:=
 ⟨h.gr.set (by omega),by rw[ah (by omega)];exact h.br,bo (aA h.lg).1,by rw[ah (by omega)];exact h.fr,by rw[ah (by omega)];exact h.sy,by rw[ah (by omega)];exact h.hv⟩
theorem Rn.frs'{b st:aS}{bud:D}{steps:Int}{ending thing:D}{logs eX frs':List D}{cp fn:Nat}{sb:D×Nat}{ds:List D}(h:Rn b st bud steps ending thing logs eX cp fn sb ds):Rn b (st.set (b.length+2) (.lst frs')) bud steps ending thing logs frs' cp fn sb ds:=
 ⟨h.gr.set (by omega),by rw[ah (by omega)];exact h.br,by rw[ah (by omega)];exact h.lg,bo (aA h.fr).1,by rw[ah (by omega)];exact h.sy,by rw[ah (by omega)];exact h.hv⟩
theorem vK(hC:Cd b cp f1 f2 fn bl en ks rs last)(hv:b[v]? =some (.lst ds))(hl:ds.length=ks.length)(h4:ds.length≤4)
  (h:∀st',Rn b st' bud 0 .non .non [] [.ref (b.length+3)] cp fn (.tup (rs.map fun r=>D.ref r.1),en) ds→Q .non st'):
  Wv (calls tab (k+3) gt [.ref b.length,.str "main",.ref v] (b++[O.ins "BlockRunner" [("budget",bud),("log",.ref (b.length+1)),("took",.int 0),("steps",.int 0),("ending",.non),("thing",.non),("frames",.ref (b.length+2)),("code",.ref cp)],.lst [],.lst []])) Q:=by
 obtain⟨s0,hs0⟩:∃s0,s0=b++[O.ins "BlockRunner" [("budget",bud),("log",.ref (b.length+1)),("took",.int 0),("steps",.int 0),("ending",.non),("thing",.non),("frames",.ref (b.length+2)),("code",.ref cp)],.lst [],.lst []]:=⟨_,rfl⟩
 have l0:s0.length=b.length+3:=by rw[hs0];simp
 have g0:Gr b s0:=⟨_,hs0⟩
 have q0:s0[b.length]? =some (O.ins "BlockRunner" [("budget",bud),("log",.ref (b.length+1)),("took",.int 0),("steps",.int 0),("ending",.non),("thing",.non),("frames",.ref (b.length+2)),("code",.ref cp)]):=by rw[hs0];simp
 have q1:s0[b.length+1]? =some (.lst []):=by rw[hs0];simp
 have q2:s0[b.length+2]? =some (.lst []):=by rw[hs0];simp
 rw[←hs0]
 walk_at "call0"
 refine me (bf (aZ rfl (eZ q0 6 rfl (gf q2 ?_))))
 refine l9 (ag (cm (bf (aZ rfl (eZ q0 7 rfl (nB (g0.at hC.code) rfl ?_))))))
 refine ag (aZ rfl (au ?_))
 refine pv (k:=k+1) (hC.gr g0) ?_
 refine ag (aZ rfl (au ?_))
 refine xV (k:=k) (hC.gr g0) (g0.at hv) hl h4 ⟨rfl,?_⟩
 rw[l0]
 refine eR (aI q2) (by simp) (aT (ck (h _ ?_)))
 have l1:b.length+2<(s0++[O.ins "Stay" [("function",.ref fn),("have",.ref (b.length+3+1)),("rows",.tup (rs.map fun r=>D.ref r.1)),("end",.ref en)],.dct (kv ds)]).length:=by simp[l0]
 refine⟨Ev.Gr.set (g0.trans ⟨_,rfl⟩) (by omega),?_,?_,bo l1,?_,?_⟩
 ·rw[ah (by omega)];exact aI q0
 ·rw[ah (by omega)];exact aI q1
 ·rw[ah (by omega),aQ (by omega)]
  simp[l0]
 ·rw[ah (by omega),aQ (by omega)]
  simp[l0]
end
theorem qx{R:Nat}{s':Int}{t:D}:putD "steps" (.int s') ([("budget",bud),("log",.ref (R+1)),("took",.int 0),("steps",.int s),("ending",e),("thing",t),("frames",.ref (R+2)),("code",.ref cp)]:List (Str×D))=([("budget",bud),("log",.ref (R+1)),("took",.int 0),("steps",.int s'),("ending",e),("thing",t),("frames",.ref (R+2)),("code",.ref cp)]:List (Str×D)):=by
 unfold putD;rw[if_neg (by decide+kernel)]
 unfold putD;rw[if_neg (by decide+kernel)]
 unfold putD;rw[if_neg (by decide+kernel)]
 unfold putD;rw[if_pos rfl]
theorem n_{R:Nat}{e' t:D}:putD "ending" e' ([("budget",bud),("log",.ref (R+1)),("took",.int 0),("steps",.int s),("ending",e),("thing",t),("frames",.ref (R+2)),("code",.ref cp)]:List (Str×D))=([("budget",bud),("log",.ref (R+1)),("took",.int 0),("steps",.int s),("ending",e'),("thing",t),("frames",.ref (R+2)),("code",.ref cp)]:List (Str×D)):=by
 unfold putD;rw[if_neg (by decide+kernel)]
 unfold putD;rw[if_neg (by decide+kernel)]
 unfold putD;rw[if_neg (by decide+kernel)]
 unfold putD;rw[if_neg (by decide+kernel)]
 unfold putD;rw[if_pos rfl]
theorem qw{R:Nat}{t t':D}:putD "thing" t' ([("budget",bud),("log",.ref (R+1)),("took",.int 0),("steps",.int s),("ending",e),("thing",t),("frames",.ref (R+2)),("code",.ref cp)]:List (Str×D))=([("budget",bud),("log",.ref (R+1)),("took",.int 0),("steps",.int s),("ending",e),("thing",t'),("frames",.ref (R+2)),("code",.ref cp)]:List (Str×D)):=by
 unfold putD;rw[if_neg (by decide+kernel)]
 unfold putD;rw[if_neg (by decide+kernel)]
 unfold putD;rw[if_neg (by decide+kernel)]
 unfold putD;rw[if_neg (by decide+kernel)]
 unfold putD;rw[if_neg (by decide+kernel)]
 unfold putD;rw[if_pos rfl]
theorem rq{b:aS}{Q:Fl→aS→Prop}{eX:List D}{ds:List D}(h0:loc[0]? =some (some (.ref b.length)))(hR:Rn b st bud steps ending thing logs eX cp fn sb ds)
  (h:∀st',Rn b st' bud (steps+1) ending thing logs eX cp fn sb ds→W (execs g ss loc st') Q):W (execs g (.augf (.v 0) "steps" (.c (.int 1)) ["Run","BlockRunner"]::ss) loc st) Q:=by
 refine xn (aZ h0 ⟨_,_,_,steps,rfl,hR.br,lk 3 rfl (by simp only[List.take_succ_cons,List.take_zero,List.map_cons,List.map_nil];decide+kernel),by decide+kernel,bz ⟨1,_,rfl,hR.br,by simp,?_⟩⟩)
 rw[qx]
 exact h _ hR.brs
section
variable{k:Nat}{b st:aS}{Q:D→aS→Prop}{bud:D}{steps:Int}{ending thing:D}{logs eX:List D}{cp fn:Nat}{sb:D×Nat}{ds:List D}
theorem sf{d:D}(hR:Rn b st bud steps ending thing logs eX cp fn sb ds)(hd:ds[j]? =some d)(h:Q d st):Wv (calls tab (k+1) fC [.ref (b.length+3),.tup [.str "name",.int j]] st) Q:=by
 walk_at "call0"
 refine dn (rG ?_)
 walk_at "ev"
 refine w_eq (k:=true) (by rw[eq_str];decide+kernel) ⟨true,rfl,fun _=>?_,nofun⟩
 refine dq (bf (aZ rfl (eZ hR.sy 1 rfl ?_)))
 walk_at "ev"
 exact xi hR.hv (by rw[yF];exact hd) h
theorem xz(h:Q (.int i) st){S:Nat}:Wv (calls tab (k+1) fC [.ref S,.tup [.str "num",.int i]] st) Q:=by
 walk_at "call0"
 refine dn (rG ?_)
 walk_at "ev"
 refine w_eq (k:=false) (by rw[eq_str];decide+kernel) ⟨false,rfl,nofun,fun _=>?_⟩
 walk_at "ev"
 exact h
theorem vo{kd:Kd}(ho:kd.ok){d:D}(hd:fits kd d)(hl:logs.length<1000)(hR:Rn b st bud steps ending thing logs eX cp fn sb ds)(h:∀st',Rn b st' bud steps ending thing (logs++[eJ d]) eX cp fn sb ds→Q .non st'):Wv (calls tab (k+3) j8 [.ref b.length,d] st) Q:=by
 walk_at "call0"
 refine me (bf (aZ rfl (eZ hR.br 1 rfl (gf hR.lg (dv (ag (aZ rfl (au ?_))))))))
 refine wU (k:=k) ho hd fun st1 g1=>?_
 have hR1:=hR.more g1
 exact eR hR1.lg (by omega) (aT (ck (h _ hR1.lgs)))
theorem vI{kd:Kd}(ho:kd.ok){d:D}{r:Nat}(hd:fits kd d)(hj:ds[j]? =some d)(hl:logs.length<1000)(hR:Rn b st bud steps ending thing logs eX cp fn sb ds)(hr:st[r]? =some (.ins "Row" [("name",.non),("op",.str "log"),("extra",.non),("operands",.tup [.tup [.str "name",.int j]])]))
  (h:∀st',Rn b st' bud steps ending thing (logs++[eJ d]) eX cp fn sb ds→Q .non st'):Wv (calls tab (k+4) f8 [.ref b.length,.ref (b.length+3),.ref r] st) Q:=by
 walk_at "call0"
 refine cZ (bZ (bf (aZ rfl (eZ hr 1 rfl (bz ?_)))))
 refine w_eq (k:=false) (by rw[eq_str];decide+kernel) ⟨false,rfl,nofun,fun _=>?_⟩
 refine cZ (bZ (bf (aZ rfl (eZ hr 1 rfl (bz ?_)))))
 refine w_eq (k:=true) (by rw[eq_str];decide+kernel) ⟨true,rfl,fun _=>?_,nofun⟩
 refine il (cm (aZ rfl (nB hR.br rfl ?_)))
 refine ag (cm (aZ rfl (nB hR.sy rfl ?_)))
 refine ag (dq (bf (aZ rfl (eZ hr 3 rfl (bz (fB rfl (au ?_)))))))
 refine sf (k:=k+2) hR hj (au ?_)
 refine vo (k:=k) ho hd hl hR fun st' hR'=>?_
 exact aT (bq (aT (bq (aT (ck (h st' hR'))))))
theorem sB{kd:Kd}(ho:kd.ok){d:D}(hd:fits kd d)(hR:Rn b st bud steps ending thing logs eX cp fn sb ds)(h:∀st',Rn b st' bud steps (.str "answer") (eJ d) logs eX cp fn sb ds→Q .non st'):Wv (calls tab (k+3) jJ [.ref b.length,d] st) Q:=by
 walk_at "call0"
 refine kX (bz (aZ rfl (kW hR.br ⟨by simp,by decide+kernel⟩ ?_)))
 rw[n_]
 have hR1:Rn b _ bud steps (.str "answer") thing logs eX cp fn sb ds:=hR.brs
 generalize List.set st b.length (O.ins "BlockRunner" [("budget",bud),("log",.ref (b.length+1)),("took",.int 0),("steps",.int steps),("ending",.str "answer"),("thing",thing),("frames",.ref (b.length+2)),("code",.ref cp)])=s1 at hR1 ⊢
 refine kX (dv (ag (aZ rfl (au (wU (k:=k) ho hd fun st2 g2=>?_)))))
 have hR2:=hR1.more g2
 refine aZ rfl (kW hR2.br ⟨by simp,by decide+kernel⟩ ?_)
 rw[qw]
 exact aT (ck (h _ hR2.brs))
theorem qv(hR:Rn b st bud steps ending thing logs [x] cp fn sb ds)(h:∀st',Rn b st' bud steps ending thing logs [] cp fn sb ds→Q .non st'):Wv (calls tab (k+1) iV [.ref b.length] st) Q:=by
 walk_at "call0"
 refine il (xf (bf (aZ rfl (eZ hR.br 6 rfl ⟨_,_,_,rfl,hR.fr,rfl,?_⟩))))
 have hR1:Rn b _ bud steps ending thing logs [] cp fn sb ds:=hR.frs'
 exact aT (ck (h _ hR1))
theorem vG{kd:Kd}(ho:kd.ok){d:D}(hd:fits kd d)(hR:Rn b st bud steps ending thing logs [x] cp fn sb ds)(h:∀st',Rn b st' bud steps (.str "answer") (eJ d) logs [] cp fn sb ds→Q .non st'):Wv (calls tab (k+4) lI [.ref b.length,d] st) Q:=by
 walk_at "call0"
 refine il (cm (aZ rfl (nB hR.br rfl (au (qv (k:=k+2) hR fun s1 hR1=>?_)))))
 refine cZ (bZ (cG (ag (bf (aZ rfl (eZ hR1.br 6 rfl (au (eI hR1.fr (bz ?_)))))))))
 refine o_ ⟨true,rfl,fun _=>?_,nofun⟩
 refine il (cm (aZ rfl (nB hR1.br rfl (ag (aZ rfl (au ?_))))))
 refine sB (k:=k) ho hd hR1 fun st' hR'=>?_
 exact aT (bq (aT (ck (h st' hR'))))
end
noncomputable def LV(ds:List D)(last d:D):Prop:=(∃v,last=.tup [.str "num",.int v]∧d=.int v)∨∃j:Nat,last=.tup [.str "name",.int j]∧ds[j]? =some d
noncomputable def b6(ds:List D)(rs:List (Nat×Nat)):List D:=rs.map fun r=>eJ (ds.getD r.2 .non)
section
variable{k:Nat}{b st:aS}{Q:D→aS→Prop}{bud:D}{steps:Int}{ending thing:D}{logs:List D}{cp f1 f2 fn bl en:Nat}{sb:D×Nat}{ds:List D}{ks:List Kd}{rs:List (Nat×Nat)}{last d x:D}{kd:Kd}
theorem vJ(ho:kd.ok)(hd:fits kd d)(hL:LV ds last d)(hR:Rn b st bud steps ending thing logs [x] cp fn sb ds)(he:st[en]? =some (.ins "Back" [("operand",last)]))(h:∀st',Rn b st' bud steps (.str "answer") (eJ d) logs [] cp fn sb ds→Q .non st'):Wv (calls tab (k+5) f9 [.ref b.length,.ref (b.length+3),.ref en] st) Q:=by
 walk_at "call0"
 refine cZ (rE (aZ rfl ⟨_,_,_,false,rfl,he,nofun,fun _=>⟨by decide+kernel,by decide+kernel⟩,false,rfl,nofun,fun _=>?_⟩))
 refine cZ (rE (aZ rfl ⟨_,_,_,false,rfl,he,nofun,fun _=>⟨by decide+kernel,by decide+kernel⟩,false,rfl,nofun,fun _=>?_⟩))
 refine cZ (rE (aZ rfl ⟨_,_,_,true,rfl,he,fun _=>by decide+kernel,nofun,true,rfl,fun _=>?_,nofun⟩))
 refine il (cm (aZ rfl (nB hR.br rfl ?_)))
 refine ag (cm (aZ rfl (nB hR.sy rfl ?_)))
 refine ag (bf (aZ rfl (eZ he 0 rfl (au ?_))))
 have fin:W (runs (calls tab (k+4)) [] [some (.ref b.length),some (.ref (b.length+3)),some (.ref en)] st) fun ds' st2=>Wv (calls tab (k+4) 39 (.ref b.length::d::ds') st2) fun _ st1=>W (execs (calls tab (k+4)) [] [some (.ref b.length),some (.ref (b.length+3)),some (.ref en)] st1) (Kn (calls tab (k+4)) [] (Kn (calls tab (k+4)) [] (Kn (calls tab (k+4)) [] (Kr Q)))):=by
  refine au (vG (k:=k) ho hd hR fun st' hR'=>?_)
  exact aT (bq (aT (bq (aT (bq (aT (ck (h st' hR'))))))))
 rcases hL with⟨v,rfl,rfl⟩|⟨j,rfl,hj⟩
 ·exact xz (k:=k+3) fin
 ·exact sf (k:=k+3) hR hj fin
theorem xM(hok:∀kd∈ks,Kd.ok kd)(hf:da ks ds)(ho:kd.ok)(hd:fits kd d)(hL:LV ds last d)(hC:Cd b cp f1 f2 fn bl en ks rs last)(hR:Rn b st bud 0 .non .non [] [.ref (b.length+3)] cp fn (.tup (rs.map fun r=>D.ref r.1),en) ds)(h:∀st',Rn b st' bud (rs.length+1) (.str "answer") (eJ d) (b6 ds rs) [] cp fn (.tup (rs.map fun r=>D.ref r.1),en) ds→Q .non st'):Wv (calls tab (k+6) lJ [.ref b.length] st) Q:=by
 walk_at "call0"
 refine bu (dq (bf (aZ rfl (eZ hR.br 6 rfl (oZ (bz ⟨1,rfl,kf hR.fr rfl ?_⟩))))))
 refine zK (fun xs i loc st'=>xs=rs.map (fun r=>D.ref r.1)∧Rn b st' bud i .non .non (b6 ds (rs.take i)) [.ref (b.length+3)] cp fn (.tup (rs.map fun r=>D.ref r.1),en) ds∧∃y,loc=[some (.ref b.length),some (.ref (b.length+3)),y]) ?_
 refine bf (aZ rfl (eZ hR.sy 2 rfl ⟨_,rfl,⟨rfl,hR,_,rfl⟩,?_,?_⟩))
 ·rintro i x loc st' hx ⟨_,hR',y,rfl⟩
  rw[aM] at hx
  cases q:rs[i]? with
  |none=>rw[q] at hx;cases hx
  |some r=>
   rw[q] at hx
   cases hx
   have hi:=(aA q).1
   obtain⟨hr1,hr2⟩:=hC.rows r (al q)
   have hk':ks[r.2]? =some ks[r.2]:=aC hr1
   have hd':ds[r.2]? =some (ds.getD r.2 .non):=by
    have:r.2<ds.length:=by rw[hf.1];exact hr1
    simp[this]
   refine rq rfl hR' fun st1 hR1=>?_
   refine il (cm (aZ rfl (nB hR1.br rfl (ag (aZ rfl (ag (aZ rfl (au ?_))))))))
   refine vI (k:=k+1) (hok _ (al hk')) (hf.2 _ _ _ hk' hd') hd' (by have:=hC.many;simp[b6];omega) hR1 (hR1.gr.at hr2) fun st2 hR2=>?_
   refine cZ (bZ (bf (aZ rfl (eZ hR2.br 4 rfl (bz (uQ (k:=true) rfl ⟨false,rfl,nofun,fun _=>?_⟩))))))
   refine aT (bq (aT ⟨rfl,?_,_,rfl⟩))
   have e1:b6 ds (rs.take (i+1))=b6 ds (rs.take i)++[eJ (ds.getD r.2 .non)]:=by
    unfold b6
    rw[List.take_succ,q]
    simp
   rw[e1]
   exact hR2
 ·rintro loc st' ⟨_,hR',y,rfl⟩
  rw[List.length_map,List.take_length] at hR'
  refine rq rfl hR' fun st1 hR1=>?_
  refine il (cm (aZ rfl (nB hR1.br rfl (ag (aZ rfl (ag (bf (aZ rfl (eZ hR1.sy 3 rfl (au ?_))))))))))
  refine vJ (k:=k) ho hd hL hR1 (hR1.gr.at hC.end_) fun st2 hR2=>?_
  exact aT (ck (h st2 hR2))
end
section
variable{k:Nat}{b st:aS}{Q:D→aS→Prop}{bud:D}{steps:Int}{ending thing:D}{logs eX:List D}{cp fn:Nat}{sb:D×Nat}{ds:List D}
noncomputable def mr(ending thing:D)(l:Nat)(logs:List D)(steps:Int):List (Str×D):=[("ending",ending),("thing",thing),("log",.ref l),("kept_log",.tup logs),("took",.int 0),("steps",.int steps)]
theorem Ao(hl:st[l]? =some (.lst logs))(h:Q .non (st++[O.ins "Run" (mr ending thing (st.length+1) logs steps),.lst logs])):Wv (calls tab (k+1) oE [.ref st.length,ending,thing,.ref l,.int 0,.int steps] (st++[.ins "Run" []])) Q:=by
 obtain⟨s0,hs0⟩:∃s0,s0=st++[O.ins "Run" []]:=⟨_,rfl⟩
 rw[←hs0]
 walk_at "call0"
 rw[hs0]
 have e1:∀a:O,(st++[a]).length=st.length+1:=fun a=>by simp
 refine cq rfl (aZ rfl (gu aE ?_))
 rw[d7]
 refine cq rfl (aZ rfl (gu aE ?_))
 rw[d7]
 refine cq rfl (cG (ag (aZ rfl (au (iY (aI hl) (gu (aI aE) ?_))))))
 rw[e1,List.append_assoc,show ∀a b:O,[a]++[b]=[a,b] from fun _ _=>rfl,cH]
 refine cq rfl (cG (ag (aZ rfl (au (bW (aI hl) (gu j4 ?_))))))
 rw[cH]
 refine cq rfl (aZ rfl (gu j4 ?_))
 rw[cH]
 refine cq rfl (aZ rfl (gu j4 ?_))
 rw[cH]
 exact aT (ck h)
theorem vH(hR:Rn b st bud steps ending thing logs eX cp fn sb ds)(h:∀n l st',Gr st st'→st'[n]? =some (.ins "Run" (mr ending thing l logs steps))→Q (.ref n) st'):Wv (calls tab (k+2) j9 [.ref b.length] st) Q:=by
 walk_at "call0"
 refine dn (l9 ?_)
 refine ag (bf (aZ rfl (eZ hR.br 4 rfl ?_)))
 refine ag (bf (aZ rfl (eZ hR.br 5 rfl ?_)))
 refine ag (bf (aZ rfl (eZ hR.br 1 rfl ?_)))
 refine ag (bf (aZ rfl (eZ hR.br 2 rfl ?_)))
 refine ag (bf (aZ rfl (eZ hR.br 3 rfl (au ?_))))
 exact Ao (k:=k) hR.lg ⟨rfl,h _ _ _ ⟨_,rfl⟩ j4⟩
theorem xD(hn:st[n]? =some (.ins "Run" (mr ending thing l logs steps)))(h:Q (.tup [ending,thing,.tup logs,.int 0]) st):Wv (calls tab (k+1) oC [.ref n] st) Q:=by
 unfold mr at hn
 walk_at "call0"
 refine dn (fQ ?_)
 refine ag (bf (aZ rfl (eZ hn 0 rfl ?_)))
 refine ag (bf (aZ rfl (eZ hn 1 rfl ?_)))
 refine ag (bf (aZ rfl (eZ hn 3 rfl ?_)))
 refine ag (bf (aZ rfl (eZ hn 4 rfl (au ?_))))
 exact h
end
section
variable{k:Nat}{b:aS}{Q:D→aS→Prop}{cp f1 f2 fn bl en v:Nat}{ds:List D}{ks:List Kd}{rs:List (Nat×Nat)}{last d:D}{kd:Kd}{i:Int}
theorem Ag(hok:∀kd∈ks,Kd.ok kd)(hf:da ks ds)(h4:ks.length≤4)(ho:kd.ok)(hd:fits kd d)(hL:LV ds last d)(hC:Cd b cp f1 f2 fn bl en ks rs last)(hv:b[v]? =some (.lst ds))
  (h:∀n l st',Gr b st'→st'[n]? =some (.ins "Run" (mr (.str "answer") (eJ d) l (b6 ds rs) (rs.length+1)))→Q (.ref n) st'):Wv (calls tab (k+7) f7 [.ref b.length,.ref v] (b++[O.ins "BlockRunner" [("budget",.int i),("log",.ref (b.length+1)),("took",.int 0),("steps",.int 0),("ending",.non),("thing",.non),("frames",.ref (b.length+2)),("code",.ref cp)],.lst [],.lst []])) Q:=by
 obtain⟨s0,hs0⟩:∃s0,s0=b++[O.ins "BlockRunner" [("budget",.int i),("log",.ref (b.length+1)),("took",.int 0),("steps",.int 0),("ending",.non),("thing",.non),("frames",.ref (b.length+2)),("code",.ref cp)],.lst [],.lst []]:=⟨_,rfl⟩
 rw[←hs0]
 walk_at "call0"
 have hB:s0[b.length]? =some (.ins "BlockRunner" [("budget",.int i),("log",.ref (b.length+1)),("took",.int 0),("steps",.int 0),("ending",.non),("thing",.non),("frames",.ref (b.length+2)),("code",.ref cp)]):=by rw[hs0];simp
 refine il (cm (aZ rfl (nB hB rfl (ag (bz (ag (aZ rfl (au ?_))))))))
 rw[hs0]
 refine vK (k:=k+3) hC hv hf.1 (by rw[hf.1];exact h4) fun st2 hR2=>?_
 refine xc (fun m loc st'=>loc=[some (.ref b.length),some (.ref v)]∧((m=1∧Rn b st' (.int i) 0 .non .non [] [.ref (b.length+3)] cp fn (.tup (rs.map fun r=>D.ref r.1),en) ds)∨(m=0∧Rn b st' (.int i) (rs.length+1) (.str "answer") (eJ d) (b6 ds rs) [] cp fn (.tup (rs.map fun r=>D.ref r.1),en) ds))) 1 (by decide) ⟨rfl,.inl ⟨rfl,hR2⟩⟩ ?_
 rintro m loc st' ⟨rfl,⟨rfl,hR⟩|⟨rfl,hR⟩⟩
 ·refine bZ (bf (aZ rfl (eZ hR.br 4 rfl (bz (w_is (k:=true) rfl ⟨true,rfl,fun _=>⟨0,rfl,?_⟩,nofun⟩)))))
  refine il (cm (aZ rfl (nB hR.br rfl (au ?_))))
  refine xM (k:=k) hok hf ho hd hL hC hR fun st3 hR3=>?_
  exact aT ⟨rfl,.inr ⟨rfl,hR3⟩⟩
 ·refine bZ (bf (aZ rfl (eZ hR.br 4 rfl (bz (w_is (k:=false) rfl ⟨false,rfl,nofun,fun _=>?_⟩)))))
  refine dn (cm (aZ rfl (nB hR.br rfl (au ?_))))
  refine vH (k:=k+4) hR fun n l st3 g3 e3=>?_
  exact h n l st3 (hR.gr.trans g3) e3
end
section
variable{k:Nat}{st:aS}{Q:Rs→aS→Prop}{cp f1 f2 fn bl en v:Nat}{ds:List D}{ks:List Kd}{rs:List (Nat×Nat)}{last d b x:D}{kd:Kd}{i:Int}
theorem lj(hC:Cd st cp f1 f2 fn bl en ks rs last)(h:W (calls tab (k+7) cL [.tup (ks.map Kd.d),x,b] st) fun r st1=>W (qP .no [some (.ref cp),some x,some b] r st1) (Kn (calls tab (k+7)) (ci.body.drop 1) (Kx Q))):W (calls tab (k+8) bT [.ref cp,x,b] st) Q:=by
 walk_at "callx0"
 obtain⟨gv,ra,rb,hfn⟩:=hC.fun_
 refine d6 (ag (bf (cm (aZ rfl (nB hC.code rfl (ag (bz (au (pv (k:=k+6) hC (eZ hfn 0 rfl ?_))))))))))
 exact ag (aZ rfl (ag (aZ rfl (au h))))
theorem Af(hok:∀kd∈ks,Kd.ok kd)(hf:da ks ds)(h4:ks.length≤4)(ho:kd.ok)(hd:fits kd d)(hL:LV ds last d)(hC:Cd st cp f1 f2 fn bl en ks rs last)(hv:st[v]? =some (.lst ds))(hi:0≤i∧i≤10000)
  (h:∀n l st',Gr st st'→st'[n]? =some (.ins "Run" (mr (.str "answer") (eJ d) l (b6 ds rs) (rs.length+1)))→Q (.v (.ref n)) st'):W (calls tab (k+8) bT [.ref cp,.ref v,.int i] st) Q:=by
 refine lj (k:=k) hC (vB (k:=k+3) hok hv hf hi fun st1 g1=>tY ?_)
 have hC1:=hC.gr g1
 dsimp only[ci,List.drop]
 refine dn (cm (l9 (ag (aZ rfl (ag (aZ rfl (au (sC (k:=k+4) ⟨rfl,?_⟩))))))))
 refine nB rQ rfl (ag (aZ rfl (au ?_)))
 refine Ag (k:=k) hok hf h4 ho hd hL hC1 (g1.at hv) fun n l st3 g3 e3=>?_
 exact h n l st3 (g1.trans g3) e3
theorem jN{Q:Fl→aS→Prop}{st:aS}{k:Tg}(h:Q (.ex n loc) st):W (qP k loc (.x n) st) (Kn g ss Q):=h
theorem xF(hC:Cd st cp f1 f2 fn bl en ks rs last)(hx:cb st .list x=some false∨∃v ds,x=.ref v∧st[v]? =some (.lst ds)∧ds.length≠ks.length)(h:∀n st',Gr st st'→oW st' n .non→Q (.x n) st'):W (calls tab (k+8) bT [.ref cp,x,b] st) Q:=
 lj (k:=k) hC (vA (k:=k+4) hx fun n st' g e=>jN (tJ (h n st' g e)))
theorem xG(hok:∀kd∈ks,Kd.ok kd)(hf:da ks ds)(hC:Cd st cp f1 f2 fn bl en ks rs last)(hv:st[v]? =some (.lst ds))(hb:nA st b)(h:∀n st',Gr st st'→st'[n]? =some (.err "NoBudget" none true)→Q (.x n) st'):W (calls tab (k+8) bT [.ref cp,.ref v,b] st) Q:=
 lj (k:=k) hC (vC (k:=k+3) hok hv hf hb fun n st' g e=>jN (tJ (h n st' g e)))
theorem xE{at_:Nat}(hok:∀kd∈ks,Kd.ok kd)(hC:Cd st cp f1 f2 fn bl en ks rs last)(hv:st[v]? =some (.lst ds))(hl:ds.length=ks.length)(hf:∀i kd d,i<at_→ks[i]? =some kd→ds[i]? =some d→fits kd d)(ha:at_<ks.length)
  (hb:∀kd d st',ks[at_]? =some kd→ds[at_]? =some d→Gr st st'→Wv (calls tab (k+6) ce [d,kd.d] st') (fun r st''=>r=.bl false∧Gr st' st''))
  (h:∀n st',Gr st st'→oW st' n (.int at_)→Q (.x n) st'):W (calls tab (k+8) bT [.ref cp,.ref v,b] st) Q:=
 lj (k:=k) hC (lm (k:=k+3) hok hv hl hf (Nat.le_of_lt ha) (fun kd d st' h1 h2 g=>⟨hb kd d st' h1 h2 g,fun n st' g e=>jN (tJ (h n st' g e))⟩) fun q=>absurd q (ak ha))
end
theorem wt{Q:Fl→aS→Prop}{d:D}{i:Nat}(h:W (execs g ss (loc.set i (some d)) st) Q):W (qP (.set i) loc (.v d) st) (Kn g ss Q):=h
section
variable{k:Nat}{st:aS}{Q:D→aS→Prop}{cp f1 f2 fn bl en v:Nat}{ds:List D}{ks:List Kd}{rs:List (Nat×Nat)}{last d b:D}{kd:Kd}{i:Int}
theorem pA(hok:∀kd∈ks,Kd.ok kd)(hf:da ks ds)(h4:ks.length≤4)(ho:kd.ok)(hd:fits kd d)(hL:LV ds last d)(hC:Cd st cp f1 f2 fn bl en ks rs last)(hv:st[v]? =some (.lst ds))(hi:0≤i∧i≤10000)
  (h:∀st',Gr st st'→Q (.tup [.str "answer",eJ d,.tup (b6 ds rs),.int 0,.int (rs.length+1)]) st'):Wv (calls tab (k+9) gL [.ref cp,.ref v,.int i] st) Q:=by
 walk_at "call0"
 refine bu (bz (nD (d6 (ag (aZ rfl (ag (aZ rfl (ag (aZ rfl (au ?_))))))))))
 refine Af (k:=k) hok hf h4 ho hd hL hC hv hi fun n l st1 g1 e1=>?_
 refine wt ?_
 refine bu (bv (cm (aZ rfl (nB (by unfold mr at e1;exact e1) rfl (au (xD (k:=k+7) e1 (fQ (ag (bf (aZ rfl (eZ (by unfold mr at e1;exact e1) 5 rfl (au (rK (by simp) (by simp) ?_)))))))))))))
 refine aT ?_
 simp only[CG,Kn]
 exact dn (aZ rfl (h st1 g1))
theorem pw{p:D}(h:W (calls tab (k+8) bT [.ref cp,x,b] st) fun r st1=>∃n,r=.x n∧Gr st st1∧oW st1 n p)
  (q:∀m st',Gr st st'→st'[m]? =some (.lst [.str "input",p,.bl true,.bl true,.bl false])→Q (.ref m) st'):Wv (calls tab (k+9) gL [.ref cp,x,b] st) Q:=by
 walk_at "call0"
 refine bu (bz (nD (d6 (ag (aZ rfl (ag (aZ rfl (ag (aZ rfl (au ?_))))))))))
 refine h.mono fun r st1 hp=>?_
 obtain⟨n,e,g,m,e1,e2⟩:=hp
 subst e
 refine jN ?_
 have dk:jR st1 (some m)=true:=by simp only[jR,e2]
 refine⟨"NoInput",some m,e1,.inl ⟨by decide+kernel,?_⟩⟩
 refine bu (bX (ag (bz (ag (w_fld (aZ rfl ⟨n,_,m,true,_,p,rfl,e1,e2,lk 0 rfl rfl,by decide+kernel,?_⟩))))))
 refine ag (kg (aZ rfl ⟨n,_,_,true,true,rfl,e1,dk,fun _=>by decide+kernel,nofun,?_⟩))
 refine ag (kg (aZ rfl ⟨n,_,_,true,true,rfl,e1,dk,fun _=>by decide+kernel,nofun,?_⟩))
 refine ag (kg (aZ rfl ⟨n,_,_,true,false,rfl,e1,dk,nofun,fun _=>⟨by decide+kernel,by decide+kernel⟩,au ?_⟩))
 refine aT ?_
 refine bq (dn (aZ rfl ?_))
 exact q _ _ (g.more _) aE
theorem vF(h:W (calls tab (k+8) bT [.ref cp,x,b] st) fun r st1=>∃n,r=.x n∧Gr st st1∧st1[n]? =some (.err "NoBudget" none true))
  (q:∀m st',Gr st st'→st'[m]? =some (.lst [.str "budget",.bl true,.bl true,.bl false])→Q (.ref m) st'):Wv (calls tab (k+9) gL [.ref cp,x,b] st) Q:=by
 walk_at "call0"
 refine bu (bz (nD (d6 (ag (aZ rfl (ag (aZ rfl (ag (aZ rfl (au ?_))))))))))
 refine h.mono fun r st1 hp=>?_
 obtain⟨n,e,g,e1⟩:=hp
 subst e
 refine jN ?_
 refine⟨"NoBudget",none,e1,.inr ⟨by decide+kernel,⟨by decide+kernel,by decide+kernel⟩,?_⟩⟩
 refine bu (bX (ag (bz ?_)))
 refine ag (kg (aZ rfl ⟨n,_,_,true,true,rfl,e1,rfl,fun _=>by decide+kernel,nofun,?_⟩))
 refine ag (kg (aZ rfl ⟨n,_,_,true,true,rfl,e1,rfl,fun _=>by decide+kernel,nofun,?_⟩))
 refine ag (kg (aZ rfl ⟨n,_,_,true,false,rfl,e1,rfl,nofun,fun _=>⟨by decide+kernel,by decide+kernel⟩,au ?_⟩))
 refine aT ?_
 refine bq (dn (aZ rfl ?_))
 exact q _ _ (g.more _) aE
end
theorem iZ{d:D}(hn:st[n]? =some (.lst xs))(hj:xs[j]? =some d)(h:Q d st):W (index (.ref n) (.int (j:Int)) st) Q:=by
 have hlt:=(aA hj).1
 obtain⟨d',e1,e2⟩:=iI (xs:=xs) (i:=(j:Int)) (by omega) (by omega)
 rw[Int.toNat_natCast,hj] at e2
 cases e2
 exact kf hn e1 h
section
variable{k:Nat}{st:aS}{Q:D→aS→Prop}{cp f1 f2 fn bl en v:Nat}{ds:List D}{ks:List Kd}{rs:List (Nat×Nat)}{last d:D}{kd:Kd}
theorem xN(hok:∀kd∈ks,Kd.ok kd)(hf:da ks ds)(ho:kd.ok)(hd:fits kd d)(hL:LV ds last d)(hC:Cd st cp f1 f2 fn bl en ks rs last)(hv:st[v]? =some (.lst ds))
  (h:∀st',Gr st st'→Q (.tup [.str "answer",eJ d,.tup (b6 ds rs),.int 0,.int (rs.length+1)]) st'):Wv (calls tab (k+3) mQ [.ref cp,.ref v] st) Q:=by
 walk_at "call0"
 obtain⟨gv,ra,rb,hfn⟩:=hC.fun_
 refine bu (dq (bf (dq (bf (aZ rfl (eZ hC.code 0 rfl (bz (wQ hC.d1 (by simp[io]) (eZ hfn 4 rfl (bz (fB rfl ?_)))))))))))
 refine bu (cG (ag (jo (bf (aZ rfl (eZ hC.block 1 rfl ⟨_,rfl,i6 (by have:=hC.many;simp;omega) (fun i acc st'=>Gr st st'∧acc=b6 ds (rs.take i)) ⟨.refl _,rfl⟩ ?_ ?_⟩))))))
 ·rintro i x acc st' hx ⟨g,rfl⟩
  rw[aM] at hx
  cases q:rs[i]? with
  |none=>rw[q] at hx;cases hx
  |some r=>
   rw[q] at hx
   cases hx
   obtain⟨hr1,hr2⟩:=hC.rows r (al q)
   have hk':ks[r.2]? =some ks[r.2]:=aC hr1
   have hd':ds[r.2]? =some (ds.getD r.2 .non):=by
    have:r.2<ds.length:=by rw[hf.1];exact hr1
    simp[this]
   refine pf (dv (ag (dq (aZ rfl (dq (dq (bf (aZ rfl (eZ (g.at hr2) 3 rfl (bz (fB rfl (bz (fB rfl ?_)))))))))))))
   refine iZ (g.at hv) hd' (au ?_)
   refine so (k:=k) (hok _ (al hk')) (hf.2 _ _ _ hk' hd') fun st1 g1=>⟨g.trans g1,?_⟩
   unfold b6
   rw[List.take_succ,q]
   simp
 ·rintro acc st1 ⟨g1,rfl⟩
  rw[List.length_map,List.take_length]
  refine au (bW aE ?_)
  have g2:Gr st (st1++[O.lst (b6 ds rs)]):=g1.more _
  generalize st1++[O.lst (b6 ds rs)]=s2 at g2 ⊢
  refine bu (bf (bf (aZ rfl (eZ (g2.at hC.block) 2 rfl (eZ (g2.at hC.end_) 0 rfl ?_)))))
  refine bu (aZ rfl ?_)
  have fin:∀s3,Gr st s3→W (execs (calls tab (k+2)) [.ret (.tup [(.c (.str "answer")),(.v 5),(.v 3),(.c (.int (0))),(.bin .add (.bt .len [(.fld (.v 2) "rows" [] ["Block","Stay"])]) (.c (.int (1))))])] [some (.ref cp),some (.ref v),some (.ref bl),some (.tup (b6 ds rs)),some last,some (eJ d)] s3) (Kr Q):=fun s3 g3=>by
   refine dn (fQ (ag (bz (ag (aZ rfl (ag (aZ rfl (ag (bz (ag (bv (cG (ag (bf (aZ rfl (eZ (g3.at hC.block) 1 rfl (au (jk (bz (w_add (au ?_)))))))))))))))))))))
   refine kr ?_
   have:=h s3 g3
   simpa using this
  rcases hL with⟨w,rfl,rfl⟩|⟨j,rfl,hj⟩
  ·refine cZ (bZ (dq (aZ rfl (bz (fB rfl (bz ?_))))))
   refine w_eq (k:=false) (by rw[eq_str];decide+kernel) ⟨false,rfl,nofun,fun _=>?_⟩
   exact aT (bq (fin s2 g2))
  ·refine cZ (bZ (dq (aZ rfl (bz (fB rfl (bz ?_))))))
   refine w_eq (k:=true) (by rw[eq_str];decide+kernel) ⟨true,rfl,fun _=>?_,nofun⟩
   refine bu (dv (ag (dq (aZ rfl (dq (aZ rfl (bz (fB rfl ?_))))))))
   refine iZ (g2.at hv) hj (au ?_)
   refine so (k:=k) ho hd fun st3 g3=>?_
   exact aT (bq (fin st3 (g2.trans g3)))
end
section
variable{k:Nat}{st:aS}{Q:D→aS→Prop}
theorem gi{st:aS}{o:O}(e:st[n]? =some o)(h:cb st .int (.ref n)=some false)(h':cb st .bool (.ref n)=some false):mo st b (.ref n)=some false:=by
 cases b<;>simp[mo,h,h']
theorem fh{st:aS}{t:Ty}(e:st[n]? =some (.lst xs)):cb st t (.ref n)=some (match t with| .list=>true|_=>false):=by
 simp only[cb,e]<;>(cases t<;>rfl)
theorem d_{st:aS}{xs:List (Key×D)}{t:Ty}(e:st[n]? =some (.dct xs)):cb st t (.ref n)=some false:=by
 simp only[cb,e]
theorem xT(h:∀b st',Gr st st'→nA st' b→Q b st'):Wv (calls tab (k+1) hJ [.int c] st) Q:=by
 walk_at "call0"
 walk_at "ev"
 refine⟨_,rfl,?_⟩
 walk_at "ev"
 refine⟨_,rfl,?_⟩
 walk_at "ev"
 have g0:Gr st (st++[O.lst [.int 5]]++[O.dct []]):=⟨[O.lst [.int 5],O.dct []],by simp⟩
 refine db aE (Int.emod_nonneg _ (by omega)) (by have:=aY c (show(0:Int)<12 by omega);simpa using this) fun d hd _=>h d _ (g0.more _) ?_
 simp only[List.mem_cons,List.not_mem_nil,or_false] at hd
 have e1:(st++[O.lst [.int 5]]++[O.dct []])[st.length]? =some (O.lst [.int 5]):=aI aE
 have e2:(st++[O.lst [.int 5]]++[O.dct []])[(st++[O.lst [.int 5]]).length]? =some (O.dct []):=aE
 rcases hd with rfl|rfl|rfl|rfl|rfl|rfl|rfl|rfl|rfl|rfl|rfl|rfl
 ·exact .inr ⟨_,rfl,by decide+kernel⟩
 ·exact .inr ⟨_,rfl,by decide+kernel⟩
 ·exact .inl rfl
 ·exact .inl rfl
 ·exact .inl rfl
 ·exact .inl (gi (aI e1) (fh (aI e1)) (fh (aI e1)))
 ·exact .inl rfl
 ·exact .inr ⟨_,rfl,by decide+kernel⟩
 ·exact .inr ⟨_,rfl,by decide+kernel⟩
 ·exact .inl (gi (aI e2) (d_ (aI e2)) (d_ (aI e2)))
 ·exact .inl rfl
 ·exact .inl rfl
end
noncomputable def pl:Nat→D→Prop
 |0,d=>fT d=true
 |n+1,d=>fT d=true∨∃xs,d=.tup xs∧∀x∈xs,pl n x
theorem mz:∀{n:Nat}{d:D},pl n d→pl (n+1) d
 |0,d,h=>.inl h
 |n+1,d,h=>by
  rcases h with h|⟨xs,rfl,h⟩
  ·exact .inl h
  ·exact .inr ⟨xs,rfl,fun x hx=>mz (h x hx)⟩
noncomputable def Cu:Nat→D→Bool
 |0,d=>fT d
 |n+1,.tup xs=>xs.all (Cu n)
 |_+1,d=>fT d
theorem mB:∀{n:Nat}{d:D},Cu n d=true→pl n d
 |0,d,h=>h
 |n+1,.tup xs,h=>.inr ⟨xs,rfl,fun x hx=>mB (List.all_eq_true.mp h x hx)⟩
 |n+1,.int _,h=>.inl h
 |n+1,.bl _,h=>.inl h
 |n+1,.str _,h=>.inl h
 |n+1,.non,h=>.inl h
 |n+1,.fl _,h=>.inl h
 |n+1,.ref _,h=>.inl h
noncomputable def ii(x:D):Prop:=pl 3 x∨∃n,x=.ref n
theorem dQ{bs:List Bool}(hs:nU bs xs)(hx:x∈xs):fT x=true:=by
 obtain⟨b,hb⟩:=iw hs hx
 cases b
 ·obtain⟨i,rfl⟩:=hb;rfl
 ·obtain⟨i,rfl⟩:=hb;rfl
theorem bF:∀{n:Nat}{x:D},fT x=true→pl n x
 |0,_,h=>h
 |_+1,_,h=>.inl h
noncomputable def qj(st:aS)(kd:Kd)(x:D):Prop:=∀(k:Nat)(Q:D→aS→Prop)(st':aS),Gr st st'→(∀st'',Gr st' st''→Q (.bl false) st'')→Wv (calls tab (k+3) ce [x,kd.d] st') Q
theorem qj.gr{kd:Kd}(h:qj st kd x)(g:Gr st st1):qj st1 kd x:=fun k Q st' g' q=>h k Q st' (g.trans g') q
section
variable{k:Nat}{st:aS}{kd:Kd}
theorem uD(he:kd.d=pd b)(hx:mo st b x=some false):qj st kd x:=fun k Q st' g q=>by
 rw[he]
 exact lq (k:=k+1) (nV hx g) (q _ (.refl _))
theorem lY(hk:kd.long=true)(ho:kd.ok)(hl:xs.length≠kd.parts.length):qj st kd (.tup xs):=fun k Q st' g q=>sq (k:=k+1) hk ho (.inr ⟨xs,rfl,hl⟩) (fun _ _=>rfl) q
theorem jg(hk:kd.long=true)(ho:kd.ok)(hx:cb st .tuple x=some false):qj st kd x:=fun k Q st' g q=>sq (k:=k+1) hk ho (.inl (fY hx g)) (fun st'' g'=>by rw[fY (fY hx g) g',fY hx g]) q
theorem zj(hk:kd.long=true)(ho:kd.ok)(hl:xs.length=kd.parts.length)(hn:∀x∈xs,oq x)(hv:iJ kd.parts xs=false):qj st kd (.tup xs):=fun k Q st' g q=>nY (k:=k) hk ho hl hn fun st'' g'=>by rw[hv];exact q st'' g'
end
theorem nw:∀{bs:List Bool}{ds:List D}{i:Nat}{b:Bool}{d:D},bs[i]? =some b→ds[i]? =some d→xx b d=false→iJ bs ds=false
 |b::bs,d::ds,0,_,_,h1,h2,h=>by
  cases h1;cases h2
  simp[iJ,h]
 |b::bs,d::ds,i+1,_,_,h1,h2,h=>by
  have:=nw (bs:=bs) (ds:=ds) (i:=i) (by simpa using h1) (by simpa using h2) h
  simp[iJ,this]
theorem ur(h:j≤xs.length):cutD xs none (some (j:Int))=xs.take j:=by
 unfold cutD
 rw[HT.gV,HT.i9,Nat.min_eq_left h]
 simp
theorem qb(h:j≤xs.length):cutD xs (some (j:Int)) none=xs.drop j:=by
 unfold cutD
 rw[HT.gV,HT.i9,Nat.min_eq_left h]
 exact List.take_of_length_le (by simp)
theorem n6(h:1≤n):HT.cF n n (some (-1))=n - 1:=by
 show(if(-1:Int)<0 then(-1+(n:Int)).toNat else min (-1:Int).toNat n)=n - 1
 rw[if_pos (by omega)]
 omega
section
variable{k:Nat}{st:aS}{Q:D→aS→Prop}{kd:Kd}
theorem sm(he:kd.d=pd b){d:D}(h:∀x st',Gr st st'→qj st' kd x→ii x→Q x st'):Wv (calls tab (k+1) dB [kd.d,d,.int c] st) Q:=by
 rw[he]
 walk_at "call"
 have m0:=Int.emod_nonneg c (show(8:Int)≠0 by omega)
 have m1:=aY c (show(0:Int)<8 by omega)
 refine w_eq (oo b) ⟨!b,rfl,fun hb=>?_,fun hb=>?_⟩
 ·have:b=false:=by simpa using hb
  subst this
  walk_at "ev"
  have g0:Gr st (st++[O.lst [.int 1]]++[O.dct []]):=⟨[O.lst [.int 1],O.dct []],by simp⟩
  refine db aE m0 (by simpa using m1) fun x hx _=>?_
  refine kr (h x _ (g0.more _) (uD he ?_) ?_)
  rotate_left
  ·simp only[List.mem_cons,List.not_mem_nil,or_false] at hx
   rcases hx with rfl|rfl|rfl|rfl|rfl|rfl|rfl|rfl<;>first
    |exact .inr ⟨_,rfl⟩
    |exact .inl (mB rfl)
  have e1:(st++[O.lst [.int 1]]++[O.dct []])[st.length]? =some (O.lst [.int 1]):=aI aE
  have e2:(st++[O.lst [.int 1]]++[O.dct []])[(st++[O.lst [.int 1]]).length]? =some (O.dct []):=aE
  simp only[List.mem_cons,List.not_mem_nil,or_false] at hx
  rcases hx with rfl|rfl|rfl|rfl|rfl|rfl|rfl|rfl<;>first
   |rfl
   |exact gi (aI e1) (fh (aI e1)) (fh (aI e1))
   |exact gi (aI e2) (d_ (aI e2)) (d_ (aI e2))
 ·have:b=true:=by simpa using hb
  subst this
  walk_at "ev"
  refine w_eq (om true) ⟨true,rfl,fun _=>?_,nofun⟩
  walk_at "ev"
  have g0:Gr st (st++[O.lst []]++[O.dct []]):=⟨[O.lst [],O.dct []],by simp⟩
  refine db aE m0 (by simpa using m1) fun x hx _=>?_
  refine kr (h x _ (g0.more _) (uD he ?_) ?_)
  rotate_left
  ·simp only[List.mem_cons,List.not_mem_nil,or_false] at hx
   rcases hx with rfl|rfl|rfl|rfl|rfl|rfl|rfl|rfl<;>first
    |exact .inr ⟨_,rfl⟩
    |exact .inl (mB rfl)
  have e1:(st++[O.lst []]++[O.dct []])[st.length]? =some (O.lst []):=aI aE
  have e2:(st++[O.lst []]++[O.dct []])[(st++[O.lst []]).length]? =some (O.dct []):=aE
  simp only[List.mem_cons,List.not_mem_nil,or_false] at hx
  rcases hx with rfl|rfl|rfl|rfl|rfl|rfl|rfl|rfl<;>first
   |rfl
   |exact gi (aI e1) (fh (aI e1)) (fh (aI e1))
   |exact gi (aI e2) (d_ (aI e2)) (d_ (aI e2))
end
theorem jl{d:D}(hj:xs[j]? =some d)(h:Q d st):W (index (.tup xs) (.int (j:Int)) st) Q:=by
 have hlt:=(aA hj).1
 obtain⟨d',e1,e2⟩:=iI (xs:=xs) (i:=(j:Int)) (by omega) (by omega)
 rw[Int.toNat_natCast,hj] at e2
 cases e2
 exact fB e1 h
theorem nH{as bs:List D}(hb:as.length+bs.length≤1000000)(h:Q (.tup (as++bs)) st):W (cu .add (.tup as) (.tup bs) st) Q:=by
 cases as with
 |nil=>exact h
 |cons a as=>exact rK (by simp) hb h
noncomputable def repl(xs:List D)(a:Nat)(o:D):D:= .tup (xs.take a++[o]++xs.drop (a+1))
section
variable{k:Nat}{st:aS}{Q:D→aS→Prop}{kd:Kd}{xs:List D}{a:Nat}{pb:Bool}{y:D}
theorem nu(hk:kd.long=true)(ho:kd.ok)(hs:nU kd.parts xs)(hpb:kd.parts[a]? =some pb){o:D}(hn:oq o)(hb:xx pb o=false):qj st kd (repl xs a o):=by
 have hl:=cI hs
 have ha:=(aA hpb).1
 have hlen:(xs.take a++[o]++xs.drop (a+1)).length=kd.parts.length:=by simp;omega
 refine zj hk ho hlen (fun x hx=>?_) (nw (i:=a) (d:=o) hpb ?_ hb)
 ·have hr:=(pr hs).2
  simp only[List.mem_append,List.mem_singleton] at hx
  rcases hx with(hx|rfl)|hx
  ·exact hr x (List.mem_of_mem_take hx)
  ·exact hn
  ·exact hr x (List.mem_of_mem_drop hx)
 ·rw[List.append_assoc,aQ (by simp;omega)]
  simp[Nat.min_eq_left (show a≤xs.length by omega)]
theorem nX(hk:kd.long=true)(ho:kd.ok)(hs:nU kd.parts xs)(hy:xs[a]? =some y)(hpb:kd.parts[a]? =some pb){o:D}(hn:oq o)(hb:xx pb o=false)(hp1:pl 1 o)(h:∀x st',Gr st st'→qj st' kd x→ii x→Q x st'){s:aS}(gs:Gr st s):
  W (execs (calls tab k) (bD.body.drop 5) [some kd.d,some (.tup xs),some (.int c),some (.int (a:Int)),some o,none,none] s) (Kr Q):=by
 have hl:=cI hs
 have hlt:=(aA hy).1
 have hp:1≤xs.length∧xs.length≤6:=by cases kd<;>simp[Kd.parts,Kd.ok,Kd.long] at hl ho hk<;>omega
 dsimp only[bD,List.drop]
 refine bu (bX (ag (bv (aZ rfl (fQ (ag (bz (au (nH (by simp;omega) ?_)))))))))
 refine ag (ik (aZ rfl (oZ (bz ⟨1,rfl,⟨-1,rfl,rA (by rw[n6 hp.1];omega) ?_⟩⟩))))
 refine ag (cG (ag (aZ rfl (au (o6 ?_)))))
 refine ag (bz (ag (dq (aZ rfl (aZ rfl (jl hy ?_))))))
 refine ag (fQ (au (ag (pc (au ?_)))))
 have e1:(s++[O.lst xs]++[O.dct []])[s.length]? =some (O.lst xs):=aI aE
 have e2:(s++[O.lst xs]++[O.dct []])[(s++[O.lst xs]).length]? =some (O.dct []):=aE
 have g1:Gr st (s++[O.lst xs]++[O.dct []]):=gs.trans ⟨[O.lst xs,O.dct []],by simp⟩
 generalize s++[O.lst xs]++[O.dct []]=s1 at e1 e2 g1 ⊢
 generalize (s++[O.lst xs]).length=nd at e2 ⊢
 generalize hB:([.tup (xs++[.int 0]),.tup (cutD xs none (some (-1))),.ref s.length,.non,y,.tup [],.ref nd]:List D)=B
 have hB7:B.length=7:=by rw[←hB];rfl
 refine kZ (fun n ys i loc st'=>Gr s1 st'∧n=s1.length+1∧ys=[o,.tup [.int 1]]∧st'[n]? =some (.lst ys)∧st'[s1.length]? =some (.lst (B++(ys.take i).map (repl xs a)))∧∃z,loc=[some kd.d,some (.tup xs),some (.int c),some (.int (a:Int)),some o,some (.ref s1.length),z]) ?_
 refine bX (ag (aZ rfl (ag (fQ (ag (bz (au (au ⟨_,_,rfl,aE,⟨(Gr.one _ _).more _,by simp,rfl,aE,?_,_,rfl⟩,fun i loc st' q=>q.2.2.2.1,?_,?_⟩))))))))
 ·rw[List.take_zero,List.map_nil,List.append_nil]
  exact aI aE
 ·rintro i x loc st' hx ⟨g,hn1,hys,e3,e4,z,rfl⟩
  have hi:i<2:=by simpa using(aA hx).1
  refine me (aZ rfl (gf e4 (bv (bv (ik (aZ rfl (aZ rfl ⟨_,rfl,rA (by rw[HT.i9];omega) ?_⟩)))))))
  rw[ur (Nat.le_of_lt hlt)]
  refine fQ (ag (aZ rfl (au (nH (by simp;omega) ?_))))
  refine jj (aZ rfl (bv (aZ rfl (bz (w_add ⟨_,rfl,rA (by rw[show((a:Int)+1)=((a+1:Nat):Int) by omega,HT.i9];omega) ?_⟩)))))
  rw[show((a:Int)+1)=((a+1:Nat):Int) by omega,qb (by omega)]
  refine nH (by simp;omega) (eR e4 (by simp[hB7];omega) (aT ⟨g.set (af _),hn1,rfl,?_,?_,_,rfl⟩))
  ·rw[ah (by omega)];exact e3
  ·rw[bo (aA e4).1,List.take_succ,hx]
   simp[repl]
 ·rintro loc st' ⟨g,hn1,hys,e3,e4,z,rfl⟩
  have m0:=Int.emod_nonneg c (show(9:Int)≠0 by omega)
  have m1:=aY c (show(0:Int)<9 by omega)
  refine dn (dq (aZ rfl (bv (aZ rfl (bz (w_mod (by omega) ?_))))))
  refine db e4 m0 (by simp[hB7];omega) fun x hx _=>?_
  refine kr (h x st' (g1.trans g) (qj.gr ?_ g) ?_)
  rotate_left
  ·simp only[←hB,List.take_length,List.map_cons,List.map_nil,List.mem_append,List.mem_cons,List.not_mem_nil,or_false] at hx
   have rp:∀{o:D},pl 1 o→ii (repl xs a o):=fun{o} q=>.inl (.inr ⟨_,rfl,fun x hx=>by
    simp only[List.mem_append,List.mem_singleton] at hx
    rcases hx with(hx|rfl)|hx
    ·exact bF (dQ hs (List.mem_of_mem_take hx))
    ·exact mz q
    ·exact bF (dQ hs (List.mem_of_mem_drop hx))⟩)
   rcases hx with(rfl|rfl|rfl|rfl|rfl|rfl|rfl)|rfl|rfl
   ·refine .inl (.inr ⟨_,rfl,fun x hx=>?_⟩)
    rcases List.mem_append.mp hx with hx|hx
    ·exact bF (dQ hs hx)
    ·simp at hx;subst hx;exact bF rfl
   ·refine .inl (.inr ⟨_,rfl,fun x hx=>bF (dQ hs ?_)⟩)
    unfold cutD at hx
    exact List.mem_of_mem_drop (List.mem_of_mem_take hx)
   ·exact .inr ⟨_,rfl⟩
   ·exact .inl (bF rfl)
   ·exact .inl (bF (dQ hs (al hy)))
   ·exact .inl (mB rfl)
   ·exact .inr ⟨_,rfl⟩
   ·exact rp hp1
   ·exact rp (mB rfl)
  simp only[←hB,List.take_length,List.map_cons,List.map_nil,List.mem_append,List.mem_cons,List.not_mem_nil,or_false] at hx
  have hyi:cb s1 .tuple y=some false:=by
   obtain⟨pb',_,hsc⟩:=lh hs hy
   cases pb'
   ·obtain⟨i,rfl⟩:=hsc;rfl
   ·obtain⟨i,rfl⟩:=hsc;rfl
  rcases hx with(rfl|rfl|rfl|rfl|rfl|rfl|rfl)|rfl|rfl
  ·exact lY hk ho (by simp;omega)
  ·refine lY hk ho ?_
   unfold cutD
   rw[n6 hp.1,HT.gV]
   simp
   omega
  ·exact jg hk ho (fh e1)
  ·exact jg hk ho rfl
  ·exact jg hk ho hyi
  ·exact lY hk ho (by simp;omega)
  ·exact jg hk ho (d_ e2)
  ·exact nu hk ho hs hpb hn hb
  ·exact nu hk ho hs hpb trivial (by cases pb<;>rfl)
end
section
variable{k:Nat}{st:aS}{Q:D→aS→Prop}{kd:Kd}{xs:List D}
theorem sk(hk:kd.long=true)(ho:kd.ok)(hs:nU kd.parts xs)(h:∀x st',Gr st st'→qj st' kd x→ii x→Q x st'):Wv (calls tab (k+1) dB [kd.d,.tup xs,.int c] st) Q:=by
 have hl:=cI hs
 have hp:1≤xs.length∧xs.length≤6:=by cases kd<;>simp[Kd.parts,Kd.ok,Kd.long] at hl ho hk<;>omega
 have m0:=Int.emod_nonneg (c / 9) (show(xs.length:Int)≠0 by omega)
 have m1:=aY (c / 9) (show(0:Int)<xs.length by omega)
 obtain⟨a,ha⟩:∃a:Nat,c / 9 % (xs.length:Int)=a:=⟨(c / 9 % (xs.length:Int)).toNat,by omega⟩
 rw[ha] at m1
 have hlt:a<xs.length:=by omega
 have hy:xs[a]? =some xs[a]:=aC hlt
 generalize xs[a]=y at hy
 obtain⟨pb,hpb,hsc⟩:=lh hs hy
 walk_at "call0"
 refine cZ (bZ (aZ rfl (fQ (ag (bz (au ?_))))))
 refine w_eq (oN kd) ⟨false,(by cases kd<;>first|rfl|(cases hk;done)),nofun,fun _=>?_⟩
 refine aT (bq (cZ (bZ (aZ rfl (fQ (ag (bz (au ?_))))))))
 refine w_eq (oM kd) ⟨false,(by cases kd<;>first|rfl|(cases hk;done)),nofun,fun _=>?_⟩
 refine aT (bq ?_)
 refine bu (bv (bv (aZ rfl (bz (gH (by omega) (cG (ag (aZ rfl (au (jk (w_mod (by omega) ?_)))))))))))
 rw[ha]
 refine bu (bz ?_)
 refine cZ (o7 (dq (aZ rfl (aZ rfl (jl hy ?_)))))
 cases pb with
 |true=>
  obtain⟨v,rfl⟩:=hsc
  refine⟨true,rfl,true,rfl,fun _=>?_,nofun⟩
  refine bu (cG (ag (dq (aZ rfl (aZ rfl (jl hy (au (rF ?_))))))))
  exact aT (bq (nX hk ho hs hy hpb (by exact trivial) (by rfl) (.inl (by rfl)) h (.refl _)))
 |false=>
  obtain⟨i,rfl⟩:=hsc
  refine⟨false,rfl,false,rfl,nofun,fun _=>?_⟩
  refine cZ (bZ (dq (aZ rfl (aZ rfl (jl hy (fQ (ag (bz (ag (bz (au ?_)))))))))))
  cases hin:ig st (.int i) [.int 0,.int 1] with
  |none=>simp[ig,cY,shape] at hin
  |some b=>
   simp only[bQ,cr,hin]
   refine⟨b,rfl,fun _=>?_,fun _=>?_⟩
   ·refine bu (bZ (dq (aZ rfl (aZ rfl (jl hy (bz (o_ ?_)))))))
    exact aT (bq (aT (bq (nX hk ho hs hy hpb (by exact trivial) (by rfl) (.inl (by rfl)) h (.refl _)))))
   ·exact aT (bq (aT (bq (nX (o:= .non) hk ho hs hy hpb (by exact trivial) (by rfl) (.inl (by rfl)) h (.refl _)))))
theorem Ai(ho:kd.ok){d:D}(hd:fits kd d)(h:∀x st',Gr st st'→qj st' kd x→ii x→Q x st'):Wv (calls tab (k+1) dB [kd.d,d,.int c] st) Q:=by
 cases kd with
 |num=>exact sm (kd:= .num) (b:=false) rfl h
 |truth=>exact sm (kd:= .truth) (b:=true) rfl h
 |row n=>obtain⟨xs,rfl,hs⟩:=hd;exact sk (kd:= .row n) rfl ho hs h
 |rcd ps=>obtain⟨xs,rfl,hs⟩:=hd;exact sk (kd:= .rcd ps) rfl ho hs h
end
theorem pW{f:D→D→Option Bool}(h:f x x=some true):j3 f x x=some true:=by
 unfold j3
 split
 ·simp
 ·exact h
theorem ue{st:aS}:∀{n:Nat}(m:Nat){d:D},pl n d→cY (n+m+1) st d d=some true
 |0,m,d,h=>kB h
 |n+1,m,d,h=>by
  rcases h with h|⟨xs,rfl,h⟩
  ·exact kB h
  ·have e:cY (n+1+m+1) st (.tup xs) (.tup xs)=cW (j3 (cY (n+1+m) st)) xs xs:=by
    rw[cY]
    simp only[shape]
   rw[e]
   refine gP fun x hx=>pW ?_
   have:=ue (st:=st) m (h x hx)
   rwa [show n+m+1=n+1+m by omega] at this
theorem ww{d:D}(hn:n≤59)(h:pl n d):cY 60 st d d=some true:=by
 have:=ue (st:=st) (59 - n) h
 rwa [show n+(59 - n)+1=60 by omega] at this
theorem lA{d:D}(h:sc b d):pl 1 (nL d):=by
 cases b
 ·obtain⟨i,rfl⟩:=h
  refine .inr ⟨_,rfl,fun x hx=>?_⟩
  simp at hx
  rcases hx with rfl|rfl<;>rfl
 ·obtain⟨i,rfl⟩:=h
  refine .inr ⟨_,rfl,fun x hx=>?_⟩
  simp at hx
  rcases hx with rfl|rfl<;>rfl
theorem pH{kd:Kd}{d:D}(h:fits kd d):pl 2 (eJ d):=by
 have long:∀xs,nU kd.parts xs→pl 2 (eJ (.tup xs)):=fun xs hs=>.inr ⟨_,rfl,fun x hx=>by
  obtain⟨y,hy,rfl⟩:=List.mem_map.mp hx
  obtain⟨b,hb⟩:=iw hs hy
  exact lA hb⟩
 cases kd with
 |num=>obtain⟨i,rfl⟩:=h;exact mz (lA (b:=false) ⟨i,rfl⟩)
 |truth=>obtain⟨i,rfl⟩:=h;exact mz (lA (b:=true) ⟨i,rfl⟩)
 |row n=>obtain⟨xs,rfl,hs⟩:=h;exact long xs hs
 |rcd ps=>obtain⟨xs,rfl,hs⟩:=h;exact long xs hs
noncomputable abbrev zu(ds:List D)(rs:List (Nat×Nat))(d:D):D:= .tup [.str "answer",eJ d,.tup (b6 ds rs),.int 0,.int (rs.length+1)]
theorem yc{ks:List Kd}{ds:List D}{d:D}{kd:Kd}(hf:da ks ds)(hr:∀r∈rs,r.2<ks.length)(hd:fits kd d):pl 4 (zu ds rs d):=by
 refine .inr ⟨_,rfl,fun x hx=>?_⟩
 simp only[List.mem_cons,List.not_mem_nil,or_false] at hx
 rcases hx with rfl|rfl|rfl|rfl|rfl
 ·exact .inl rfl
 ·exact mz (pH hd)
 ·refine .inr ⟨_,rfl,fun x hx=>?_⟩
  obtain⟨r,hr',rfl⟩:=List.mem_map.mp hx
  have h1:=hr r hr'
  have hk':ks[r.2]? =some ks[r.2]:=aC h1
  have hd':ds[r.2]? =some (ds.getD r.2 .non):=by
   have:r.2<ds.length:=by rw[hf.1];exact h1
   simp[this]
  exact pH (hf.2 _ _ _ hk' hd')
 ·exact .inl rfl
 ·exact .inl rfl
theorem we{ks:List Kd}{ds:List D}(hok:∀kd∈ks,Kd.ok kd)(hf:da ks ds)(h:LastOk ks.length last):∃d kd,LV ds last d∧Kd.ok kd∧fits kd d:=by
 rcases h with⟨v,rfl⟩|⟨j,hj,rfl⟩
 ·exact⟨.int v,.num,.inl ⟨v,rfl,rfl⟩,trivial,⟨v,rfl⟩⟩
 ·have hk':ks[j]? =some ks[j]:=aC hj
  have hj':j<ds.length:=by rw[hf.1];exact hj
  have hd':ds[j]? =some ds[j]:=aC hj'
  exact⟨_,_,.inr ⟨j,rfl,hd'⟩,hok _ (al hk'),hf.2 _ _ _ hk' hd'⟩
theorem zG{a b c:Ex}(h:W (run g a loc st) fun x st1=>W (run g b loc st1) fun y st2=>∃i,y=.int i∧W (run g c loc st2) fun z st3=>∃j,z=.int j∧W (slice x (some i) (some j) st3) Q):W (run g (.sl a b c true true) loc st) Q:=by
 rw[run]
 refine aK (h.mono fun _ _ q=>aK ?_)
 refine aK (q.mono fun _ _ hp=>?_)
 obtain⟨i,e,q⟩:=hp
 subst e
 show W ((ba (if true=true then ba (run g c loc) fun z=>ba (dU (iF z)) fun i=>ret (some i) else ret none) fun h=>slice _ (some i) h) _) Q
 exact aK (show W ((ba (run g c loc) fun z=>ba (dU (iF z)) fun i=>ret (some i)) _) _ from aK (q.mono fun _ _ ⟨j,e,q⟩=>by subst e;exact q))
theorem vh(h:ii x):j3 (cY 59 st) x x=some true:=by
 rcases h with h|⟨n,rfl⟩
 ·exact pW (ue (st:=st) 55 h)
 ·unfold j3;simp
theorem hW{b:Nat}(ha:st[a]? =some (.lst xs))(hb:st[b]? =some (.lst xs))(h:∀x∈xs,ii x):cY 60 st (.ref a) (.ref b)=some true:=by
 have e:cY 60 st (.ref a) (.ref b)=cW (j3 (cY 59 st)) xs xs:=by
  rw[cY]
  simp only[shape,ha,hb]
 rw[e]
 exact gP fun x hx=>vh (h x hx)
theorem lQ{b:Nat}(ha:st[a]? =some (.lst xs))(hb:st[b]? =some (.lst [])):cY 60 st (.ref a) (.ref b)=some xs.isEmpty:=by
 have e:cY 60 st (.ref a) (.ref b)=cW (j3 (cY 59 st)) xs []:=by
  rw[cY]
  simp only[shape,ha,hb]
 rw[e]
 cases xs<;>rfl
theorem r8{kd:Kd}{d:D}(h:fits kd d):ii d:=by
 have long:∀xs,nU kd.parts xs→ii (.tup xs):=fun xs hs=>.inl (.inr ⟨_,rfl,fun x hx=>bF (dQ hs hx)⟩)
 cases kd with
 |num=>obtain⟨i,rfl⟩:=h;exact .inl (bF rfl)
 |truth=>obtain⟨i,rfl⟩:=h;exact .inl (bF rfl)
 |row n=>obtain⟨xs,rfl,hs⟩:=h;exact long xs hs
 |rcd ps=>obtain⟨xs,rfl,hs⟩:=h;exact long xs hs
theorem mm{ks:List Kd}{ds:List D}(hf:da ks ds):∀x∈ds,ii x:=fun x hx=>by
 obtain⟨i,hi,rfl⟩:=List.mem_iff_getElem.mp hx
 have hk:i<ks.length:=by rw[←hf.1];exact hi
 exact r8 (hf.2 i ks[i] ds[i] (aC (by rw[←hf.1];exact hi)) (aC hi))
theorem nA.gr{b:D}(h:nA st b)(g:Gr st st'):nA st' b:=by
 rcases h with h|h
 ·exact .inl (nV h g)
 ·exact .inr h
structure Cn(st:aS)(sp v cp f1 f2 fn bl en:Nat)(ks:List Kd)(ds:List D)(rs:List (Nat×Nat))(last:D):Prop where
 ok:∀kd∈ks,Kd.ok kd
 fit:da ks ds
 l4:ks.length≤4
 cd:Cd st cp f1 f2 fn bl en ks rs last
 sp:st[sp]? =some (.lst (ks.map Kd.d))
 v:st[v]? =some (.lst ds)
theorem Cn.gr{en:Nat}{ks:List Kd}{ds:List D}(h:Cn st sp v cp f1 f2 fn bl en ks ds rs last)(g:Gr st st'):Cn st' sp v cp f1 f2 fn bl en ks ds rs last:=
 ⟨h.ok,h.fit,h.l4,h.cd.gr g,g.at h.sp,g.at h.v⟩
section
variable{k:Nat}{st:aS}{R:Fl→aS→Prop}{sp v cp f1 f2 fn bl en:Nat}{ks:List Kd}{ds:List D}{rs:List (Nat×Nat)}{last du:D}{one:Int}{a0 a1 a3 a7 a9 a10 a11 a12 a13 a14 a15:Option D}{ss:List S}
theorem Ae(h:Cn st sp v cp f1 f2 fn bl en ks ds rs last)
  (q:∀b st',Gr st st'→nA st' b→W (execs (calls tab (k+9)) ss [a0,a1,some (.ref sp),a3,some (.ref v),some (.ref cp),some du,a7,some (.int one),some b,a10,a11,a12,a13,a14,a15] st') R):
  W (execs (calls tab (k+9)) (.set 9 (.fn 19 [(.bin .fdiv (.v 8) (.c (.int (7))))]):: .ite (.cmp .NotEq (.fn 17 [(.v 5),(.bt .list [(.v 4)]),(.v 9)]) (.lst [(.c (.str "budget")),(.c (.bl true)),(.c (.bl true)),(.c (.bl false))])) [.ret (.c (.bl false))] []::ss) [a0,a1,some (.ref sp),a3,some (.ref v),some (.ref cp),some du,a7,some (.int one),a9,a10,a11,a12,a13,a14,a15] st) R:=by
 refine bu (dv (ag (bv (aZ rfl (bz (gH (by omega) (au (xT (k:=k+8) fun b st1 g1 hb=>?_))))))))
 have h1:=h.gr g1
 refine cZ (bZ (dv (ag (aZ rfl (ag (cG (ag (aZ rfl (au (iY h1.v (ag (aZ rfl (au ?_)))))))))))))
 have g2:Gr st1 (st1++[O.lst ds]):= .one _ _
 refine vF (k:=k) (xG (k:=k) h1.ok h1.fit (h1.cd.gr g2) aE (hb.gr g2) fun n st' g e=>⟨n,rfl,g,e⟩) fun m st3 g3 e3=>?_
 refine bX (ag (bz (ag (bz (ag (bz (ag (bz (au ?_)))))))))
 refine l_ (k:=true) (hW (aI e3) aE ?_) ⟨false,rfl,nofun,fun _=>?_⟩
 ·intro x hx
  simp only[List.mem_cons,List.not_mem_nil,or_false] at hx
  rcases hx with rfl|rfl|rfl|rfl<;>exact .inl (bF rfl)
 ·have g5:=g2.trans (g3.more (.lst [.str "budget",.bl true,.bl true,.bl false]))
  exact aT (bq (q b _ (g1.trans g5) (hb.gr g5)))
end
section
variable{st:aS}{ds:List D}{b:D}
noncomputable def Bg(st:aS)(n:Nat)(x:D):Prop:=cb st .list x=some false∨∃u ys,x=.ref u∧st[u]? =some (.lst ys)∧ys.length≠n
theorem Bg.gr{st:aS}(h:Bg st n x)(g:Gr st st'):Bg st' n x:=by
 rcases h with h|⟨u,ys,e,h,l⟩
 ·exact .inl (fY h g)
 ·exact .inr ⟨u,ys,e,g.at h,l⟩
noncomputable def CC(st:aS)(x:D)(r:Bool):Prop:=∀st' b,Gr st st'→st'[b]? =some (.lst [])→cY 60 st' x (.ref b)=some r
noncomputable def gc(st:aS)(n:Nat)(x:D):Prop:=(Bg st n x∧(n=0→CC st x false))∨(n=0∧CC st x true)
theorem gc.gr{st:aS}(h:gc st n x)(g:Gr st st'):gc st' n x:=by
 rcases h with⟨h,e⟩|⟨h,e⟩
 ·exact .inl ⟨h.gr g,fun z st2 b g2 q=>e z st2 b (g.trans g2) q⟩
 ·exact .inr ⟨h,fun st2 b g2 q=>e st2 b (g.trans g2) q⟩
theorem g_{st:aS}(hu:st[u]? =some (.lst ys))(h:ys.length≠n):gc st n (.ref u):= .inl ⟨.inr ⟨u,ys,rfl,hu,h⟩,fun z st' b g q=>by
 rw[lQ (g.at hu) q]
 cases ys with
 |nil=>simp at h;omega
 |cons _ _=>rfl⟩
theorem tq{st:aS}{ys:List (Key×D)}(hu:st[u]? =some (.dct ys)):gc st n (.ref u):= .inl ⟨.inl (d_ hu),fun _ st' b g q=>by
 rw[cY]
 simp only[shape,g.at hu,q]⟩
theorem tf{st:aS}:gc st n (.tup ys):= .inl ⟨.inl rfl,fun _ st' b g q=>by
 rw[cY]
 simp only[shape,q]⟩
theorem tj{st:aS}:gc st n .non:= .inl ⟨.inl rfl,fun _ st' b g q=>by
 rw[cY]
 simp only[shape,q]⟩
theorem ti{st:aS}{x:Str}:gc st n (.str x):= .inl ⟨.inl rfl,fun _ st' b g q=>by
 rw[cY]
 simp only[shape,q]⟩
theorem tm{st:aS}{x:Int}:gc st n (.int x):= .inl ⟨.inl rfl,fun _ st' b g q=>by
 rw[cY]
 simp only[shape,q]⟩
theorem tw{st:aS}{ds:List D}(hu:st[u]? =some (.lst (cutD ds none (some (-1))))):gc st ds.length (.ref u):=by
 cases ds with
 |nil=>exact .inr ⟨rfl,fun st' b g q=>by
   have e:cutD ([]:List D) none (some (-1))=[]:=by unfold cutD;simp
   rw[e] at hu
   rw[lQ (g.at hu) q]
   rfl⟩
 |cons d ds=>
  refine g_ hu ?_
  unfold cutD
  rw[n6 (by simp),HT.gV]
  simp
end
section
variable{k:Nat}{st:aS}{R:Fl→aS→Prop}{sp v cp f1 f2 fn bl en:Nat}{ks:List Kd}{ds:List D}{rs:List (Nat×Nat)}{last du b:D}{one:Int}{a0 a1 a3 a7 a10 a11 a12 a13 a14 a15:Option D}{ss:List S}
theorem nR(h:Cn st sp v cp f1 f2 fn bl en ks ds rs last)(hx:Bg st ks.length x)
  (q:∀st',Gr st st'→W (execs (calls tab (k+9)) ss [a0,a1,some (.ref sp),a3,some (.ref v),some (.ref cp),some du,a7,some (.int one),some b,a10,some x,a12,a13,a14,a15] st') R):
  W (execs (calls tab (k+9)) (.ite (.cmp .NotEq (.fn 17 [(.v 5),(.v 11),(.ix (.lst [(.v 9),(.c (.int (7)))]) (.bin .mod (.bin .fdiv (.v 8) (.c (.int (5)))) (.c (.int (2)))))]) (.lst [(.c (.str "input")),(.c (.non)),(.c (.bl true)),(.c (.bl true)),(.c (.bl false))])) [.ret (.c (.bl false))] []::ss) [a0,a1,some (.ref sp),a3,some (.ref v),some (.ref cp),some du,a7,some (.int one),some b,a10,some x,a12,a13,a14,a15] st) R:=by
 have m0:=Int.emod_nonneg (one / 5) (show(2:Int)≠0 by omega)
 have m1:=aY (one / 5) (show(0:Int)<2 by omega)
 refine cZ (bZ (dv (ag (aZ rfl (ag (aZ rfl (ag (dq (bX (ag (aZ rfl (ag (bz (au ?_))))))))))))))
 refine bv (bv (aZ rfl (bz (gH (by omega) (bz (w_mod (by omega) (db aE m0 (by simpa using m1) fun bb _ _=>au ?_)))))))
 have g1:Gr st (st++[O.lst [b,.int 7]]):= .one _ _
 refine pw (k:=k) (p:= .non) (xF (k:=k) (h.cd.gr g1) (hx.gr g1) fun n st' g e=>⟨n,rfl,g,e⟩) fun m st3 g3 e3=>?_
 refine bX (ag (bz (ag (bz (ag (bz (ag (bz (ag (bz (au ?_)))))))))))
 refine l_ (k:=true) (hW (aI e3) aE ?_) ⟨false,rfl,nofun,fun _=>?_⟩
 ·intro x hx
  simp only[List.mem_cons,List.not_mem_nil,or_false] at hx
  rcases hx with rfl|rfl|rfl|rfl|rfl<;>exact .inl (bF rfl)
 ·exact aT (bq (q _ (g1.trans (g3.more _))))
theorem Ad(h:Cn st sp v cp f1 f2 fn bl en ks ds rs last)
  (q:∀x10 x11 st',Gr st st'→W (execs (calls tab (k+9)) ss [a0,a1,some (.ref sp),a3,some (.ref v),some (.ref cp),some du,a7,some (.int one),some b,x10,x11,a12,a13,a14,a15] st') R):
  W (execs (calls tab (k+9)) (.set 10 (.lst [(.bin .add (.v 4) (.lst [(.c (.int (0)))])),(.bt .tuple [(.v 4)]),(.c (.non)),.emp,(.c (.str "ab")),(.bin .add (.v 4) (.lst [(.c (.non)),(.c (.int (1)))])),(.c (.int (5))),(.sl (.v 4) (.neg (.c (.int (1)))) (.neg (.c (.int (1)))) false true)]):: .app (.v 10) (.bin .mul (.lst [(.lst [])]) (.bin .add (.bt .len [(.v 4)]) (.c (.int (1))))):: .set 11 (.ix (.v 10) (.bin .mod (.v 8) (.c (.int (9))))):: .ite (.and (.cmp .Eq (.v 4) (.lst [])) (.cmp .Eq (.v 11) (.lst []))) [.set 11 (.c (.non))] []:: .ite (.cmp .NotEq (.fn 17 [(.v 5),(.v 11),(.ix (.lst [(.v 9),(.c (.int (7)))]) (.bin .mod (.bin .fdiv (.v 8) (.c (.int (5)))) (.c (.int (2)))))]) (.lst [(.c (.str "input")),(.c (.non)),(.c (.bl true)),(.c (.bl true)),(.c (.bl false))])) [.ret (.c (.bl false))] []::ss) [a0,a1,some (.ref sp),a3,some (.ref v),some (.ref cp),some du,a7,some (.int one),some b,a10,a11,a12,a13,a14,a15] st) R:=by
 have hn:ds.length=ks.length:=h.fit.1
 have h4:=h.l4
 refine bu (bX (ag (bv (aZ rfl (bX (ag (bz (au (im (aI h.v) aE (by simp;omega) ?_)))))))))
 obtain⟨s1,hs1⟩:∃s1,s1=st++[O.lst [.int 0]]++[O.lst (ds++[.int 0])]:=⟨_,rfl⟩
 have g1:Gr st s1:=by rw[hs1];exact(Gr.one _ _).more _
 have n1:gc s1 ks.length (.ref (st++[O.lst [.int 0]]).length):=g_ (by rw[hs1];exact aE) (by simp;omega)
 rw[←hs1]
 generalize (st++[O.lst [.int 0]]).length=u1 at n1 ⊢
 refine ag (cG (ag (aZ rfl (au (bW (g1.at h.v) ?_)))))
 refine ag (bz (ag (pc (ag (bz ?_)))))
 obtain⟨s2,hs2⟩:∃s2,s2=s1++[O.dct []]:=⟨_,rfl⟩
 have g2:Gr s1 s2:=by rw[hs2];exact .one _ _
 have n2:gc s2 ks.length (.ref s1.length):=tq (by rw[hs2];exact aE)
 rw[←hs2]
 have hv2:=g2.at (g1.at h.v)
 refine ag (bv (aZ rfl (bX (ag (bz (ag (bz (au (im (aI hv2) aE (by simp;omega) ?_)))))))))
 obtain⟨s3,hs3⟩:∃s3,s3=s2++[O.lst [.non,.int 1]]++[O.lst (ds++[.non,.int 1])]:=⟨_,rfl⟩
 have g3:Gr s2 s3:=by rw[hs3];exact(Gr.one _ _).more _
 have n3:gc s3 ks.length (.ref (s2++[O.lst [.non,.int 1]]).length):=g_ (by rw[hs3];exact aE) (by simp;omega)
 rw[←hs3]
 generalize (s2++[O.lst [.non,.int 1]]).length=u3 at n3 ⊢
 have hv3:=g3.at hv2
 refine ag (bz (ag (ik (aZ rfl (oZ (bz ⟨1,rfl,⟨-1,rfl,l8 hv3 ?_⟩⟩))))))
 obtain⟨s4,hs4⟩:∃s4,s4=s3++[O.lst (cutD ds none (some (-1)))]:=⟨_,rfl⟩
 have g4:Gr s3 s4:=by rw[hs4];exact .one _ _
 have n4:gc s4 ks.length (.ref s3.length):=by rw[←hn];exact tw (by rw[hs4];exact aE)
 rw[←hs4]
 have hv4:=g4.at hv3
 refine au ?_
 generalize hB:([.ref u1,.tup ds,.non,.ref s1.length,.str "ab",.ref u3,.int 5,.ref s3.length]:List D)=B
 have hB8:B.length=8:=by rw[←hB];rfl
 have all8:∀x∈B,gc s4 ks.length x:=fun x hx=>by
  rw[←hB] at hx
  simp only[List.mem_cons,List.not_mem_nil,or_false] at hx
  rcases hx with rfl|rfl|rfl|rfl|rfl|rfl|rfl|rfl
  ·exact n1.gr (g2.trans (g3.trans g4))
  ·exact tf
  ·exact tj
  ·exact n2.gr (g3.trans g4)
  ·exact ti
  ·exact n3.gr g4
  ·exact tm
  ·exact n4
 refine me (aZ rfl (gf aE (bv (bX (ag (bX (au (au (bv (cG (ag (aZ rfl (au (eI (aI (aI (aI hv4))) (bz (w_add (nF aE (by simp;omega) ?_)))))))))))))))))
 refine eR (aI (aI (aI aE))) (by omega) ?_
 obtain⟨s7,hs7⟩:∃s7,s7=s4++[O.lst B]++[O.lst []]++[O.lst [.ref (s4++[O.lst B]).length]]:=⟨_,rfl⟩
 have l7:s7.length=s4.length+3:=by rw[hs7];simp
 have g7:Gr s4 s7:=by rw[hs7];exact((Gr.one _ _).more _).more _
 rw[←hs7]
 generalize hF:(List.replicate ((ds.length:Int)+1).toNat [D.ref (s4++[O.lst B]).length]).flatten=F
 have hFl:F.length=ds.length+1:=by rw[←hF];simp
 obtain⟨s9,hs9⟩:∃s9,s9=(s7++[O.lst F]).set s4.length (.lst (B++[.ref s7.length])):=⟨_,rfl⟩
 have g9:Gr s4 s9:=by rw[hs9];exact(g7.more _).set (af _)
 have e9:s9[s4.length]? =some (.lst (B++[.ref s7.length])):=by rw[hs9];exact bo (by simp;omega)
 have n9:gc s9 ks.length (.ref s7.length):=g_ (by rw[hs9,ah (by omega)];exact aE) (by omega)
 rw[←hs9]
 have m0:=Int.emod_nonneg one (show(9:Int)≠0 by omega)
 have m1:=aY one (show(0:Int)<9 by omega)
 refine bu (dq (aZ rfl (bv (aZ rfl (bz (w_mod (by omega) (db e9 m0 (by simp[hB8];omega) fun x hx _=>?_)))))))
 have nx:gc s9 ks.length x:=by
  rcases List.mem_append.mp hx with hx|hx
  ·exact(all8 x hx).gr g9
  ·have:x=.ref s7.length:=by simpa using hx
   subst this
   exact n9
 have gA:Gr st s9:=g1.trans (g2.trans (g3.trans (g4.trans g9)))
 have h9:=h.gr gA
 refine cZ (w_and (bZ (aZ rfl (bX (au (w_eq (lQ (aI h9.v) aE) ⟨ds.isEmpty,rfl,fun he=>?_,fun he=>?_⟩))))))
 ·refine bZ (aZ rfl (bX (au ?_)))
  have gB:Gr s9 (s9++[O.lst []]++[O.lst []]):=(Gr.one _ _).more _
  have z:ks.length=0:=by rw[←hn];cases ds<;>simp at he ⊢
  rcases nx with⟨hN,hE⟩|⟨hz,hE⟩
  ·refine w_eq (hE z _ _ gB aE) ⟨false,rfl,nofun,fun _=>aT (bq ?_)⟩
   exact nR (h9.gr gB) (hN.gr gB) fun st' g=>q _ _ st' (gA.trans (gB.trans g))
  ·refine w_eq (hE _ _ gB aE) ⟨true,rfl,fun _=>bu (bz (aT (bq ?_))),nofun⟩
   exact nR (x:= .non) (h9.gr gB) (.inl rfl) fun st' g=>q _ _ st' (gA.trans (gB.trans g))
 ·have gB:Gr s9 (s9++[O.lst []]):=Gr.one _ _
  have z:ks.length≠0:=by rw[←hn];cases ds<;>simp at he ⊢
  rcases nx with⟨hN,hE⟩|⟨hz,hE⟩
  ·refine⟨false,rfl,nofun,fun _=>aT (bq ?_)⟩
   exact nR (h9.gr gB) (hN.gr gB) fun st' g=>q _ _ st' (gA.trans (gB.trans g))
  ·exact absurd hz z
end
section
variable{k:Nat}{st:aS}{R:Fl→aS→Prop}{sp v cp f1 f2 fn bl en:Nat}{ks:List Kd}{ds:List D}{rs:List (Nat×Nat)}{last du b:D}{one:Int}{a0 a1 a3 a7 a10 a11 a12 a13 a14 a15:Option D}{ss:List S}
theorem r_{w:Nat}{tl:List D}{kd:Kd}(h:Cn st sp v cp f1 f2 fn bl en ks ds rs last)(hka:ks[a]? =some kd)(hx:qj st kd x)(hs:ii x)(hw:st[w]? =some (.lst (ds.take a++[x]++tl)))(hl:tl.length=ds.length - a - 1)(ht:∀y∈tl,ii y)
  (q:∀x15 st',Gr st st'→R (.nx [a0,a1,some (.ref sp),a3,some (.ref v),some (.ref cp),some du,a7,some (.int one),some b,a10,a11,some (.int (a:Int)),a13,some (.ref w),x15]) st'):
  W (execs (calls tab (k+9)) [.set 15 (.bt .list [(.v 14)]),.ite (.cmp .NotEq (.fn 17 [(.v 5),(.v 14),(.ix (.lst [(.v 9),(.c (.int (7)))]) (.bin .mod (.v 8) (.c (.int (2)))))]) (.lst [(.c (.str "input")),(.v 12),(.c (.bl true)),(.c (.bl true)),(.c (.bl false))])) [.ret (.c (.bl false))] [],.ite (.cmp .NotEq (.v 14) (.v 15)) [.ret (.c (.bl false))] []] [a0,a1,some (.ref sp),a3,some (.ref v),some (.ref cp),some du,a7,some (.int one),some b,a10,a11,some (.int (a:Int)),a13,some (.ref w),a15] st) R:=by
 have hn:ds.length=ks.length:=h.fit.1
 have ha:=(aA hka).1
 have h4:=h.l4
 have m0:=Int.emod_nonneg one (show(2:Int)≠0 by omega)
 have m1:=aY one (show(0:Int)<2 by omega)
 have hlt:(ds.take a).length=a:=by simp;omega
 have hat:(ds.take a++[x]++tl)[a]? =some x:=by
  rw[List.append_assoc,aQ (by omega)]
  simp[hlt]
 have hlen:(ds.take a++[x]++tl).length=ks.length:=by simp;omega
 have hfit:∀i kd d,i<a→ks[i]? =some kd→(ds.take a++[x]++tl)[i]? =some d→fits kd d:=fun i kd d hi h1 h2=>by
  rw[List.append_assoc,aN (by omega),List.getElem?_take_of_lt hi] at h2
  exact h.fit.2 i kd d h1 h2
 have hself:∀y∈ds.take a++[x]++tl,ii y:=fun y hy=>by
  simp only[List.mem_append,List.mem_singleton] at hy
  rcases hy with(hy|rfl)|hy
  ·exact mm h.fit y (List.mem_of_mem_take hy)
  ·exact hs
  ·exact ht y hy
 generalize ds.take a++[x]++tl=hand at hw hat hlen hfit hself
 refine bu (cG (ag (aZ rfl (au (iY hw ?_)))))
 refine cZ (bZ (dv (ag (aZ rfl (ag (aZ rfl (ag (dq (bX (ag (aZ rfl (ag (bz (au ?_))))))))))))))
 refine bv (aZ rfl (bz (w_mod (by omega) (db aE m0 (by simpa using m1) fun bb _ _=>au ?_))))
 have g2:Gr st (st++[O.lst hand]++[O.lst [b,.int 7]]):=(Gr.one _ _).more _
 refine pw (k:=k) (p:= .int (a:Int)) (xE (k:=k) (at_:=a) h.ok (h.cd.gr g2) (g2.at hw) hlen hfit ha (fun kd' d st' h1 h2 g=>?_) fun n st' g e=>⟨n,rfl,g,e⟩) fun m st3 g3 e3=>?_
 ·rw[hka] at h1
  rw[hat] at h2
  cases h1
  cases h2
  exact hx (k+3) _ st' (g2.trans g) fun st'' g'=>⟨rfl,g'⟩
 refine bX (ag (bz (ag (aZ rfl (ag (bz (ag (bz (ag (bz (au ?_)))))))))))
 refine l_ (k:=true) (hW (aI e3) aE ?_) ⟨false,rfl,nofun,fun _=>?_⟩
 ·intro y hy
  simp only[List.mem_cons,List.not_mem_nil,or_false] at hy
  rcases hy with rfl|rfl|rfl|rfl|rfl<;>exact .inl (bF rfl)
 have g5:=g2.trans (g3.more (.lst [.str "input",.int (a:Int),.bl true,.bl true,.bl false]))
 have e15:(st++[O.lst hand]++[O.lst [b,.int 7]])[st.length]? =some (O.lst hand):=aI aE
 refine aT (bq (cZ (bZ (aZ rfl (aZ rfl (l_ (k:=true) (hW (g5.at hw) (aI (g3.at e15)) hself) ⟨false,rfl,nofun,fun _=>aT (bq (aT ?_))⟩))))))
 exact q _ _ g5
theorem Ac(h:Cn st sp v cp f1 f2 fn bl en ks ds rs last)
  (q:∀x12 x13 x14 x15 st',Gr st st'→W (execs (calls tab (k+9)) ss [a0,a1,some (.ref sp),a3,some (.ref v),some (.ref cp),some du,a7,some (.int one),some b,a10,a11,x12,x13,x14,x15] st') R):
  W (execs (calls tab (k+9)) (.ite (.cmp .NotEq (.v 4) (.lst [])) [.set 12 (.bin .mod (.bin .fdiv (.v 8) (.c (.int (3)))) (.bt .len [(.v 4)])),.set 13 (.lst [(.fn 14 [(.ix (.v 2) (.v 12)),(.ix (.v 4) (.v 12)),(.bin .fdiv (.v 8) (.c (.int (11))))])]),.set 14 (.bin .add (.bin .add (.sl (.v 4) (.v 12) (.v 12) false true) (.v 13)) (.bin .mul (.lst [(.c (.non))]) (.bin .sub (.bin .sub (.bt .len [(.v 4)]) (.v 12)) (.c (.int (1)))))),.ite (.cmp .Eq (.bin .mod (.bin .fdiv (.v 8) (.c (.int (2)))) (.c (.int (2)))) (.c (.int (0)))) [.set 14 (.bin .add (.sl (.v 14) (.bin .add (.v 12) (.c (.int (1)))) (.bin .add (.v 12) (.c (.int (1)))) false true) (.sl (.v 4) (.bin .add (.v 12) (.c (.int (1)))) (.bin .add (.v 12) (.c (.int (1)))) true false))] [],.set 15 (.bt .list [(.v 14)]),.ite (.cmp .NotEq (.fn 17 [(.v 5),(.v 14),(.ix (.lst [(.v 9),(.c (.int (7)))]) (.bin .mod (.v 8) (.c (.int (2)))))]) (.lst [(.c (.str "input")),(.v 12),(.c (.bl true)),(.c (.bl true)),(.c (.bl false))])) [.ret (.c (.bl false))] [],.ite (.cmp .NotEq (.v 14) (.v 15)) [.ret (.c (.bl false))] []] []::ss) [a0,a1,some (.ref sp),a3,some (.ref v),some (.ref cp),some du,a7,some (.int one),some b,a10,a11,a12,a13,a14,a15] st) R:=by
 have hn:ds.length=ks.length:=h.fit.1
 have h4:=h.l4
 have g0:Gr st (st++[O.lst []]):= .one _ _
 refine cZ (bZ (aZ rfl (bX (au (l_ (lQ (aI h.v) aE) ⟨!ds.isEmpty,rfl,fun he=>?_,fun he=>aT (bq (q _ _ _ _ _ g0))⟩)))))
 have hl:0<ds.length:=by cases ds<;>simp at he ⊢
 have h0:=h.gr g0
 generalize st++[O.lst []]=s0 at g0 h0 ⊢
 have m0:=Int.emod_nonneg (one / 3) (show(ds.length:Int)≠0 by omega)
 have m1:=aY (one / 3) (show(0:Int)<ds.length by omega)
 obtain⟨a,ha⟩:∃a:Nat,one / 3 % (ds.length:Int)=a:=⟨(one / 3 % (ds.length:Int)).toNat,by omega⟩
 rw[ha] at m1
 have hlt:a<ds.length:=by omega
 have hkl:a<ks.length:=by omega
 have hka:ks[a]? =some ks[a]:=aC hkl
 have hda:ds[a]? =some ds[a]:=aC hlt
 have hm:(ks.map Kd.d)[a]? =some (Kd.d ks[a]):=by rw[aM,hka];rfl
 refine bu (bv (bv (aZ rfl (bz (gH (by omega) (cG (ag (aZ rfl (au (eI h0.v (w_mod (by omega) ?_)))))))))))
 rw[ha]
 refine bu (bX (ag (dv (ag (dq (aZ rfl (aZ rfl (iZ h0.sp hm (ag (dq (aZ rfl (aZ rfl (iZ h0.v hda (ag (bv (aZ rfl (bz (gH (by omega) (au ?_)))))))))))))))))))
 refine Ai (k:=k+8) (h.ok _ (al hka)) (h.fit.2 _ _ _ hka hda) fun x st1 g1 hx hs=>?_
 have h1:=h0.gr g1
 refine au ?_
 refine bu (bv (bv (ik (aZ rfl (aZ rfl ⟨_,rfl,l8 (aI h1.v) ?_⟩)))))
 rw[ur (Nat.le_of_lt hlt)]
 refine aZ rfl (im aE (aI aE) (by simp;omega) ?_)
 refine bv (bX (ag (bz (au (bv (bv (cG (ag (aZ rfl (au (eI (aI (aI (aI (aI h1.v)))) (aZ rfl (w_sub (bz (w_sub (nF aE (by simp;omega) ?_))))))))))))))))
 refine im (aI (aI aE)) aE (by simp;omega) ?_
 generalize hT:(List.replicate ((ds.length:Int) - (a:Int) - 1).toNat [D.non]).flatten=tl
 have hTl:tl.length=ds.length - a - 1:=by rw[←hT];simp
 have hTs:∀y∈tl,ii y:=fun y hy=>by
  rw[←hT] at hy
  simp at hy
  rw[hy.2]
  exact .inl (bF rfl)
 obtain⟨t5,h5⟩:∃t5,t5=st1++[O.lst [x]]++[O.lst (ds.take a)]++[O.lst (ds.take a++[x])]++[O.lst [.non]]++[O.lst tl]:=⟨_,rfl⟩
 have g5:Gr st1 t5:=by rw[h5];exact((((Gr.one _ _).more _).more _).more _).more _
 rw[←h5]
 have g6:=g5.more (.lst (ds.take a++[x]++tl))
 have hw:(t5++[O.lst (ds.take a++[x]++tl)])[t5.length]? =some (.lst (ds.take a++[x]++tl)):=aE
 generalize t5.length=w at hw ⊢
 generalize t5++[O.lst (ds.take a++[x]++tl)]=s6 at g6 hw ⊢
 have h6:=h1.gr g6
 have gA:=g0.trans (g1.trans g6)
 refine cZ (bZ (bv (bv (aZ rfl (bz (gH (by omega) (bz (w_mod (by omega) (bz (o_ ⟨_,rfl,fun _=>?_,fun _=>?_⟩))))))))))
 ·have ec:((a:Int)+1)=((a+1:Nat):Int):=by omega
  refine bu (bv (ik (aZ rfl (bv (aZ rfl (bz (w_add ⟨_,rfl,l8 hw ?_⟩)))))))
  rw[ec,ur (by simp;omega)]
  refine jj (aZ rfl (bv (aZ rfl (bz (w_add ⟨_,rfl,l8 (aI h6.v) ?_⟩)))))
  rw[ec,qb (by omega)]
  have et:(ds.take a++[x]++tl).take (a+1)=ds.take a++[x]:=by
   rw[List.take_append_of_le_length (by simp;omega)]
   exact List.take_of_length_le (by simp;omega)
  rw[et]
  refine im (aI aE) aE (by simp;omega) ?_
  have g7:Gr s6 (s6++[O.lst (ds.take a++[x])]++[O.lst (ds.drop (a+1))]++[O.lst (ds.take a++[x]++ds.drop (a+1))]):=((Gr.one _ _).more _).more _
  refine aT (bq (r_ (h6.gr g7) hka (hx.gr (g6.trans g7)) hs aE (by simp;omega) (fun y hy=>mm h.fit y (List.mem_of_mem_drop hy)) fun x15 st' g=>?_))
  exact bq (q _ _ _ _ st' (gA.trans (g7.trans g)))
 ·refine aT (bq (r_ h6 hka (hx.gr g6) hs hw hTl hTs fun x15 st' g=>?_))
  exact bq (q _ _ _ _ st' (gA.trans g))
end
theorem x3{i:Nat}(h:(bp n)[i]? =some x):x=.int (i:Int):=by
 unfold bp at h
 rw[aM] at h
 cases q:(List.range n)[i]? with
 |none=>rw[q] at h;cases h
 |some j=>
  rw[q] at h
  obtain⟨_,e⟩:=aA q
  have:j=i:=by simpa using e.symm
  subst this
  exact(aj h).symm
theorem zF{lo hi:Option Int}(h:Q (.ref st.length) (st++[.lst (cutD xs lo hi)])):W (slice (.fl xs) lo hi st) Q:=by simp only[slice,cr];exact h
section
variable{k:Nat}{st:aS}{ns:List Int}{sp v cp f1 f2 fn bl en:Nat}{ks:List Kd}{ds:List D}{rs:List (Nat×Nat)}{last d:D}{kd:Kd}
theorem xL{c2:Int}{a7 a8 a9 a10 a11 a12 a13 a14 a15:Option D}(hn:ns.length≤63)(h:Cn st sp v cp f1 f2 fn bl en ks ds rs last)(ho:kd.ok)(hd:fits kd d)(hL:LV ds last d):
  W (execs (calls tab (k+9)) (kz.body.drop 6) [some (.fl (ns.map .int)),some (.int c),some (.ref sp),some (.int c2),some (.ref v),some (.ref cp),some (zu ds rs d),a7,a8,a9,a10,a11,a12,a13,a14,a15] st) (Kr fun d _=>d=.bl true):=by
 dsimp only[kz,List.drop]
 have hself:∀{s:aS},cY 60 s (zu ds rs d) (zu ds rs d)=some true:=ww (n:=4) (by omega) (yc h.fit (fun r hr=>(h.cd.rows r hr).1) hd)
 have z0:=Int.emod_nonneg (mx c 3) (show(10001:Int)≠0 by omega)
 have z1:=aY (mx c 3) (show(0:Int)<10001 by omega)
 refine kZ (fun n ys i loc st'=>Gr st st'∧st'[n]? =some (.lst ys)∧(∀y∈ys,∃i:Int,y=.int i∧0≤i∧i≤10000)∧∃z,loc=[some (.fl (ns.map .int)),some (.int c),some (.ref sp),some (.int c2),some (.ref v),some (.ref cp),some (zu ds rs d),z,a8,a9,a10,a11,a12,a13,a14,a15]) ?_
 refine bX (ag (bz (ag (bz (ag (bz (ag (bv (dv (ag (aZ rfl (ag (bz (au (ff (k:=k+8) (bz (w_mod (by omega) (au ?_))))))))))))))))))
 refine⟨_,_,rfl,aE,⟨.one _ _,aE,fun y hy=>?_,_,rfl⟩,fun i loc st' q=>q.2.1,?_,?_⟩
 ·simp only[List.mem_cons,List.not_mem_nil,or_false] at hy
  rcases hy with rfl|rfl|rfl|rfl
  ·exact⟨0,rfl,by omega,by omega⟩
  ·exact⟨1,rfl,by omega,by omega⟩
  ·exact⟨10000,rfl,by omega,by omega⟩
  ·exact⟨_,rfl,z0,by omega⟩
 ·rintro i x loc st' hx ⟨g,e,hy,z,rfl⟩
  obtain⟨i',rfl,b0,b1⟩:=hy x (al hx)
  have h1:=h.gr g
  refine cZ (bZ (dv (ag (aZ rfl (ag (aZ rfl (ag (aZ rfl (au ?_)))))))))
  refine pA (k:=k) h1.ok h1.fit h1.l4 ho hd hL h1.cd h1.v ⟨b0,b1⟩ fun st1 g1=>?_
  refine aZ rfl (l_ (k:=true) hself ⟨false,rfl,nofun,fun _=>?_⟩)
  exact aT (bq (aT ⟨g.trans g1,g1.at e,hy,_,rfl⟩))
 ·rintro loc st1 ⟨g1,_,_,z,rfl⟩
  have h1:=h.gr g1
  refine kZ (fun n ys i loc st'=>Gr st1 st'∧st'[n]? =some (.lst ys)∧(∀y∈ys,∃i:Int,y=.int i)∧∃b8 b9 b10 b11 b12 b13 b14 b15,loc=[some (.fl (ns.map .int)),some (.int c),some (.ref sp),some (.int c2),some (.ref v),some (.ref cp),some (zu ds rs d),z,b8,b9,b10,b11,b12,b13,b14,b15]) ?_
  refine bv (zG (aZ rfl (bz ⟨_,rfl,bz ⟨_,rfl,zF ?_⟩⟩)))
  refine bX (ag (dv (ag (aZ rfl (ag (bz (au (ff (k:=k+8) (au ?_)))))))))
  have cl:(cutD (ns.map D.int) (some 2) (some 30)).length≤63:=by
   unfold cutD
   simp
   omega
  refine im (aI aE) aE (by simp;omega) ?_
  refine⟨_,_,rfl,aE,⟨((Gr.one _ _).more _).more _,aE,fun y hy=>?_,_,_,_,_,_,_,_,_,rfl⟩,fun i loc st' q=>q.2.1,?_,?_⟩
  ·rcases List.mem_append.mp hy with hy|hy
   ·unfold cutD at hy
    obtain⟨i,_,rfl⟩:=List.mem_map.mp (List.mem_of_mem_drop (List.mem_of_mem_take hy))
    exact⟨i,rfl⟩
   ·simp at hy
    exact⟨_,hy⟩
  ·rintro i x loc st' hx ⟨g,e,hy,b8,b9,b10,b11,b12,b13,b14,b15,rfl⟩
   obtain⟨one,rfl⟩:=hy x (al hx)
   have h2:=h1.gr g
   refine Ae (k:=k) h2 fun b s1 q1 hb=>?_
   refine Ad (k:=k) (h2.gr q1) fun x10 x11 s2 q2=>?_
   refine Ac (k:=k) (h2.gr (q1.trans q2)) fun x12 x13 x14 x15 s3 q3=>?_
   have gq:=q1.trans (q2.trans q3)
   exact aT ⟨g.trans gq,gq.at e,hy,_,_,_,_,_,_,_,_,rfl⟩
  ·rintro loc st2 ⟨g2,_,_,b8,b9,b10,b11,b12,b13,b14,b15,rfl⟩
   have h2:=h1.gr g2
   refine dn (bZ (dv (ag (aZ rfl (ag (cG (ag (aZ rfl (au (iY h2.v (ag (bz (au ?_)))))))))))))
   have h3:=h2.gr (Gr.one st2 (.lst ds))
   refine pA (k:=k) h3.ok h3.fit h3.l4 ho hd hL h3.cd aE (by omega) fun st3 g3=>?_
   exact aZ rfl (w_eq (k:=true) hself (kr rfl))
end
section
variable{k:Nat}{st:aS}{ns:List Int}
theorem Aj(hn:ns.length≤63):Wv (calls tab (k+10) AN [.fl (ns.map .int)] st) fun d _=>d=.bl true:=by
 walk_at "call0"
 refine bu (dv (ag (aZ rfl (ag (bz (au (su (k:=k+8) (j:=0) fun c=>?_)))))))
 have b0:=Int.emod_nonneg (mx c 1) (show(5:Int)≠0 by omega)
 have b1:=aY (mx c 1) (show(0:Int)<5 by omega)
 refine bu (jo (bv (dv (ag (aZ rfl (ag (bz (au (ff (k:=k+8) (bz (w_mod (by omega) ?_)))))))))))
 refine⟨_,jr (by omega),i6 (by rw[dS];omega) (fun i acc st'=>Gr st st'∧∃ks:List Kd,acc=ks.map Kd.d∧ks.length=i∧∀kd∈ks,Kd.ok kd) ⟨.refl _,[],rfl,rfl,by simp⟩ ?_ ?_⟩
 ·rintro i x acc st' hx ⟨g,ks,rfl,hi,hok⟩
  have:=x3 hx
  subst this
  refine pf (dv (ag (aZ rfl (ag (aZ rfl (au (xB (k:=k+7) fun kd st1 ho g1=>⟨g.trans g1,ks++[kd],by simp,by simp[hi],fun kd' hk=>?_⟩)))))))
  rcases List.mem_append.mp hk with hk|hk
  ·exact hok kd' hk
  ·have:kd'=kd:=by simpa using hk
   subst this
   exact ho
 ·rintro acc st0 ⟨g0,ks,rfl,hlen,hok⟩
  rw[dS] at hlen
  have l4:ks.length≤4:=by omega
  have hsp:(st0++[O.lst (ks.map Kd.d)])[st0.length]? =some (.lst (ks.map Kd.d)):=aE
  generalize st0.length=sp at hsp ⊢
  generalize st0++[O.lst (ks.map Kd.d)]=s1 at hsp ⊢
  refine bu (dv (ag (aZ rfl (ag (bz (au (su (k:=k+8) (j:=1) fun c2=>?_)))))))
  refine bu (md (fun n xs i acc st'=>Gr s1 st'∧n=sp∧xs=ks.map Kd.d∧acc.length=i∧∀(j:Nat)(kd:Kd)(d:D),ks[j]? =some kd→acc[j]? =some d→fits kd d) (aZ rfl ⟨sp,_,rfl,hsp,by simp;omega,⟨.refl _,rfl,rfl,rfl,fun j kd d _ q=>by simp at q⟩,fun i acc st' q=>by obtain⟨g,_⟩:=q;exact g.at hsp,?_,?_⟩))
  ·rintro i x acc st' hx ⟨g,_,_,hl,hf⟩
   rw[aM] at hx
   cases qk:ks[i]? with
   |none=>rw[qk] at hx;cases hx
   |some kd=>
    rw[qk] at hx
    cases hx
    refine dv (ag (aZ rfl (ag (aZ rfl (ag (aZ rfl (au (Am (k:=k+6) (hok kd (al qk)) fun d st2 hd g2=>⟨g.trans g2,rfl,rfl,by simp[hl],fun j kd' d' h1 h2=>?_⟩))))))))
    by_cases hj:j<acc.length
    ·rw[aN hj] at h2
     exact hf j kd' d' h1 h2
    ·rw[aQ (by omega)] at h2
     have hji:j - acc.length=0:=by
      have:=(aA h2).1
      simpa using this
     have:j=i:=by omega
     subst this
     rw[qk] at h1
     cases h1
     rw[hji] at h2
     cases h2
     exact hd
  ·rintro ds st2 ⟨g2,_,_,hl,hf⟩
   rw[List.length_map] at hl
   have hfit:da ks ds:=⟨hl,hf⟩
   have hv:(st2++[O.lst ds])[st2.length]? =some (.lst ds):=aE
   have hsp2:(st2++[O.lst ds])[sp]? =some (.lst (ks.map Kd.d)):=aI (g2.at hsp)
   generalize st2.length=v at hv ⊢
   generalize st2++[O.lst ds]=s3 at hv hsp2 ⊢
   refine bu (dv (ag (aZ rfl (ag (dv (ag (aZ rfl (ag (bz (au (ff (k:=k+8) (au ?_))))))))))))
   refine xK (k:=k+7) hsp2 l4 fun cp f1 f2 fn bl en rs last s4 g4 hC=>?_
   obtain⟨d,kd,hL,ho,hd⟩:=we hok hfit hC.last
   refine bu (dv (ag (aZ rfl (ag (aZ rfl (au (xN (k:=k+6) hok hfit ho hd hL hC (g4.at hv) fun s5 g5=>?_)))))))
   exact xL (k:=k) hn ⟨hok,hfit,l4,hC.gr g5,g5.at (g4.at hsp2),g5.at (g4.at hv)⟩ ho hd hL
end
end K27
namespace K27
noncomputable def top(i:Nat):Stmt:=PySem.Challenge.pw_eachstepsame_k27_beginnings_refused.main.body.getD i (.Pass ⟨0,0,0,0⟩)
noncomputable def meth(i j:Nat):Stmt:=match top i with| .ClassDef _ _ _ body _ _ _ _ _ _ _=>body.getD j (.Pass ⟨0,0,0,0⟩)|s=>s
noncomputable def names:List Str:=["is_whole","is_truth","parts_of","is_value","tagged","need_start","need_so_many","need_budget","run_blocks","_law_cell_at","_law_mixed","_law_sort_by","_law_pieces","_law_fitting","_law_no_value","_law_made","_law_tagged","_law_run","_law_good","_law_bad_budget","law"]
noncomputable def csts:List (Str×D):=[("NUM",.tup [.str "num"]),("TRUTH",.tup [.str "truth"])]
noncomputable def T:Tab:=⟨names,csts,[("NoInput",["NoInput","StepError","ValueError"]),("NoBudget",["NoBudget","StepError","ValueError"])],["StepError","NoInput","NoBudget"],[("NoInput",21),("NoBudget",22)],["place"],true,false,[⟨"Row",["Row"],["name","op","extra","operands"],[]⟩,⟨"Back",["Back","End"],["operand"],[]⟩,⟨"Block",["Block"],["params","rows","end"],[]⟩,⟨"Function",["Function"],["takes","gives","kinds","kept_kinds","blocks"],[]⟩,⟨"Code",["Code"],["functions","kept_functions"],[("function_named",28)]⟩,⟨"Run",["Run"],["ending","thing","log","kept_log","took","steps"],[("seen",30)]⟩,⟨"Stay",["Stay"],["function","have","rows","end"],[("come_to",41),("value_of",42)]⟩,⟨"BlockRunner",["BlockRunner","Pile","Going"],["code","frames","steps","budget","log","took","ending","thing"],[("answer",33),("begin",44),("do_end",46),("do_row",45),("end_call",38),("ended",34),("go_on",37),("leave",39),("run_from_main",36),("write",32)]⟩],["Jump","Branch","Back","Raise"],[("Row",23),("Back",24),("Block",25),("Function",26),("Code",27),("Run",29),("Stay",40),("BlockRunner",43)],[("Pile","__init__",35),("Going","__init__",31)]⟩
noncomputable def R1(x:Str)(ps more:List Str)(i:Nat)(f:Fn)(z:Bool):Rec:=⟨x,x,x,ps,ps++more,top i,f,z⟩
noncomputable def R2(m q:Str)(ps more:List Str)(i j:Nat)(f:Fn):Rec:=⟨q,m,q,ps,ps++more,meth i j,f,false⟩
noncomputable def be:List Rec:=[R1 "is_whole" ["thing"] [] 20 fk false,R1 "is_truth" ["thing"] [] 21 fm false,R1 "parts_of" ["kind"] [] 22 fj false,R1 "is_value" ["thing","kind"] ["parts"] 23 cB false,R1 "tagged" ["value"] [] 24 hV false,R1 "need_start" ["kinds","inputs","budget"] ["place","kind"] 38 bU true,R1 "need_so_many" ["count","inputs"] [] 39 cN true,R1 "need_budget" ["budget"] [] 40 dg true,R1 "run_blocks" ["code","inputs","budget"] [] 44 ci true,R1 "_law_cell_at" ["_law_script","_law_k"] [] 48 cQ false,R1 "_law_mixed" ["_law_cell","_law_k"] ["_law_number"] 49 dH false,R1 "_law_sort_by" ["_law_cell","_law_k"] ["_law_way","_law_parts","_law_by"] 50 cO false,R1 "_law_pieces" ["_law_kind"] [] 51 di false,R1 "_law_fitting" ["_law_kind","_law_cell","_law_k"] ["_law_way","_law_found","_law_j","_law_part"] 52 cP false,R1 "_law_no_value" ["_law_kind","_law_value","_law_cell"] ["_law_at","_law_other","_law_some","_law_one"] 53 bD false,R1 "_law_made" ["_law_sorts","_law_cell"] ["_law_plain","_law_steps","_law_gives","_law_last","_law_blocks"] 54 eh false,R1 "_law_tagged" ["_law_value"] [] 55 dh false,R1 "_law_run" ["_law_code","_law_things","_law_budget"] ["_law_told","_law_found","e"] 56 fo true,R1 "_law_good" ["_law_code","_law_values"] ["_law_block","_law_log","_law_last","_law_value"] 57 ei false,R1 "_law_bad_budget" ["_law_cell"] [] 58 bY false,R1 "law" ["_law_script"] ["_law_cell","_law_sorts","_law_other","_law_values","_law_code","_law_due","_law_budget","_law_one","_law_bad","_law_some","_law_none","_law_at","_law_wrong","_law_handed","_law_kept"] 59 kz false,R2 "__init__" "NoInput.__init__" ["self","place"] [] 14 0 cT,R2 "__init__" "NoBudget.__init__" ["self"] [] 15 0 cy,R2 "__init__" "Row.__init__" ["self","name","op","extra","operands"] [] 2 0 fu,R2 "__init__" "Back.__init__" ["self","operand"] [] 6 0 ez,R2 "__init__" "Block.__init__" ["self","params","rows","end"] [] 9 0 dM,R2 "__init__" "Function.__init__" ["self","takes","gives","kinds","blocks"] [] 10 0 cz,R2 "__init__" "Code.__init__" ["self","functions"] [] 11 0 em,R2 "function_named" "Code.function_named" ["self","name"] [] 11 4 bB,R2 "__init__" "Run.__init__" ["self","ending","thing","log","took","steps"] [] 36 0 ft,R2 "seen" "Run.seen" ["self"] [] 36 1 fq,R2 "__init__" "Going.__init__" ["self","budget"] [] 37 0 dL,R2 "write" "Going.write" ["self","value"] [] 37 2 dj,R2 "answer" "Going.answer" ["self","value"] [] 37 3 cU,R2 "ended" "Going.ended" ["self"] [] 37 5 dl,R2 "__init__" "Pile.__init__" ["self","budget"] [] 42 0 el,R2 "run_from_main" "Pile.run_from_main" ["self","inputs"] [] 42 1 bJ,R2 "go_on" "Pile.go_on" ["self"] ["stay","row"] 42 2 dJ,R2 "end_call" "Pile.end_call" ["self"] [] 42 5 cx,R2 "leave" "Pile.leave" ["self","value"] [] 42 6 dI,R2 "__init__" "Stay.__init__" ["self","function","given"] [] 45 0 ej,R2 "come_to" "Stay.come_to" ["self","number","given"] ["block","name","value"] 45 1 cR,R2 "value_of" "Stay.value_of" ["self","operand"] [] 45 5 cw,R2 "__init__" "BlockRunner.__init__" ["self","code","budget"] [] 46 0 bV,R2 "begin" "BlockRunner.begin" ["self","name","given"] [] 46 1 bO,R2 "do_row" "BlockRunner.do_row" ["self","stay","row"] [] 46 2 bK,R2 "do_end" "BlockRunner.do_end" ["self","stay","end"] [] 46 3 bL]
noncomputable def ad:List Addr:=[557,564,569,574,579,727,734,741,816,924,931,938,945,952,959,964,969,976,981,988,993,505,524,35,213,340,380,436,464,650,657,678,692,699,713,755,762,769,790,797,830,837,865,891,898,905,912]
theorem chk:∀r∈be,Chk T r:=by
 unfold be
 repeat' refine List.forall_mem_cons.mpr ⟨⟨⟨rfl,rfl,rfl,by decide+kernel,rfl,by decide+kernel,by decide+kernel⟩,by decide+kernel,by kernel_rfl,rfl,by decide+kernel⟩,?_⟩
 exact fun _ h=>nomatch h
theorem ba:∀r∈be,Bk r:=by
 unfold be
 repeat' refine List.forall_mem_cons.mpr ⟨by intro _ _ _ _ _ _ u0 hl;first|(have h0:u0.length=1:=hl;obtain⟨_,u1,e1,h1⟩:=uc h0;have z:=List.length_eq_zero_iff.mp h1;subst z;subst e1;rfl)|(have h0:u0.length=2:=hl;obtain⟨_,u1,e1,h1⟩:=uc h0;obtain⟨_,u2,e2,h2⟩:=uc h1;have z:=List.length_eq_zero_iff.mp h2;subst z;subst e2;subst e1;rfl)|(have h0:u0.length=3:=hl;obtain⟨_,u1,e1,h1⟩:=uc h0;obtain⟨_,u2,e2,h2⟩:=uc h1;obtain⟨_,u3,e3,h3⟩:=uc h2;have z:=List.length_eq_zero_iff.mp h3;subst z;subst e3;subst e2;subst e1;rfl)|(have h0:u0.length=4:=hl;obtain⟨_,u1,e1,h1⟩:=uc h0;obtain⟨_,u2,e2,h2⟩:=uc h1;obtain⟨_,u3,e3,h3⟩:=uc h2;obtain⟨_,u4,e4,h4⟩:=uc h3;have z:=List.length_eq_zero_iff.mp h4;subst z;subst e4;subst e3;subst e2;subst e1;rfl)|(have h0:u0.length=5:=hl;obtain⟨_,u1,e1,h1⟩:=uc h0;obtain⟨_,u2,e2,h2⟩:=uc h1;obtain⟨_,u3,e3,h3⟩:=uc h2;obtain⟨_,u4,e4,h4⟩:=uc h3;obtain⟨_,u5,e5,h5⟩:=uc h4;have z:=List.length_eq_zero_iff.mp h5;subst z;subst e5;subst e4;subst e3;subst e2;subst e1;rfl)|(have h0:u0.length=6:=hl;obtain⟨_,u1,e1,h1⟩:=uc h0;obtain⟨_,u2,e2,h2⟩:=uc h1;obtain⟨_,u3,e3,h3⟩:=uc h2;obtain⟨_,u4,e4,h4⟩:=uc h3;obtain⟨_,u5,e5,h5⟩:=uc h4;obtain⟨_,u6,e6,h6⟩:=uc h5;have z:=List.length_eq_zero_iff.mp h6;subst z;subst e6;subst e5;subst e4;subst e3;subst e2;subst e1;rfl),?_⟩
 exact fun _ h=>nomatch h
end K27
end Ev
namespace Ev.K27
open PySem PySem.Spec PyProof.Rows L2
theorem Cz(P:Params):kq (Op.K P) T be ad=true:=by kernel_rfl
theorem Cy(P:Params):(be.zip ad).map (fun p=>(Op.K P).lookup p.2)=(be.zip ad).map fun p=>zo p.1 ((Op.K P).lookup p.2):=by kernel_rfl
theorem CQ(P:Params):rc (Op.K P) T=true:=by kernel_rfl
theorem CO(P:Params):wn (Op.K P) T=true:=by kernel_rfl
theorem CP(P:Params):∀p∈T.ini,∃C,PySem.W.nsIn (Op.K P) mainGlobals p.1=some (some (.ref C))∧EMk (Op.K P) C:=List.forall_mem_cons.mpr ⟨⟨508,by kernel_rfl,⟨⟨_,_,_,_,_,_,_,_,_,_,_,_,_,_,_,_,_,_,_,_,(by kernel_rfl:(Op.K P).lookup 508=some Op.o508),(by kernel_rfl:(Op.K P).lookup 488=some Op.o488),by kernel_rfl,by kernel_rfl⟩⟩⟩,List.forall_mem_cons.mpr ⟨⟨527,by kernel_rfl,⟨⟨_,_,_,_,_,_,_,_,_,_,_,_,_,_,_,_,_,_,_,_,(by kernel_rfl:(Op.K P).lookup 527=some Op.o527),(by kernel_rfl:(Op.K P).lookup 488=some Op.o488),by kernel_rfl,by kernel_rfl⟩⟩⟩,fun _ h=>nomatch h⟩⟩
theorem s_end(ns:List Int)(hn:ns.length≤63):∃st',calls (be.map (·.fn)) 10 20 [.fl (ns.map .int)] []=.ok (.v (.bl true)) st':=by
 obtain⟨a,st',e,h⟩:=W.get (Aj (k:=0) (st:=[]) hn)
 cases a with
 |v d=>
  have h:d=.bl true:=h
  subst h
  exact⟨st',e⟩
 |x n=>exact h.elim
end Ev.K27
open PySem PySem.W PyProof.Rows
set_option maxRecDepth 100000 in
set_option maxHeartbeats 0 in
theorem PySem.Challenge.cw_eachstepsame_k27_beginnings_refused_holds : PySem.Challenge.rw_eachstepsame_k27_beginnings_refused.Holds := by
 w_on;o_law
 refine holds_open (q:=Op.q) (loose:=[]) (Xt:=Op.Xt) (XP:=XL Op.q []) (Yf:=Op.hk.obs) (Ya:=Op.hk.val) (YP:=Op.hk.says) (N:=14826) Op.left (Hook.of Op.hk) (Hook.keeps Op.hk) (fun s e=>xl_of s (Bool.and_eq_true_iff.mp e).1) XL.keeps (by rfl) (by rfl) (by rfl) (fun s e=>recFacts_of (Bool.and_eq_true_iff.mp e).2) (by rfl) (by first|assumption|decide+kernel) (by decide+kernel) ⟨rfl,rfl,rfl,rfl,rfl,by decide+kernel⟩ ?hw ?hc
 case hw=>w_witness2
 refine Ev.walk (l:=PySem.Challenge.rw_eachstepsame_k27_beginnings_refused) (n:=2*10) (x:= "_law_script") rfl rfl ⟨rfl,by decide,by decide⟩ (fun w h Y=>PySem.W.kIn_of (K:=Op.K) (as:=Op.as) (e:=Op.keys) Y) ?F
 case F=>
  intro w mg fa h KX G hmg
  exact Ev.wd (n:=10) (li:=20) (a:=993) (r:=Ev.K27.be[20]) KX G hmg Ev.K27.ba (Ev.K27.Cz _) (Ev.K27.Cy _) (Ev.qQ KX G Ev.K27.chk rfl Ev.K27.ba (Ev.K27.Cz _) (Ev.K27.Cy _) (by decide) (Ev.K27.CQ _) (Ev.K27.CO _) fun p hp C e=>by
   obtain⟨C2,e2,h2⟩:=Ev.K27.CP _ p hp
   cases e.symm.trans e2
   exact h2) rfl rfl (by kernel_rfl) rfl Ev.K27.s_end
