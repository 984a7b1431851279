import PyProof.Rows.All
import Wide.All
import OpenK.AllK
import Wide.FinOn
import PyProof.EqAt
import PyProof.EqKinds
import PyProof.TupleCall
import Lean
import PyProof.NeKinds
import PyProof.NeData
import PyProof.FactsAll.dict
import PyProof.EnumFor
import PyProof.EnumMake
import PyProof.EnumStmt
import PyProof.Draws
import PyProof.TupleIter
import PyProof.ZipIter
import PyProof.Rows.FactsT2
import PyProof.DictUpdate
import PyProof.ListRange
import KE.KRevIter
import PyProof.TupleOps
import PyProof.CallType
import PyProof.AttrMiss
import PyProof.IsiBase
import KE.KDictOf
import PyProof.ListMulRoad
import PyProof.EnumIter
import PyProof.FactsAll.enumerate
import PyProof.StrOps2
import PyProof.FitsBits
import PyProof.Rows.IntMath
import PyProof.IsiPairs
import PyProof.IsiHeapPairs
import PyProof.IsiNone
import PySem.Challenge.RW_eachstepsame_k17_runs_that_go_deep
set_option genSizeOf false
set_option genSizeOfSpec false
set_option maxRecDepth 100000
set_option maxHeartbeats 0
set_option Elab.async false
set_option linter.all false
noncomputable def PySem.W.Fast.tw18233158876485616500:PySem.Program:=PySem.Challenge.pw_eachstepsame_k17_runs_that_go_deep
theorem PySem.W.Fast.te18233158876485616500:PySem.Challenge.pw_eachstepsame_k17_runs_that_go_deep=PySem.W.Fast.tw18233158876485616500:=rfl
namespace Op
open PySem PySem.W PyProof.Rows PySem.Calls
noncomputable section
noncomputable def de(P:Params)(k:Str)(t:Nat)(v:Value):DictEntry:=⟨PyData.keyHash P k,.str k t,v⟩
noncomputable def tu(l:List Value):Obj:=⟨.type "tuple",none,.seq ⟨l⟩ 0,⟨[]⟩⟩
noncomputable def co(l:List Value):Obj:=⟨.type "code",none,.fields ⟨l⟩,⟨[]⟩⟩
noncomputable def ob(c:Value)(d:Data):Obj:=⟨c,none,d,⟨[]⟩⟩
noncomputable def at_:List Stmt->Nat->Stmt
 |[],_=> .Pass ⟨0,0,0,0⟩
 |s::_,0=>s
 |_::l,n+1=>at_ l n
noncomputable def inC:Stmt->List Stmt
 | .ClassDef _ _ _ b .. =>b
 |_=>[]
noncomputable def fd(s:Stmt)(qn:Str)(g:Nat)(cl:List (Str×Nat))(df kd dc pm:Value)(an:Option Nat)(cd ct:Value)(bl:Nat):Data:=match s with
 | .FunctionDef n a b _ _ _ sc _ _ _=> .func ⟨n,qn,a,.stmts b,sc,g,cl,df,kd,dc,pm,an,cd,ct,bl⟩
 |_=> .plain
noncomputable def body:List Stmt:=PySem.Challenge.pw_eachstepsame_k17_runs_that_go_deep.main.body
def q:Program:={PySem.Challenge.pw_eachstepsame_k17_runs_that_go_deep with main:={PySem.Challenge.pw_eachstepsame_k17_runs_that_go_deep.main with body:=((((((((body.eraseIdx 60).eraseIdx 44).eraseIdx 38).eraseIdx 33).eraseIdx 27).eraseIdx 17).eraseIdx 9).eraseIdx 0)}}
def t0:Obj:=tu []
def dr(P:Params)(k:Str)(t r:Nat):DictEntry:=de P k t (.ref r)
def ds(P:Params)(k:Str)(t:Nat)(x:Str)(u:Nat):DictEntry:=de P k t (.str x u)
def dc(n:Nat)(l:List DictEntry):Obj:=ob (.type "dict") (.dict ⟨l⟩ n)
noncomputable def lf(o:Obj):BT:= .node o .nil .nil
def n7(a b c d e f g:Obj):BT:= .node a (.node b (lf c) (lf d)) (.node e (lf f) (lf g))
def H0(a:Str)(b:Nat)(c:Int)(d:Nat)(e:Int):Obj:=co [(.str a b),(.str a (b+1)),(.str "/claim/cut.py" (b+2)),(.int c 0),(.int 0 0),(.int 0 0),(.int 0 0),(.int 0 0),(.ref d),(.bool false),(.int 181 0),(.ref (d+1)),.none,.none,.none,.none,(.int e 0),(.int c 0),(.str "/claim/cut.py" (b+4))]
noncomputable def H1(a:Nat)(b:Nat)(c:Str)(d:Nat):Obj:=⟨(.type "frame"),none,.plain,⟨[(some (.ref a)),(some (.ref 3)),(some (.ref b)),none,(some (.str c d)),none,(some (.ref 0))]⟩⟩
def H2(P:Params)(a:Nat)(b:Nat)(c:Int)(d:Str)(e:Nat)(f:Nat)(g:Str)(h:Nat)(i:Nat):Obj:=dc a [(ds P "__module__" b "eachstepsame.errors" 187),(de P "__firstlineno__" (b+4) (.int c (b+3))),(dr P d e f),(dr P g h i),(de P "__doc__" (h+1) .none)]
def H3(a:Nat)(b:Nat):Obj:=ob (.type "getset_descriptor") (.fields ⟨[(.str "__weakref__" a),(.ref b),(.builtin "ExceptionGroup.__weakref__"),.none]⟩)
def H4(a:Nat):Obj:=ob (.type "super") (.fields ⟨[(.ref a),(.ref a),(.ref a)]⟩)
def H5(a:Nat):Obj:=ob (.type "builtin_function_or_method") (.fields ⟨[(.builtin "object.__init_subclass__"),(.ref a)]⟩)
def H6(P:Params)(a:Nat)(b:Str)(c:Int)(d:Nat)(e:Nat)(f:Nat):Obj:=dc 5 [(ds P "__module__" a "eachstepsame.errors" 187),(ds P "__qualname__" (a+2) b (a+1)),(de P "__firstlineno__" (a+4) (.int c (a+3))),(dr P "__init__" d e),(dr P "__static_attributes__" f (e+1))]
def H7(a:Int)(b:Nat):Obj:=ob .none (.fields ⟨[(.int a 0),(.int 4 0),(.ref b)]⟩)
def H8(a:Str)(b:Nat)(c:Str)(d:Str):Obj:=tu [(.str a b),(.str c (b+1)),(.str d (b+2))]
def H9(a:Nat)(b:Nat)(c:Str):Obj:=ob .none (fd (at_ (inC (at_ body a)) b) c 0 [] .none .none .none .none none .none .none 0)
def H10(a:Str)(b:Nat)(c:Str)(d:Int)(e:Int)(f:Nat)(g:Int)(h:Nat):Obj:=co [(.str a b),(.str c (b+1)),(.str "/claim/cut.py" (b+2)),(.int d 0),(.int e 0),(.int 0 0),(.int 0 0),(.int 3 0),(.ref f),(.bool true),(.int 181 0),(.ref (f+1)),.none,(.ref (f+2)),(.ref (f+3)),(.ref (f+4)),(.int g 0),(.int d 0),(.str "/claim/cut.py" h)]
def H11(a:Nat)(b:Nat)(c:Str)(d:Str)(e:Nat)(f:Nat):Obj:=ob (.type "function") (fd (at_ (inC (at_ body a)) b) c 3 [] .none .none .none (.str d e) none (.ref f) .none 0)
def H12(a:Str)(b:Nat)(c:Str):Obj:=tu [(.str a b),(.str c (b+1))]
noncomputable def H13(a:Str)(b:Nat)(c:Nat)(d:Nat)(e:Nat):Obj:=⟨(.type "type"),none,(.cls ⟨a,[(.ref 24)],[(.ref b),(.ref 24),(.type "ValueError"),(.type "Exception"),(.type "BaseException"),(.type "object")],c,a,true,[],[],false,none,false⟩),⟨[(some (.ref d)),none,(some (.str a e)),(some (.str a (e+8))),(some (.builtin "ValueError.__new__")),(some (.bool true))]⟩⟩
def H14(a:Str)(b:Nat):Obj:=tu [(.str a b)]
def H15(a:Nat)(b:Str):Obj:=ob .none (fd (at_ body a) b 0 [] .none .none .none .none none .none .none 0)
def H16(a:Nat)(b:Str)(c:Str)(d:Nat)(e:Nat):Obj:=ob (.type "function") (fd (at_ body a) b 3 [] .none .none .none (.str c d) none (.ref e) .none 0)
def H17(a:Str)(b:Nat)(c:Str)(d:Int)(e:Int)(f:Nat)(g:Int):Obj:=co [(.str a b),(.str c (b+1)),(.str "/claim/cut.py" (b+2)),(.int d 0),(.int e 0),(.int 0 0),(.int 0 0),(.int 3 0),(.ref f),(.bool true),(.int 181 0),(.ref (f+1)),.none,.none,.none,(.ref (f+2)),(.int g 0),(.int d 0),(.str "/claim/cut.py" (b+4))]
def H18(a:Str)(b:Nat)(c:Str)(d:Str)(e:Str)(f:Str):Obj:=tu [(.str a b),(.str c (b+1)),(.str d (b+2)),(.str e (b+3)),(.str f (b+4))]
def H19(a:Str)(b:Nat)(c:Str)(d:Str)(e:Str)(f:Str)(g:Str):Obj:=tu [(.str a b),(.str c (b+1)),(.str d (b+2)),(.str e (b+3)),(.str f (b+4)),(.str g (b+5))]
noncomputable def H20(a:Str)(b:Nat)(c:Nat)(d:Nat):Obj:=⟨(.type "type"),none,(.cls ⟨a,[(.type "object")],[(.ref b),(.type "object")],c,a,true,[],[],false,none,false⟩),⟨[none,none,(some (.str a d)),(some (.str a (d+8))),(some (.builtin "object.__new__")),(some (.bool true))]⟩⟩
def H21(a:Nat)(b:Nat):Obj:=ob (.type "getset_descriptor") (.fields ⟨[(.str "__dict__" a),(.ref b),(.builtin "function.__dict__"),(.builtin "function.__dict__#set")]⟩)
def H22(a:Str)(b:Nat)(c:Str)(d:Str)(e:Str):Obj:=tu [(.str a b),(.str c (b+1)),(.str d (b+2)),(.str e (b+3))]
def H23(a:Str)(b:Nat)(c:Nat):Obj:=tu [(.str a b),(.ref c),(.ref (c+1))]
def H24(a:Nat)(b:Str)(c:Str)(d:Str)(e:Str)(f:Str):Obj:=tu [(.str "self" a),(.str b (a+1)),(.str "place" (a+2)),(.str c (a+3)),(.str d (a+4)),(.str e (a+5)),(.str f (a+6))]
def H25(a:Str)(b:Nat)(c:Str)(d:Str)(e:Str)(f:Str)(g:Str)(h:Str)(i:Str):Obj:=tu [(.str a b),(.str c (b+1)),(.str d (b+2)),(.str e (b+3)),(.str f (b+4)),(.str g (b+5)),(.str h (b+6)),(.str i (b+7))]
def o12a:=ob .none (.fields ⟨[]⟩)
def o13a:=H0 "<module>" 182 1 11 185
def o14a:=H1 13 3 "__main__" 164
def o3(P:Params):=dc 71 [(ds P "__name__" 165 "law_eachstepsame_k17_runs_that_go_deep" 1356),(de P "__doc__" 166 .none),(de P "__package__" 167 .none),(de P "__loader__" 168 (.builtin "__main__.__loader__#opaque")),(de P "__spec__" 169 .none),(dr P "__annotations__" 170 6),(dr P "__builtins__" 171 4),(ds P "__file__" 173 "/claim/cut.py" 172),(de P "__cached__" 174 .none),(dr P "StepError" 206 24),(dr P "NoName" 233 44),(dr P "Twice" 260 63),(dr P "NoFit" 287 82),(dr P "NoMain" 310 101),(dr P "NoInput" 335 120),(dr P "NoBudget" 358 139),(dr P "Fault" 383 158),(dr P "NUM" 387 161),(dr P "TRUTH" 389 162),(dr P "is_whole" 396 169),(dr P "is_truth" 403 176),(dr P "parts_of" 409 181),(dr P "is_value" 415 186),(dr P "tagged" 421 191),(dr P "RISKY" 429 192),(dr P "is_risky" 436 199),(dr P "reckoned" 445 206),(dr P "of_one" 453 213),(dr P "of_two" 462 220),(dr P "risked" 470 227),(dr P "product" 479 234),(dr P "need_place" 487 241),(dr P "replaced" 496 248),(dr P "Run" 543 272),(dr P "Going" 615 328),(dr P "need_start" 626 339),(dr P "need_so_many" 634 346),(dr P "need_budget" 641 353),(dr P "parts_in" 651 360),(dr P "parts_in_tuples" 659 367),(dr P "parts_in_try" 668 374),(dr P "counted" 678 381),(dr P "NODES" 707 382),(dr P "run_source" 713 387),(dr P "Frame" 771 423),(dr P "Runner" 890 512),(dr P "go_on_with_rows" 899 521),(dr P "TWO" 947 522),(dr P "ONE" 958 550),(dr P "Typed" 996 580),(dr P "typed" 1002 589),(dr P "Heads" 1083 639),(dr P "Body" 1274 749),(dr P "told_op" 1284 760),(dr P "told_parts" 1290 765),(dr P "counted_all" 1296 770),(dr P "need_new" 1305 777),(dr P "need_unlike" 1315 784),(dr P "need_kind" 1324 791),(dr P "need_kinds" 1334 798),(dr P "need_sort" 1343 805),(dr P "need_all" 1355 812),(dr P "_law_cell_at" 1365 819),(dr P "_law_mixed" 1374 826),(dr P "_law_name" 1381 833),(dr P "_law_two" 1390 840),(dr P "_law_tree" 1407 847),(dr P "_law_due" 1413 852),(dr P "_law_wholes" 1427 859),(dr P "_law_wholes_right" 1433 864),(dr P "law" 1447 871)]
def o12:=ob .none (.fields ⟨[(.int 2 0),(.int 0 0),(.ref 20),(.int 4 0),(.int 0 0),(.ref 33),(.int 9 0),(.int 0 0),(.ref 52),(.int 14 0),(.int 0 0),(.ref 71),(.int 19 0),(.int 0 0),(.ref 90),(.int 23 0),(.int 0 0),(.ref 109),(.int 27 0),(.int 0 0),(.ref 128),(.int 31 0),(.int 0 0),(.ref 147),(.int 38 0),(.int 0 0),(.ref 168),(.int 40 0),(.int 0 0),(.ref 175),(.int 42 0),(.int 0 0),(.ref 180),(.int 48 0),(.int 0 0),(.ref 185),(.int 57 0),(.int 0 0),(.ref 190),(.int 65 0),(.int 0 0),(.ref 198),(.int 67 0),(.int 0 0),(.ref 205),(.int 79 0),(.int 0 0),(.ref 212),(.int 85 0),(.int 0 0),(.ref 219),(.int 97 0),(.int 0 0),(.ref 226),(.int 109 0),(.int 0 0),(.ref 233),(.int 114 0),(.int 0 0),(.ref 240),(.int 117 0),(.int 0 0),(.ref 247),(.int 120 0),(.int 0 0),(.ref 254),(.int 132 0),(.int 0 0),(.ref 282),(.int 162 0),(.int 0 0),(.ref 338),(.int 168 0),(.int 0 0),(.ref 345),(.int 171 0),(.int 0 0),(.ref 352),(.int 175 0),(.int 0 0),(.ref 359),(.int 190 0),(.int 0 0),(.ref 366),(.int 203 0),(.int 0 0),(.ref 373),(.int 208 0),(.int 0 0),(.ref 380),(.int 218 0),(.int 0 0),(.ref 386),(.int 226 0),(.int 0 0),(.ref 393),(.int 249 0),(.int 0 0),(.ref 433),(.int 357 0),(.int 0 0),(.ref 520),(.int 364 0),(.int 0 0),(.ref 562),(.int 372 0),(.int 0 0),(.ref 588),(.int 380 0),(.int 0 0),(.ref 595),(.int 424 0),(.int 0 0),(.ref 649),(.int 565 0),(.int 0 0),(.ref 759),(.int 567 0),(.int 0 0),(.ref 764),(.int 569 0),(.int 0 0),(.ref 769),(.int 571 0),(.int 0 0),(.ref 776),(.int 574 0),(.int 0 0),(.ref 783),(.int 579 0),(.int 0 0),(.ref 790),(.int 582 0),(.int 0 0),(.ref 797),(.int 585 0),(.int 0 0),(.ref 804),(.int 588 0),(.int 0 0),(.ref 811),(.int 594 0),(.int 0 0),(.ref 818),(.int 598 0),(.int 0 0),(.ref 825),(.int 602 0),(.int 0 0),(.ref 832),(.int 604 0),(.int 0 0),(.ref 839),(.int 606 0),(.int 0 0),(.ref 846),(.int 621 0),(.int 0 0),(.ref 851),(.int 628 0),(.int 0 0),(.ref 858),(.int 637 0),(.int 0 0),(.ref 863),(.int 653 0),(.int 0 0),(.ref 870)]⟩)
def o15:=tu [(.type "ValueError")]
def o16:=ob (.type "builtin_function_or_method") (.fields ⟨[(.builtin "type.__prepare__"),(.type "type")]⟩)
def o17(P:Params):=dc 4 [(ds P "__module__" 196 "eachstepsame.errors" 187),(ds P "__qualname__" 198 "StepError" 197),(de P "__firstlineno__" 200 (.int 2 199)),(dr P "__static_attributes__" 201 22)]
def o20:=H0 "StepError" 191 2 18 194
def o21:=H1 20 17 "eachstepsame.errors" 187
def o23(P:Params):=H2 P 3 196 2 "__static_attributes__" 201 22 "__weakref__" 203 25
noncomputable def o24:Obj:=⟨(.type "type"),none,(.cls ⟨"StepError",[(.type "ValueError")],[(.ref 24),(.type "ValueError"),(.type "Exception"),(.type "BaseException"),(.type "object")],23,"StepError",true,[],[(.ref 44),(.ref 63),(.ref 82),(.ref 101),(.ref 120),(.ref 139),(.ref 158)],false,none,false⟩),⟨[(some (.ref 15)),none,(some (.str "StepError" 189)),(some (.str "StepError" 197)),(some (.builtin "ValueError.__new__")),(some (.bool true))]⟩⟩
def o25:=H3 202 24
def o26:=H4 24
def o27:=H5 24
def o28:=tu [(.ref 24)]
def o30(P:Params):=H6 P 214 "NoName" 4 227 41 230
def o32:=H7 6 40
def o33:=H0 "NoName" 209 4 31 212
def o34:=H1 33 30 "eachstepsame.errors" 187
def o37:=H8 "self" 222 "name" "place"
def o39:=H9 2 0 "NoName.__init__"
def o40:=H10 "__init__" 219 "NoName.__init__" 6 3 35 225 226
def o41:=H11 2 0 "NoName.__init__" "eachstepsame.errors" 187 40
def o42:=H12 "name" 228 "place"
def o43(P:Params):=H2 P 2 214 4 "__init__" 227 41 "__static_attributes__" 230 42
def o44:=H13 "NoName" 44 43 28 207
def o45:=H4 44
def o46:=H5 44
def o49(P:Params):=H6 P 241 "Twice" 9 254 60 257
def o51:=H7 11 59
def o52:=H0 "Twice" 236 9 50 239
def o53:=H1 52 49 "eachstepsame.errors" 187
def o56:=H8 "self" 249 "name" "place"
def o58:=H9 3 0 "Twice.__init__"
def o59:=H10 "__init__" 246 "Twice.__init__" 11 3 54 252 253
def o60:=H11 3 0 "Twice.__init__" "eachstepsame.errors" 187 59
def o61:=H12 "name" 255 "place"
def o62(P:Params):=H2 P 2 241 9 "__init__" 254 60 "__static_attributes__" 257 61
def o63:=H13 "Twice" 63 62 47 234
def o64:=H4 63
def o65:=H5 63
def o68(P:Params):=H6 P 268 "NoFit" 14 281 79 284
def o70:=H7 16 78
def o71:=H0 "NoFit" 263 14 69 266
def o72:=H1 71 68 "eachstepsame.errors" 187
def o75:=H8 "self" 276 "wants" "gives"
def o77:=H9 4 0 "NoFit.__init__"
def o78:=H10 "__init__" 273 "NoFit.__init__" 16 3 73 279 280
def o79:=H11 4 0 "NoFit.__init__" "eachstepsame.errors" 187 78
def o80:=H12 "gives" 282 "wants"
def o81(P:Params):=H2 P 2 268 14 "__init__" 281 79 "__static_attributes__" 284 80
def o82:=H13 "NoFit" 82 81 66 261
def o83:=H4 82
def o84:=H5 82
def o87(P:Params):=H6 P 295 "NoMain" 19 306 98 307
def o89:=H7 21 97
def o90:=H0 "NoMain" 290 19 88 293
def o91:=H1 90 87 "eachstepsame.errors" 187
def o94:=H14 "self" 303
def o96:=H9 5 0 "NoMain.__init__"
def o97:=H10 "__init__" 300 "NoMain.__init__" 21 1 92 304 305
def o98:=H11 5 0 "NoMain.__init__" "eachstepsame.errors" 187 97
def o100(P:Params):=H2 P 2 295 19 "__init__" 306 98 "__static_attributes__" 307 99
def o101:=H13 "NoMain" 101 100 85 288
def o102:=H4 101
def o103:=H5 101
def o106(P:Params):=H6 P 318 "NoInput" 23 330 117 332
def o108:=H7 25 116
def o109:=H0 "NoInput" 313 23 107 316
def o110:=H1 109 106 "eachstepsame.errors" 187
def o113:=H12 "self" 326 "place"
def o115:=H9 6 0 "NoInput.__init__"
def o116:=H10 "__init__" 323 "NoInput.__init__" 25 2 111 328 329
def o117:=H11 6 0 "NoInput.__init__" "eachstepsame.errors" 187 116
def o118:=H14 "place" 331
def o119(P:Params):=H2 P 2 318 23 "__init__" 330 117 "__static_attributes__" 332 118
def o120:=H13 "NoInput" 120 119 104 311
def o121:=H4 120
def o122:=H5 120
def o125(P:Params):=H6 P 343 "NoBudget" 27 354 136 355
def o127:=H7 29 135
def o128:=H0 "NoBudget" 338 27 126 341
def o129:=H1 128 125 "eachstepsame.errors" 187
def o132:=H14 "self" 351
def o134:=H9 7 0 "NoBudget.__init__"
def o135:=H10 "__init__" 348 "NoBudget.__init__" 29 1 130 352 353
def o136:=H11 7 0 "NoBudget.__init__" "eachstepsame.errors" 187 135
def o138(P:Params):=H2 P 2 343 27 "__init__" 354 136 "__static_attributes__" 355 137
def o139:=H13 "NoBudget" 139 138 123 336
def o140:=H4 139
def o141:=H5 139
def o144(P:Params):=H6 P 366 "Fault" 31 378 155 380
def o146:=H7 33 154
def o147:=H0 "Fault" 361 31 145 364
def o148:=H1 147 144 "eachstepsame.errors" 187
def o151:=H12 "self" 374 "name"
def o153:=H9 8 0 "Fault.__init__"
def o154:=H10 "__init__" 371 "Fault.__init__" 33 2 149 376 377
def o155:=H11 8 0 "Fault.__init__" "eachstepsame.errors" 187 154
def o156:=H14 "name" 379
def o157(P:Params):=H2 P 2 366 31 "__init__" 378 155 "__static_attributes__" 380 156
def o158:=H13 "Fault" 158 157 142 359
def o159:=H4 158
def o160:=H5 158
def o161:=H14 "num" 386
def o162:=H14 "truth" 388
def o165:=H14 "thing" 393
def o167:=H15 12 "is_whole"
def o168:=H10 "is_whole" 390 "is_whole" 38 1 163 394 395
def o169:=H16 12 "is_whole" "eachstepsame.kinds" 384 168
def o172:=H14 "thing" 400
def o174:=H15 13 "is_truth"
def o175:=H10 "is_truth" 397 "is_truth" 40 1 170 401 402
def o176:=H16 13 "is_truth" "eachstepsame.kinds" 384 175
def o179:=H15 14 "parts_of"
def o180:=H17 "parts_of" 404 "parts_of" 42 1 177 407
def o181:=H16 14 "parts_of" "eachstepsame.kinds" 384 180
def o184:=H15 15 "is_value"
def o185:=H17 "is_value" 410 "is_value" 48 2 182 413
def o186:=H16 15 "is_value" "eachstepsame.kinds" 384 185
def o189:=H15 16 "tagged"
def o190:=H17 "tagged" 416 "tagged" 57 1 187 419
def o191:=H16 16 "tagged" "eachstepsame.kinds" 384 190
def o192:=H18 "mul" 424 "div" "mod" "pick" "lay"
def o195:=H14 "op" 433
def o197:=H15 19 "is_risky"
def o198:=H10 "is_risky" 430 "is_risky" 65 1 193 434 435
def o199:=H16 19 "is_risky" "eachstepsame.ops" 422 198
def o202:=H8 "op" 440 "extra" "values"
def o204:=H15 20 "reckoned"
def o205:=H10 "reckoned" 437 "reckoned" 67 3 200 443 444
def o206:=H16 20 "reckoned" "eachstepsame.ops" 422 205
def o209:=H12 "op" 449 "value"
def o211:=H15 21 "of_one"
def o212:=H10 "of_one" 446 "of_one" 79 2 207 451 452
def o213:=H16 21 "of_one" "eachstepsame.ops" 422 212
def o216:=H8 "op" 457 "one" "other"
def o218:=H15 22 "of_two"
def o219:=H10 "of_two" 454 "of_two" 85 3 214 460 461
def o220:=H16 22 "of_two" "eachstepsame.ops" 422 219
def o223:=H12 "op" 466 "values"
def o225:=H15 23 "risked"
def o226:=H10 "risked" 463 "risked" 97 2 221 468 469
def o227:=H16 23 "risked" "eachstepsame.ops" 422 226
def o230:=H8 "one" 474 "other" "result"
def o232:=H15 24 "product"
def o233:=H10 "product" 471 "product" 109 2 228 477 478
def o234:=H16 24 "product" "eachstepsame.ops" 422 233
def o237:=H12 "row" 483 "place"
def o239:=H15 25 "need_place"
def o240:=H10 "need_place" 480 "need_place" 114 2 235 485 486
def o241:=H16 25 "need_place" "eachstepsame.ops" 422 240
def o244:=H8 "whole" 491 "place" "part"
def o246:=H15 26 "replaced"
def o247:=H10 "replaced" 488 "replaced" 117 3 242 494 495
def o248:=H16 26 "replaced" "eachstepsame.ops" 422 247
def o251(P:Params):=dc 6 [(ds P "__module__" 506 "eachstepsame.runs" 497),(ds P "__qualname__" 508 "Run" 507),(de P "__firstlineno__" 510 (.int 120 509)),(dr P "__init__" 522 262),(dr P "seen" 529 269),(dr P "__static_attributes__" 536 270)]
def o253:=ob .none (.fields ⟨[(.int 122 0),(.int 4 0),(.ref 261),(.int 130 0),(.int 4 0),(.ref 268)]⟩)
def o254:=H0 "Run" 501 120 252 504
def o255:=H1 254 251 "eachstepsame.runs" 497
def o258:=H19 "self" 514 "ending" "thing" "log" "took" "steps"
def o260:=H9 28 0 "Run.__init__"
def o261:=H10 "__init__" 511 "Run.__init__" 122 6 256 520 521
def o262:=H11 28 0 "Run.__init__" "eachstepsame.runs" 497 261
def o265:=H14 "self" 526
def o267:=H9 28 1 "Run.seen"
def o268:=H10 "seen" 523 "Run.seen" 130 1 263 527 528
def o269:=H11 28 1 "Run.seen" "eachstepsame.runs" 497 268
def o270:=H19 "ending" 530 "kept_log" "log" "steps" "thing" "took"
def o271(P:Params):=dc 4 [(ds P "__module__" 506 "eachstepsame.runs" 497),(de P "__firstlineno__" 510 (.int 120 509)),(dr P "__init__" 522 262),(dr P "seen" 529 269),(dr P "__static_attributes__" 536 270),(dr P "__dict__" 538 273),(dr P "__weakref__" 540 274),(de P "__doc__" 541 .none)]
def o272:=H20 "Run" 272 271 499
def o273:=H21 537 272
def o274:=H3 539 272
def o275:=H4 272
def o276:=H5 272
def o279(P:Params):=dc 10 [(ds P "__module__" 551 "eachstepsame.runs" 497),(ds P "__qualname__" 553 "Going" 552),(de P "__firstlineno__" 555 (.int 132 554)),(dr P "__init__" 563 290),(dr P "takes_tick" 570 297),(dr P "write" 578 304),(dr P "answer" 586 311),(dr P "fail" 594 318),(dr P "ended" 601 325),(dr P "__static_attributes__" 608 326)]
def o281:=ob .none (.fields ⟨[(.int 134 0),(.int 4 0),(.ref 289),(.int 142 0),(.int 4 0),(.ref 296),(.int 149 0),(.int 4 0),(.ref 303),(.int 152 0),(.int 4 0),(.ref 310),(.int 156 0),(.int 4 0),(.ref 317),(.int 160 0),(.int 4 0),(.ref 324)]⟩)
def o282:=H0 "Going" 546 132 280 549
def o283:=H1 282 279 "eachstepsame.runs" 497
def o286:=H12 "self" 559 "budget"
def o288:=H9 29 0 "Going.__init__"
def o289:=H10 "__init__" 556 "Going.__init__" 134 2 284 561 562
def o290:=H11 29 0 "Going.__init__" "eachstepsame.runs" 497 289
def o293:=H14 "self" 567
def o295:=H9 29 1 "Going.takes_tick"
def o296:=H10 "takes_tick" 564 "Going.takes_tick" 142 1 291 568 569
def o297:=H11 29 1 "Going.takes_tick" "eachstepsame.runs" 497 296
def o300:=H12 "self" 574 "value"
def o302:=H9 29 2 "Going.write"
def o303:=H10 "write" 571 "Going.write" 149 2 298 576 577
def o304:=H11 29 2 "Going.write" "eachstepsame.runs" 497 303
def o307:=H12 "self" 582 "value"
def o309:=H9 29 3 "Going.answer"
def o310:=H10 "answer" 579 "Going.answer" 152 2 305 584 585
def o311:=H11 29 3 "Going.answer" "eachstepsame.runs" 497 310
def o314:=H12 "self" 590 "fault"
def o316:=H9 29 4 "Going.fail"
def o317:=H10 "fail" 587 "Going.fail" 156 2 312 592 593
def o318:=H11 29 4 "Going.fail" "eachstepsame.runs" 497 317
def o321:=H14 "self" 598
def o323:=H9 29 5 "Going.ended"
def o324:=H10 "ended" 595 "Going.ended" 160 1 319 599 600
def o325:=H11 29 5 "Going.ended" "eachstepsame.runs" 497 324
def o326:=H19 "budget" 602 "ending" "log" "steps" "thing" "took"
def o327(P:Params):=dc 4 [(ds P "__module__" 551 "eachstepsame.runs" 497),(de P "__firstlineno__" 555 (.int 132 554)),(dr P "__init__" 563 290),(dr P "takes_tick" 570 297),(dr P "write" 578 304),(dr P "answer" 586 311),(dr P "fail" 594 318),(dr P "ended" 601 325),(dr P "__static_attributes__" 608 326),(dr P "__dict__" 610 329),(dr P "__weakref__" 612 330),(de P "__doc__" 613 .none)]
noncomputable def o328:Obj:=⟨(.type "type"),none,(.cls ⟨"Going",[(.type "object")],[(.ref 328),(.type "object")],327,"Going",true,[],[(.ref 512)],false,none,false⟩),⟨[none,none,(some (.str "Going" 544)),(some (.str "Going" 552)),(some (.builtin "object.__new__")),(some (.bool true))]⟩⟩
def o329:=H21 609 328
def o330:=H3 611 328
def o331:=H4 328
def o332:=H5 328
def o335:=H18 "kinds" 619 "inputs" "budget" "place" "kind"
def o337:=H15 30 "need_start"
def o338:=H10 "need_start" 616 "need_start" 162 3 333 624 625
def o339:=H16 30 "need_start" "eachstepsame.runs" 497 338
def o342:=H12 "count" 630 "inputs"
def o344:=H15 31 "need_so_many"
def o345:=H10 "need_so_many" 627 "need_so_many" 168 2 340 632 633
def o346:=H16 31 "need_so_many" "eachstepsame.runs" 497 345
def o349:=H14 "budget" 638
def o351:=H15 32 "need_budget"
def o352:=H10 "need_budget" 635 "need_budget" 171 1 347 639 640
def o353:=H16 32 "need_budget" "eachstepsame.runs" 497 352
def o356:=H12 "node" 647 "word"
def o358:=H15 34 "parts_in"
def o359:=H10 "parts_in" 644 "parts_in" 175 1 354 649 650
def o360:=H16 34 "parts_in" "eachstepsame.trees" 642 359
def o363:=H12 "node" 655 "word"
def o365:=H15 35 "parts_in_tuples"
def o366:=H10 "parts_in_tuples" 652 "parts_in_tuples" 190 1 361 657 658
def o367:=H16 35 "parts_in_tuples" "eachstepsame.trees" 642 366
def o370:=H8 "node" 663 "parts" "catch"
def o372:=H15 36 "parts_in_try"
def o373:=H10 "parts_in_try" 660 "parts_in_try" 203 1 368 666 667
def o374:=H16 36 "parts_in_try" "eachstepsame.trees" 642 373
def o377:=H22 "node" 672 "waiting" "count" "parts"
def o379:=H15 37 "counted"
def o380:=H10 "counted" 669 "counted" 208 1 375 676 677
def o381:=H16 37 "counted" "eachstepsame.trees" 642 380
def o382(P:Params):=dc 13 [(de P "const" 681 (.bool true)),(de P "local" 682 (.bool true)),(de P "op" 683 (.bool true)),(de P "call" 684 (.bool true)),(de P "let" 685 (.bool true)),(de P "set" 686 (.bool true)),(de P "if" 687 (.bool true)),(de P "while" 688 (.bool true)),(de P "log" 689 (.bool true)),(de P "do" 690 (.bool true)),(de P "return" 691 (.bool true)),(de P "raise" 692 (.bool true)),(de P "try" 693 (.bool true))]
def o385:=H15 40 "run_source"
def o386:=H17 "run_source" 708 "run_source" 218 3 383 711
def o387:=H16 40 "run_source" "eachstepsame.sourcerun" 679 386
def o390(P:Params):=dc 8 [(ds P "__module__" 721 "eachstepsame.sourcerun" 679),(ds P "__qualname__" 723 "Frame" 722),(de P "__firstlineno__" 725 (.int 226 724)),(dr P "__init__" 734 401),(dr P "wait_for" 743 408),(dr P "taken" 749 413),(dr P "caught_rows" 760 420),(dr P "__static_attributes__" 764 421)]
def o392:=ob .none (.fields ⟨[(.int 228 0),(.int 4 0),(.ref 400),(.int 233 0),(.int 4 0),(.ref 407),(.int 237 0),(.int 4 0),(.ref 412),(.int 240 0),(.int 4 0),(.ref 419)]⟩)
def o393:=H0 "Frame" 716 226 391 719
def o394:=H1 393 390 "eachstepsame.sourcerun" 679
def o397:=H8 "self" 729 "have" "rows"
def o399:=H9 41 0 "Frame.__init__"
def o400:=H10 "__init__" 726 "Frame.__init__" 228 3 395 732 733
def o401:=H11 41 0 "Frame.__init__" "eachstepsame.sourcerun" 679 400
def o404:=H8 "self" 738 "task" "parts"
def o406:=H9 41 1 "Frame.wait_for"
def o407:=H10 "wait_for" 735 "Frame.wait_for" 233 3 402 741 742
def o408:=H11 41 1 "Frame.wait_for" "eachstepsame.sourcerun" 679 407
def o411:=H9 41 2 "Frame.taken"
def o412:=H17 "taken" 744 "Frame.taken" 237 2 409 747
def o413:=H11 41 2 "Frame.taken" "eachstepsame.sourcerun" 679 412
def o416:=H18 "self" 753 "fault" "task" "name" "rows"
def o418:=H9 41 3 "Frame.caught_rows"
def o419:=H10 "caught_rows" 750 "Frame.caught_rows" 240 2 414 758 759
def o420:=H11 41 3 "Frame.caught_rows" "eachstepsame.sourcerun" 679 419
def o421:=H8 "have" 761 "reckoned_parts" "waiting"
def o422(P:Params):=dc 4 [(ds P "__module__" 721 "eachstepsame.sourcerun" 679),(de P "__firstlineno__" 725 (.int 226 724)),(dr P "__init__" 734 401),(dr P "wait_for" 743 408),(dr P "taken" 749 413),(dr P "caught_rows" 760 420),(dr P "__static_attributes__" 764 421),(dr P "__dict__" 766 424),(dr P "__weakref__" 768 425),(de P "__doc__" 769 .none)]
def o423:=H20 "Frame" 423 422 714
def o424:=H21 765 423
def o425:=H3 767 423
def o426:=H4 423
def o427:=H5 423
def o428:=tu [(.ref 328)]
def o430(P:Params):=dc 15 [(ds P "__module__" 779 "eachstepsame.sourcerun" 679),(ds P "__qualname__" 781 "Runner" 780),(de P "__firstlineno__" 783 (.int 249 782)),(dr P "__init__" 792 441),(dr P "begin" 798 446),(dr P "go_on" 807 453),(dr P "begin_node" 817 460),(dr P "go_on_with" 827 467),(dr P "use" 838 474),(dr P "reckon" 849 481),(dr P "enter" 858 488),(dr P "ask" 867 495),(dr P "leave" 875 502),(dr P "fault_comes" 884 509),(dr P "__static_attributes__" 887 510)]
def o432:=ob .none (.fields ⟨[(.int 251 0),(.int 4 0),(.ref 440),(.int 256 0),(.int 4 0),(.ref 445),(.int 261 0),(.int 4 0),(.ref 452),(.int 273 0),(.int 4 0),(.ref 459),(.int 300 0),(.int 4 0),(.ref 466),(.int 313 0),(.int 4 0),(.ref 473),(.int 326 0),(.int 4 0),(.ref 480),(.int 334 0),(.int 4 0),(.ref 487),(.int 338 0),(.int 4 0),(.ref 494),(.int 342 0),(.int 4 0),(.ref 501),(.int 349 0),(.int 4 0),(.ref 508)]⟩)
def o433:=H0 "Runner" 774 249 431 777
def o434:=H1 433 430 "eachstepsame.sourcerun" 679
def o437:=H8 "self" 787 "typed" "budget"
def o439:=H9 42 0 "Runner.__init__"
def o440:=H10 "__init__" 784 "Runner.__init__" 251 3 435 790 791
def o441:=H11 42 0 "Runner.__init__" "eachstepsame.sourcerun" 679 440
def o444:=H9 42 1 "Runner.begin"
def o445:=H17 "begin" 793 "Runner.begin" 256 3 442 796
def o446:=H11 42 1 "Runner.begin" "eachstepsame.sourcerun" 679 445
def o449:=H8 "self" 802 "frame" "task"
def o451:=H9 42 2 "Runner.go_on"
def o452:=H10 "go_on" 799 "Runner.go_on" 261 1 447 805 806
def o453:=H11 42 2 "Runner.go_on" "eachstepsame.sourcerun" 679 452
def o456:=H22 "self" 811 "frame" "node" "word"
def o458:=H9 42 3 "Runner.begin_node"
def o459:=H10 "begin_node" 808 "Runner.begin_node" 273 3 454 815 816
def o460:=H11 42 3 "Runner.begin_node" "eachstepsame.sourcerun" 679 459
def o463:=H22 "self" 821 "frame" "task" "word"
def o465:=H9 42 4 "Runner.go_on_with"
def o466:=H10 "go_on_with" 818 "Runner.go_on_with" 300 3 461 825 826
def o467:=H11 42 4 "Runner.go_on_with" "eachstepsame.sourcerun" 679 466
def o470:=H18 "self" 831 "frame" "task" "value" "word"
def o472:=H9 42 5 "Runner.use"
def o473:=H10 "use" 828 "Runner.use" 313 4 468 836 837
def o474:=H11 42 5 "Runner.use" "eachstepsame.sourcerun" 679 473
def o477:=H18 "self" 842 "frame" "node" "value" "fault"
def o479:=H9 42 6 "Runner.reckon"
def o480:=H10 "reckon" 839 "Runner.reckon" 326 3 475 847 848
def o481:=H11 42 6 "Runner.reckon" "eachstepsame.sourcerun" 679 480
def o484:=H8 "self" 853 "name" "given"
def o486:=H9 42 7 "Runner.enter"
def o487:=H10 "enter" 850 "Runner.enter" 334 3 482 856 857
def o488:=H11 42 7 "Runner.enter" "eachstepsame.sourcerun" 679 487
def o491:=H8 "self" 862 "frame" "node"
def o493:=H9 42 8 "Runner.ask"
def o494:=H10 "ask" 859 "Runner.ask" 338 3 489 865 866
def o495:=H11 42 8 "Runner.ask" "eachstepsame.sourcerun" 679 494
def o498:=H12 "self" 871 "value"
def o500:=H9 42 9 "Runner.leave"
def o501:=H10 "leave" 868 "Runner.leave" 342 2 496 873 874
def o502:=H11 42 9 "Runner.leave" "eachstepsame.sourcerun" 679 501
def o505:=H8 "self" 879 "name" "rows"
def o507:=H9 42 10 "Runner.fault_comes"
def o508:=H10 "fault_comes" 876 "Runner.fault_comes" 349 2 503 882 883
def o509:=H11 42 10 "Runner.fault_comes" "eachstepsame.sourcerun" 679 508
def o510:=H12 "frames" 885 "program"
def o511(P:Params):=dc 2 [(ds P "__module__" 779 "eachstepsame.sourcerun" 679),(de P "__firstlineno__" 783 (.int 249 782)),(dr P "__init__" 792 441),(dr P "begin" 798 446),(dr P "go_on" 807 453),(dr P "begin_node" 817 460),(dr P "go_on_with" 827 467),(dr P "use" 838 474),(dr P "reckon" 849 481),(dr P "enter" 858 488),(dr P "ask" 867 495),(dr P "leave" 875 502),(dr P "fault_comes" 884 509),(dr P "__static_attributes__" 887 510),(de P "__doc__" 888 .none)]
noncomputable def o512:Obj:=⟨(.type "type"),none,(.cls ⟨"Runner",[(.ref 328)],[(.ref 512),(.ref 328),(.type "object")],511,"Runner",true,[],[],false,none,false⟩),⟨[(some (.ref 428)),none,(some (.str "Runner" 772)),(some (.str "Runner" 780)),(some (.builtin "object.__new__")),(some (.bool true))]⟩⟩
def o513:=H4 512
def o514:=H5 512
def o517:=H8 "frame" 894 "rows" "place"
def o519:=H15 43 "go_on_with_rows"
def o520:=H10 "go_on_with_rows" 891 "go_on_with_rows" 357 3 515 897 898
def o521:=H16 43 "go_on_with_rows" "eachstepsame.sourcerun" 679 520
def o522(P:Params):=dc 9 [(dr P "+" 902 525),(dr P "-" 906 528),(dr P "*" 910 531),(dr P "/" 914 534),(dr P "mod" 918 537),(dr P "<" 922 540),(dr P "=" 926 543),(dr P "and" 930 546),(dr P "or" 934 549)]
def o523:=H14 "num" 904
def o524:=H14 "num" 905
def o525:=H23 "add" 903 523
def o526:=H14 "num" 908
def o527:=H14 "num" 909
def o528:=H23 "sub" 907 526
def o529:=H14 "num" 912
def o530:=H14 "num" 913
def o531:=H23 "mul" 911 529
def o532:=H14 "num" 916
def o533:=H14 "num" 917
def o534:=H23 "div" 915 532
def o535:=H14 "num" 920
def o536:=H14 "num" 921
def o537:=H23 "mod" 919 535
def o538:=H14 "num" 924
def o539:=H14 "truth" 925
def o540:=H23 "less" 923 538
def o541:=H14 "num" 928
def o542:=H14 "truth" 929
def o543:=H23 "same" 927 541
def o544:=H14 "truth" 932
def o545:=H14 "truth" 933
def o546:=H23 "and" 931 544
def o547:=H14 "truth" 936
def o548:=H14 "truth" 937
def o549:=H23 "or" 935 547
def o550(P:Params):=dc 2 [(dr P "-" 948 553),(dr P "not" 952 556)]
def o551:=H14 "num" 950
def o552:=H14 "num" 951
def o553:=H23 "neg" 949 551
def o554:=H14 "truth" 954
def o555:=H14 "truth" 955
def o556:=H23 "not" 953 554
def o559(P:Params):=dc 6 [(ds P "__module__" 966 "eachstepsame.typer" 900),(ds P "__qualname__" 968 "Typed" 967),(de P "__firstlineno__" 970 (.int 364 969)),(dr P "__init__" 978 570),(dr P "function_named" 986 577),(dr P "__static_attributes__" 989 578)]
def o561:=ob .none (.fields ⟨[(.int 366 0),(.int 4 0),(.ref 569),(.int 370 0),(.int 4 0),(.ref 576)]⟩)
def o562:=H0 "Typed" 961 364 560 964
def o563:=H1 562 559 "eachstepsame.typer" 900
def o566:=H12 "self" 974 "functions"
def o568:=H9 47 0 "Typed.__init__"
def o569:=H10 "__init__" 971 "Typed.__init__" 366 2 564 976 977
def o570:=H11 47 0 "Typed.__init__" "eachstepsame.typer" 900 569
def o573:=H12 "self" 982 "name"
def o575:=H9 47 1 "Typed.function_named"
def o576:=H10 "function_named" 979 "Typed.function_named" 370 2 571 984 985
def o577:=H11 47 1 "Typed.function_named" "eachstepsame.typer" 900 576
def o578:=H12 "functions" 987 "kept_functions"
def o579(P:Params):=dc 4 [(ds P "__module__" 966 "eachstepsame.typer" 900),(de P "__firstlineno__" 970 (.int 364 969)),(dr P "__init__" 978 570),(dr P "function_named" 986 577),(dr P "__static_attributes__" 989 578),(dr P "__dict__" 991 581),(dr P "__weakref__" 993 582),(de P "__doc__" 994 .none)]
def o580:=H20 "Typed" 580 579 959
def o581:=H21 990 580
def o582:=H3 992 580
def o583:=H4 580
def o584:=H5 580
def o587:=H15 48 "typed"
def o588:=H17 "typed" 997 "typed" 372 1 585 1000
def o589:=H16 48 "typed" "eachstepsame.typer" 900 588
def o592(P:Params):=dc 10 [(ds P "__module__" 1010 "eachstepsame.typer" 900),(ds P "__qualname__" 1012 "Heads" 1011),(de P "__firstlineno__" 1014 (.int 380 1013)),(dr P "__init__" 1026 603),(dr P "look_at_function" 1038 610),(dr P "need_record" 1047 617),(dr P "told_kind" 1053 622),(dr P "fields_of" 1061 629),(dr P "field_number" 1073 636),(dr P "__static_attributes__" 1076 637)]
def o594:=ob .none (.fields ⟨[(.int 382 0),(.int 4 0),(.ref 602),(.int 397 0),(.int 4 0),(.ref 609),(.int 407 0),(.int 4 0),(.ref 616),(.int 411 0),(.int 4 0),(.ref 621),(.int 416 0),(.int 4 0),(.ref 628),(.int 419 0),(.int 4 0),(.ref 635)]⟩)
def o595:=H0 "Heads" 1005 380 593 1008
def o596:=H1 595 592 "eachstepsame.typer" 900
def o599:=H19 "self" 1018 "program" "place" "name" "fields" "function"
def o601:=H9 49 0 "Heads.__init__"
def o602:=H10 "__init__" 1015 "Heads.__init__" 382 2 597 1024 1025
def o603:=H11 49 0 "Heads.__init__" "eachstepsame.typer" 900 602
def o606:=H19 "self" 1030 "function" "place" "there" "take" "kind"
def o608:=H9 49 1 "Heads.look_at_function"
def o609:=H10 "look_at_function" 1027 "Heads.look_at_function" 397 3 604 1036 1037
def o610:=H11 49 1 "Heads.look_at_function" "eachstepsame.typer" 900 609
def o613:=H8 "self" 1042 "kind" "place"
def o615:=H9 49 2 "Heads.need_record"
def o616:=H10 "need_record" 1039 "Heads.need_record" 407 3 611 1045 1046
def o617:=H11 49 2 "Heads.need_record" "eachstepsame.typer" 900 616
def o620:=H9 49 3 "Heads.told_kind"
def o621:=H17 "told_kind" 1048 "Heads.told_kind" 411 2 618 1051
def o622:=H11 49 3 "Heads.told_kind" "eachstepsame.typer" 900 621
def o625:=H12 "self" 1057 "kind"
def o627:=H9 49 4 "Heads.fields_of"
def o628:=H10 "fields_of" 1054 "Heads.fields_of" 416 2 623 1059 1060
def o629:=H11 49 4 "Heads.fields_of" "eachstepsame.typer" 900 628
def o632:=H19 "self" 1065 "kind" "name" "place" "number" "field"
def o634:=H9 49 5 "Heads.field_number"
def o635:=H10 "field_number" 1062 "Heads.field_number" 419 4 630 1071 1072
def o636:=H11 49 5 "Heads.field_number" "eachstepsame.typer" 900 635
def o637:=H12 "functions" 1074 "records"
def o638(P:Params):=dc 4 [(ds P "__module__" 1010 "eachstepsame.typer" 900),(de P "__firstlineno__" 1014 (.int 380 1013)),(dr P "__init__" 1026 603),(dr P "look_at_function" 1038 610),(dr P "need_record" 1047 617),(dr P "told_kind" 1053 622),(dr P "fields_of" 1061 629),(dr P "field_number" 1073 636),(dr P "__static_attributes__" 1076 637),(dr P "__dict__" 1078 640),(dr P "__weakref__" 1080 641),(de P "__doc__" 1081 .none)]
def o639:=H20 "Heads" 639 638 1003
def o640:=H21 1077 639
def o641:=H3 1079 639
def o642:=H4 639
def o643:=H5 639
def o646(P:Params):=dc 18 [(ds P "__module__" 1091 "eachstepsame.typer" 900),(ds P "__qualname__" 1093 "Body" 1092),(de P "__firstlineno__" 1095 (.int 424 1094)),(dr P "__init__" 1104 657),(dr P "told_rows_of" 1110 662),(dr P "look_at_rows" 1123 669),(dr P "look_at_row" 1135 676),(dr P "look_at_try" 1149 683),(dr P "look_at_tested" 1163 690),(dr P "look_at_let" 1174 697),(dr P "look_at_set" 1190 704),(dr P "look_at_parts" 1203 711),(dr P "look_at" 1217 718),(dr P "look_at_name" 1228 725),(dr P "look_at_call" 1239 732),(dr P "look_at_new" 1252 739),(dr P "look_at_field" 1264 746),(dr P "__static_attributes__" 1267 747)]
def o648:=ob .none (.fields ⟨[(.int 426 0),(.int 4 0),(.ref 656),(.int 430 0),(.int 4 0),(.ref 661),(.int 435 0),(.int 4 0),(.ref 668),(.int 443 0),(.int 4 0),(.ref 675),(.int 462 0),(.int 4 0),(.ref 682),(.int 471 0),(.int 4 0),(.ref 689),(.int 481 0),(.int 4 0),(.ref 696),(.int 486 0),(.int 4 0),(.ref 703),(.int 505 0),(.int 4 0),(.ref 710),(.int 513 0),(.int 4 0),(.ref 717),(.int 538 0),(.int 4 0),(.ref 724),(.int 544 0),(.int 4 0),(.ref 731),(.int 551 0),(.int 4 0),(.ref 738),(.int 560 0),(.int 4 0),(.ref 745)]⟩)
def o649:=H0 "Body" 1086 424 647 1089
def o650:=H1 649 646 "eachstepsame.typer" 900
def o653:=H8 "self" 1099 "heads" "gives"
def o655:=H9 50 0 "Body.__init__"
def o656:=H10 "__init__" 1096 "Body.__init__" 426 3 651 1102 1103
def o657:=H11 50 0 "Body.__init__" "eachstepsame.typer" 900 656
def o660:=H9 50 1 "Body.told_rows_of"
def o661:=H17 "told_rows_of" 1105 "Body.told_rows_of" 430 2 658 1108
def o662:=H11 50 1 "Body.told_rows_of" "eachstepsame.typer" 900 661
def o665:=H24 1114 "rows" "names" "there" "told_rows" "row"
def o667:=H9 50 2 "Body.look_at_rows"
def o668:=H10 "look_at_rows" 1111 "Body.look_at_rows" 435 4 663 1121 1122
def o669:=H11 50 2 "Body.look_at_rows" "eachstepsame.typer" 900 668
def o672:=H19 "self" 1127 "row" "place" "names" "word" "parts"
def o674:=H9 50 3 "Body.look_at_row"
def o675:=H10 "look_at_row" 1124 "Body.look_at_row" 443 4 670 1133 1134
def o676:=H11 50 3 "Body.look_at_row" "eachstepsame.typer" 900 675
def o679:=H25 "self" 1139 "row" "place" "names" "rows" "catches" "fault" "caught"
def o681:=H9 50 4 "Body.look_at_try"
def o682:=H10 "look_at_try" 1136 "Body.look_at_try" 462 4 677 1147 1148
def o683:=H11 50 4 "Body.look_at_try" "eachstepsame.typer" 900 682
def o686:=H25 "self" 1153 "row" "place" "names" "test" "beneath" "sides" "rows"
def o688:=H9 50 5 "Body.look_at_tested"
def o689:=H10 "look_at_tested" 1150 "Body.look_at_tested" 471 4 684 1161 1162
def o690:=H11 50 5 "Body.look_at_tested" "eachstepsame.typer" 900 689
def o693:=H18 "self" 1167 "row" "place" "names" "value"
def o695:=H9 50 6 "Body.look_at_let"
def o696:=H10 "look_at_let" 1164 "Body.look_at_let" 481 5 691 1172 1173
def o697:=H11 50 6 "Body.look_at_let" "eachstepsame.typer" 900 696
def o700:=tu [(.str "self" 1178),(.str "row" 1179),(.str "place" 1180),(.str "names" 1181),(.str "parts" 1182),(.str "name" 1183),(.str "kind" 1184),(.str "told_kind" 1185),(.str "whole" 1186),(.str "number" 1187)]
def o702:=H9 50 7 "Body.look_at_set"
def o703:=H10 "look_at_set" 1175 "Body.look_at_set" 486 5 698 1188 1189
def o704:=H11 50 7 "Body.look_at_set" "eachstepsame.typer" 900 703
def o707:=H24 1194 "node" "names" "parts" "beneath" "part"
def o709:=H9 50 8 "Body.look_at_parts"
def o710:=H10 "look_at_parts" 1191 "Body.look_at_parts" 505 4 705 1201 1202
def o711:=H11 50 8 "Body.look_at_parts" "eachstepsame.typer" 900 710
def o714:=H25 "self" 1207 "node" "place" "names" "parts" "word" "kind" "sign"
def o716:=H9 50 9 "Body.look_at"
def o717:=H10 "look_at" 1204 "Body.look_at" 513 4 712 1215 1216
def o718:=H11 50 9 "Body.look_at" "eachstepsame.typer" 900 717
def o721:=H18 "self" 1221 "name" "place" "names" "kind"
def o723:=H9 50 10 "Body.look_at_name"
def o724:=H10 "look_at_name" 1218 "Body.look_at_name" 538 4 719 1226 1227
def o725:=H11 50 10 "Body.look_at_name" "eachstepsame.typer" 900 724
def o728:=H18 "self" 1232 "name" "place" "parts" "head"
def o730:=H9 50 11 "Body.look_at_call"
def o731:=H10 "look_at_call" 1229 "Body.look_at_call" 544 4 726 1237 1238
def o732:=H11 50 11 "Body.look_at_call" "eachstepsame.typer" 900 731
def o735:=H24 1243 "name" "parts" "head" "kind" "told_kind"
def o737:=H9 50 12 "Body.look_at_new"
def o738:=H10 "look_at_new" 1240 "Body.look_at_new" 551 4 733 1250 1251
def o739:=H11 50 12 "Body.look_at_new" "eachstepsame.typer" 900 738
def o742:=H19 "self" 1256 "name" "place" "parts" "number" "kind"
def o744:=H9 50 13 "Body.look_at_field"
def o745:=H10 "look_at_field" 1253 "Body.look_at_field" 560 4 740 1262 1263
def o746:=H11 50 13 "Body.look_at_field" "eachstepsame.typer" 900 745
def o747:=H12 "gives" 1265 "heads"
def o748(P:Params):=dc 4 [(ds P "__module__" 1091 "eachstepsame.typer" 900),(de P "__firstlineno__" 1095 (.int 424 1094)),(dr P "__init__" 1104 657),(dr P "told_rows_of" 1110 662),(dr P "look_at_rows" 1123 669),(dr P "look_at_row" 1135 676),(dr P "look_at_try" 1149 683),(dr P "look_at_tested" 1163 690),(dr P "look_at_let" 1174 697),(dr P "look_at_set" 1190 704),(dr P "look_at_parts" 1203 711),(dr P "look_at" 1217 718),(dr P "look_at_name" 1228 725),(dr P "look_at_call" 1239 732),(dr P "look_at_new" 1252 739),(dr P "look_at_field" 1264 746),(dr P "__static_attributes__" 1267 747),(dr P "__dict__" 1269 750),(dr P "__weakref__" 1271 751),(de P "__doc__" 1272 .none)]
def o749:=H20 "Body" 749 748 1084
def o750:=H21 1268 749
def o751:=H3 1270 749
def o752:=H4 749
def o753:=H5 749
def o756:=H22 "op" 1278 "extra" "parts" "kind"
def o758:=H15 51 "told_op"
def o759:=H10 "told_op" 1275 "told_op" 565 4 754 1282 1283
def o760:=H16 51 "told_op" "eachstepsame.typer" 900 759
def o763:=H15 52 "told_parts"
def o764:=H17 "told_parts" 1285 "told_parts" 567 1 761 1288
def o765:=H16 52 "told_parts" "eachstepsame.typer" 900 764
def o768:=H15 53 "counted_all"
def o769:=H17 "counted_all" 1291 "counted_all" 569 1 766 1294
def o770:=H16 53 "counted_all" "eachstepsame.typer" 900 769
def o773:=H8 "name" 1300 "there" "place"
def o775:=H15 54 "need_new"
def o776:=H10 "need_new" 1297 "need_new" 571 3 771 1303 1304
def o777:=H16 54 "need_new" "eachstepsame.typer" 900 776
def o780:=H22 "fields" 1309 "place" "there" "field"
def o782:=H15 55 "need_unlike"
def o783:=H10 "need_unlike" 1306 "need_unlike" 574 2 778 1313 1314
def o784:=H16 55 "need_unlike" "eachstepsame.typer" 900 783
def o787:=H8 "part" 1319 "kind" "place"
def o789:=H15 56 "need_kind"
def o790:=H10 "need_kind" 1316 "need_kind" 579 3 785 1322 1323
def o791:=H16 56 "need_kind" "eachstepsame.typer" 900 790
def o794:=H22 "parts" 1328 "kind" "place" "part"
def o796:=H15 57 "need_kinds"
def o797:=H10 "need_kinds" 1325 "need_kinds" 582 3 792 1332 1333
def o798:=H16 57 "need_kinds" "eachstepsame.typer" 900 797
def o801:=H8 "part" 1338 "word" "place"
def o803:=H15 58 "need_sort"
def o804:=H10 "need_sort" 1335 "need_sort" 585 3 799 1341 1342
def o805:=H16 58 "need_sort" "eachstepsame.typer" 900 804
def o808:=H19 "parts" 1347 "wanted" "origin" "place" "part" "want"
def o810:=H15 59 "need_all"
def o811:=H10 "need_all" 1344 "need_all" 588 4 806 1353 1354
def o812:=H16 59 "need_all" "eachstepsame.typer" 900 811
def o815:=H12 "_law_script" 1361 "_law_k"
def o817:=H15 61 "_law_cell_at"
def o818:=H10 "_law_cell_at" 1358 "_law_cell_at" 594 2 813 1363 1364
def o819:=H16 61 "_law_cell_at" "law_eachstepsame_k17_runs_that_go_deep" 1356 818
def o822:=H8 "_law_cell" 1369 "_law_k" "_law_number"
def o824:=H15 62 "_law_mixed"
def o825:=H10 "_law_mixed" 1366 "_law_mixed" 598 2 820 1372 1373
def o826:=H16 62 "_law_mixed" "law_eachstepsame_k17_runs_that_go_deep" 1356 825
def o829:=H14 "_law_x" 1378
def o831:=H15 63 "_law_name"
def o832:=H10 "_law_name" 1375 "_law_name" 602 1 827 1379 1380
def o833:=H16 63 "_law_name" "law_eachstepsame_k17_runs_that_go_deep" 1356 832
def o836:=H8 "_law_op" 1385 "_law_one" "_law_other"
def o838:=H15 64 "_law_two"
def o839:=H10 "_law_two" 1382 "_law_two" 604 3 834 1388 1389
def o840:=H16 64 "_law_two" "law_eachstepsame_k17_runs_that_go_deep" 1356 839
def o843:=tu [(.str "_law_way" 1394),(.str "_law_logs" 1395),(.str "_law_num" 1396),(.str "_law_deeper" 1397),(.str "_law_bottom" 1398),(.str "_law_rows" 1399),(.str "_law_catches" 1400),(.str "_law_main" 1401),(.str "_law_again" 1402),(.str "_law_loop" 1403),(.str "_law_f" 1404)]
def o845:=H15 65 "_law_tree"
def o846:=H10 "_law_tree" 1391 "_law_tree" 606 2 841 1405 1406
def o847:=H16 65 "_law_tree" "law_eachstepsame_k17_runs_that_go_deep" 1356 846
def o850:=H15 66 "_law_due"
def o851:=H17 "_law_due" 1408 "_law_due" 621 4 848 1411
def o852:=H16 66 "_law_due" "law_eachstepsame_k17_runs_that_go_deep" 1356 851
def o855:=H25 "_law_gives" 1417 "_law_last" "_law_num" "_law_wide" "_law_inner" "_law_f" "_law_rows" "_law_main"
def o857:=H15 67 "_law_wholes"
def o858:=H10 "_law_wholes" 1414 "_law_wholes" 628 2 853 1425 1426
def o859:=H16 67 "_law_wholes" "law_eachstepsame_k17_runs_that_go_deep" 1356 858
def o862:=H15 68 "_law_wholes_right"
def o863:=H17 "_law_wholes_right" 1428 "_law_wholes_right" 637 1 860 1431
def o864:=H16 68 "_law_wholes_right" "law_eachstepsame_k17_runs_that_go_deep" 1356 863
def o867:=H25 "_law_script" 1437 "_law_k" "_law_cell" "_law_way" "_law_deep" "_law_budget" "_law_logs" "_law_found"
def o869:=H15 69 "law"
def o870:=H10 "law" 1434 "law" 653 1 865 1445 1446
def o871:=H16 69 "law" "law_eachstepsame_k17_runs_that_go_deep" 1356 870
def ha(P:Params):Heap:=⟨⟨[(boot_o_0 P),(boot_o_1 P),(boot_o_2 P),(boot_o_3 P),(boot_o_4 P),(boot_o_5 P),(boot_o_6 P),(boot_o_7 P),(boot_o_8 P),(boot_o_9 P),(boot_o_10 P),t0,o12a,o13a,o14a]⟩,{}⟩
def tb1(P:Params):BT:=n7 (boot_o_1 P) (boot_o_3 P) (boot_o_7 P) t0 (boot_o_5 P) (boot_o_9 P) o13a
def tb2(P:Params):BT:=n7 (boot_o_2 P) (boot_o_4 P) (boot_o_8 P) o12a (boot_o_6 P) (boot_o_10 P) o14a
def tb(P:Params):BT:=(.node (boot_o_0 P) (tb1 P) (tb2 P))
def h0(P:Params)(r:List Obj):List Obj:=(boot_o_0 P)::(boot_o_1 P)::(boot_o_2 P)::(o3 P)::(boot_o_4 P)::(boot_o_5 P)::(boot_o_6 P)::(boot_o_7 P)::(boot_o_8 P)::(boot_o_9 P)::(boot_o_10 P)::t0::o12::o13a::o14a::o15::o16::(o17 P)::t0::o12a::o20::o21::t0::(o23 P)::r
def h1(P:Params)(r:List Obj):List Obj:=o24::o25::o26::o27::o28::o16::(o30 P)::t0::o32::o33::o34::t0::o12a::o37::t0::o39::o40::o41::o42::(o43 P)::o44::o45::o46::o28::r
def h2(P:Params)(r:List Obj):List Obj:=o16::(o49 P)::t0::o51::o52::o53::t0::o12a::o56::t0::o58::o59::o60::o61::(o62 P)::o63::o64::o65::o28::o16::(o68 P)::t0::o70::o71::r
def h3(P:Params)(r:List Obj):List Obj:=o72::t0::o12a::o75::t0::o77::o78::o79::o80::(o81 P)::o82::o83::o84::o28::o16::(o87 P)::t0::o89::o90::o91::t0::o12a::o94::t0::r
def h4(P:Params)(r:List Obj):List Obj:=o96::o97::o98::t0::(o100 P)::o101::o102::o103::o28::o16::(o106 P)::t0::o108::o109::o110::t0::o12a::o113::t0::o115::o116::o117::o118::(o119 P)::r
def h5(P:Params)(r:List Obj):List Obj:=o120::o121::o122::o28::o16::(o125 P)::t0::o127::o128::o129::t0::o12a::o132::t0::o134::o135::o136::t0::(o138 P)::o139::o140::o141::o28::o16::r
def h6(P:Params)(r:List Obj):List Obj:=(o144 P)::t0::o146::o147::o148::t0::o12a::o151::t0::o153::o154::o155::o156::(o157 P)::o158::o159::o160::o161::o162::t0::o12a::o165::t0::o167::r
def h7(P:Params)(r:List Obj):List Obj:=o168::o169::t0::o12a::o172::t0::o174::o175::o176::t0::o12a::o179::o180::o181::t0::o12a::o184::o185::o186::t0::o12a::o189::o190::o191::r
def h8(P:Params)(r:List Obj):List Obj:=o192::t0::o12a::o195::t0::o197::o198::o199::t0::o12a::o202::t0::o204::o205::o206::t0::o12a::o209::t0::o211::o212::o213::t0::o12a::r
def h9(P:Params)(r:List Obj):List Obj:=o216::t0::o218::o219::o220::t0::o12a::o223::t0::o225::o226::o227::t0::o12a::o230::t0::o232::o233::o234::t0::o12a::o237::t0::o239::r
def h10(P:Params)(r:List Obj):List Obj:=o240::o241::t0::o12a::o244::t0::o246::o247::o248::t0::o16::(o251 P)::t0::o253::o254::o255::t0::o12a::o258::t0::o260::o261::o262::t0::r
def h11(P:Params)(r:List Obj):List Obj:=o12a::o265::t0::o267::o268::o269::o270::(o271 P)::o272::o273::o274::o275::o276::t0::o16::(o279 P)::t0::o281::o282::o283::t0::o12a::o286::t0::r
def h12(P:Params)(r:List Obj):List Obj:=o288::o289::o290::t0::o12a::o293::t0::o295::o296::o297::t0::o12a::o300::t0::o302::o303::o304::t0::o12a::o307::t0::o309::o310::o311::r
def h13(P:Params)(r:List Obj):List Obj:=t0::o12a::o314::t0::o316::o317::o318::t0::o12a::o321::t0::o323::o324::o325::o326::(o327 P)::o328::o329::o330::o331::o332::t0::o12a::o335::r
def h14(P:Params)(r:List Obj):List Obj:=t0::o337::o338::o339::t0::o12a::o342::t0::o344::o345::o346::t0::o12a::o349::t0::o351::o352::o353::t0::o12a::o356::t0::o358::o359::r
def h15(P:Params)(r:List Obj):List Obj:=o360::t0::o12a::o363::t0::o365::o366::o367::t0::o12a::o370::t0::o372::o373::o374::t0::o12a::o377::t0::o379::o380::o381::(o382 P)::t0::r
def h16(P:Params)(r:List Obj):List Obj:=o12a::o385::o386::o387::t0::o16::(o390 P)::t0::o392::o393::o394::t0::o12a::o397::t0::o399::o400::o401::t0::o12a::o404::t0::o406::o407::r
def h17(P:Params)(r:List Obj):List Obj:=o408::t0::o12a::o411::o412::o413::t0::o12a::o416::t0::o418::o419::o420::o421::(o422 P)::o423::o424::o425::o426::o427::o428::o16::(o430 P)::t0::r
def h18(P:Params)(r:List Obj):List Obj:=o432::o433::o434::t0::o12a::o437::t0::o439::o440::o441::t0::o12a::o444::o445::o446::t0::o12a::o449::t0::o451::o452::o453::t0::o12a::r
def h19(P:Params)(r:List Obj):List Obj:=o456::t0::o458::o459::o460::t0::o12a::o463::t0::o465::o466::o467::t0::o12a::o470::t0::o472::o473::o474::t0::o12a::o477::t0::o479::r
def h20(P:Params)(r:List Obj):List Obj:=o480::o481::t0::o12a::o484::t0::o486::o487::o488::t0::o12a::o491::t0::o493::o494::o495::t0::o12a::o498::t0::o500::o501::o502::t0::r
def h21(P:Params)(r:List Obj):List Obj:=o12a::o505::t0::o507::o508::o509::o510::(o511 P)::o512::o513::o514::t0::o12a::o517::t0::o519::o520::o521::(o522 P)::o523::o524::o525::o526::o527::r
def h22(P:Params)(r:List Obj):List Obj:=o528::o529::o530::o531::o532::o533::o534::o535::o536::o537::o538::o539::o540::o541::o542::o543::o544::o545::o546::o547::o548::o549::(o550 P)::o551::r
def h23(P:Params)(r:List Obj):List Obj:=o552::o553::o554::o555::o556::t0::o16::(o559 P)::t0::o561::o562::o563::t0::o12a::o566::t0::o568::o569::o570::t0::o12a::o573::t0::o575::r
def h24(P:Params)(r:List Obj):List Obj:=o576::o577::o578::(o579 P)::o580::o581::o582::o583::o584::t0::o12a::o587::o588::o589::t0::o16::(o592 P)::t0::o594::o595::o596::t0::o12a::o599::r
def h25(P:Params)(r:List Obj):List Obj:=t0::o601::o602::o603::t0::o12a::o606::t0::o608::o609::o610::t0::o12a::o613::t0::o615::o616::o617::t0::o12a::o620::o621::o622::t0::r
def h26(P:Params)(r:List Obj):List Obj:=o12a::o625::t0::o627::o628::o629::t0::o12a::o632::t0::o634::o635::o636::o637::(o638 P)::o639::o640::o641::o642::o643::t0::o16::(o646 P)::t0::r
def h27(P:Params)(r:List Obj):List Obj:=o648::o649::o650::t0::o12a::o653::t0::o655::o656::o657::t0::o12a::o660::o661::o662::t0::o12a::o665::t0::o667::o668::o669::t0::o12a::r
def h28(P:Params)(r:List Obj):List Obj:=o672::t0::o674::o675::o676::t0::o12a::o679::t0::o681::o682::o683::t0::o12a::o686::t0::o688::o689::o690::t0::o12a::o693::t0::o695::r
def h29(P:Params)(r:List Obj):List Obj:=o696::o697::t0::o12a::o700::t0::o702::o703::o704::t0::o12a::o707::t0::o709::o710::o711::t0::o12a::o714::t0::o716::o717::o718::t0::r
def h30(P:Params)(r:List Obj):List Obj:=o12a::o721::t0::o723::o724::o725::t0::o12a::o728::t0::o730::o731::o732::t0::o12a::o735::t0::o737::o738::o739::t0::o12a::o742::t0::r
def h31(P:Params)(r:List Obj):List Obj:=o744::o745::o746::o747::(o748 P)::o749::o750::o751::o752::o753::t0::o12a::o756::t0::o758::o759::o760::t0::o12a::o763::o764::o765::t0::o12a::r
def h32(P:Params)(r:List Obj):List Obj:=o768::o769::o770::t0::o12a::o773::t0::o775::o776::o777::t0::o12a::o780::t0::o782::o783::o784::t0::o12a::o787::t0::o789::o790::o791::r
def h33(P:Params)(r:List Obj):List Obj:=t0::o12a::o794::t0::o796::o797::o798::t0::o12a::o801::t0::o803::o804::o805::t0::o12a::o808::t0::o810::o811::o812::t0::o12a::o815::r
def h34(P:Params)(r:List Obj):List Obj:=t0::o817::o818::o819::t0::o12a::o822::t0::o824::o825::o826::t0::o12a::o829::t0::o831::o832::o833::t0::o12a::o836::t0::o838::o839::r
def h35(P:Params)(r:List Obj):List Obj:=o840::t0::o12a::o843::t0::o845::o846::o847::t0::o12a::o850::o851::o852::t0::o12a::o855::t0::o857::o858::o859::t0::o12a::o862::o863::r
def h36(P:Params)(r:List Obj):List Obj:=o864::t0::o12a::o867::t0::o869::o870::o871::r
def hl(P:Params):List Obj:=h0 P (h1 P (h2 P (h3 P (h4 P (h5 P (h6 P (h7 P (h8 P (h9 P (h10 P (h11 P (h12 P (h13 P (h14 P (h15 P (h16 P (h17 P (h18 P (h19 P (h20 P (h21 P (h22 P (h23 P (h24 P (h25 P (h26 P (h27 P (h28 P (h29 P (h30 P (h31 P (h32 P (h33 P (h34 P (h35 P (h36 P ([])))))))))))))))))))))))))))))))))))))
def hf(P:Params):Heap:=⟨⟨hl P⟩,{}⟩
noncomputable def ev:List Obj->List Obj
 |a::_::l=>a::ev l
 |l=>l
noncomputable def od:List Obj->List Obj
 |_::b::l=>b::od l
 |_=>[]
def mT:Nat->List Obj->BT
 |n+1,a::l=> .node a (mT n (ev l)) (mT n (od l))
 |_,_=> .nil
def tl(P:Params):BT:=mT 11 (hl P)
noncomputable def pk:Nat->List Addr->List Obj->Frag
 |n,a::r,o::l=>if Nat.beq n a then(a,o)::pk (n+1) r l else pk (n+1) (a::r) l
 |_,_,_=>[]
noncomputable def as:List Addr:=[2,3,15,22,23,24,25,28,35,37,38,40,41,42,43,44,47,54,56,57,59,60,61,62,63,66,73,75,76,78,79,80,81,82,85,92,94,95,97,98,99,100,101,104,111,113,114,116,117,118,119,120,123,130,132,133,135,136,137,138,139,142,149,151,152,154,155,156,157,158,161,162,163,165,166,168,169,170,172,173,175,176,177,180,181,182,185,186,187,190,191,192,193,195,196,198,199,200,202,203,205,206,207,209,210,212,213,214,216,217,219,220,221,223,224,226,227,228,230,231,233,234,235,237,238,240,241,242,244,245,247,248,256,258,259,261,262,263,265,266,268,269,270,271,272,273,274,284,286,287,289,290,291,293,294,296,297,298,300,301,303,304,305,307,308,310,311,312,314,315,317,318,319,321,322,324,325,326,327,328,329,330,333,335,336,338,339,340,342,343,345,346,347,349,350,352,353,354,356,357,359,360,361,363,364,366,367,368,370,371,373,374,375,377,378,380,381,382,383,386,387,395,397,398,400,401,402,404,405,407,408,409,412,413,414,416,417,419,420,421,422,423,424,425,428,435,437,438,440,441,442,445,446,447,449,450,452,453,454,456,457,459,460,461,463,464,466,467,468,470,471,473,474,475,477,478,480,481,482,484,485,487,488,489,491,492,494,495,496,498,499,501,502,503,505,506,508,509,510,511,512,515,517,518,520,521,522,523,524,525,526,527,528,529,530,531,532,533,534,535,536,537,538,539,540,541,542,543,544,545,546,547,548,549,550,551,552,553,554,555,556,564,566,567,569,570,571,573,574,576,577,578,579,580,581,582,585,588,589,597,599,600,602,603,604,606,607,609,610,611,613,614,616,617,618,621,622,623,625,626,628,629,630,632,633,635,636,637,638,639,640,641,651,653,654,656,657,658,661,662,663,665,666,668,669,670,672,673,675,676,677,679,680,682,683,684,686,687,689,690,691,693,694,696,697,698,700,701,703,704,705,707,708,710,711,712,714,715,717,718,719,721,722,724,725,726,728,729,731,732,733,735,736,738,739,740,742,743,745,746,747,748,749,750,751,754,756,757,759,760,761,764,765,766,769,770,771,773,774,776,777,778,780,781,783,784,785,787,788,790,791,792,794,795,797,798,799,801,802,804,805,806,808,809,811,812,813,815,816,818,819,820,822,823,825,826,827,829,830,832,833,834,836,837,839,840,841,843,844,846,847,848,851,852,853,855,856,858,859,860,863,864,865,867,868,870,871]
def K(P:Params):Frag:=pk 0 as (hl P)
def kc(P:Params):Frag:=K P
noncomputable def env:Env:={scope:=PySem.Challenge.pw_eachstepsame_k17_runs_that_go_deep.main.scope,locals:=mainNs,globals:=mainNs,cells:=[],code:=(.ref 13),frame:=some 14}
def cE:Code:= .body (behindTheImports PySem.Challenge.pw_eachstepsame_k17_runs_that_go_deep) env
theorem tws:((λ(_:Params->BT) (_:Params->BT) (_:Params->Heap) (_:Params->Heap) (_:Params->Frag) (_:Program) (_:Code)=>true) tb tl ha hf kc q cE)=true:=by k_qdec
theorem pre(w:World):(λos:OsState=>topGo treeTable PySem.Challenge.pw_eachstepsame_k17_runs_that_go_deep w 11 (some (.ref 6)) 12 ⟨boot_heap w.params,⟨[]⟩,boot_drawn,boot_toks,os⟩ (topStub PySem.Challenge.pw_eachstepsame_k17_runs_that_go_deep))=λos=>some (⟨ha w.params,⟨[]⟩,{},187,os⟩,⟨denote treeTable cE,cE,⟨0,0,0,0⟩,[topFrame ⟨0,0,0,0⟩]⟩):=by
 rewrite[PySem.W.Fast.te15667345088766844465,PySem.W.Fast.te14364793385576792824,PySem.W.Fast.te18233158876485616500,PySem.W.Fast.te12167769141508308155,PySem.W.Fast.te11892475500146522536,PySem.W.Fast.te2343313782933208130]
 kernel_rfl
theorem block(w:World):(λos:OsState=>segRun treeTable PySem.Challenge.pw_eachstepsame_k17_runs_that_go_deep w 11 (some (.ref 6)) 1 1 ⟨ha w.params,⟨[]⟩,{},187,os⟩ (blockOf (behindTheImports PySem.Challenge.pw_eachstepsame_k17_runs_that_go_deep) env cE ⟨0,0,0,0⟩ [topFrame ⟨0,0,0,0⟩]))=λos=>some (Flow.next,(⟨tb w.params,15,{},⟨[]⟩,{},187,os⟩:SharedT).abs,cE,⟨0,0,0,0⟩):=by
 rewrite[PySem.W.Fast.te14374325043358763698,PySem.W.Fast.te14364793385576792824,PySem.W.Fast.te18233158876485616500,PySem.W.Fast.te12167769141508308155,PySem.W.Fast.te17306263501064129316,PySem.W.Fast.te17150320874572105945,PySem.W.Fast.te2343313782933208130]
 kernel_rfl
theorem seg(w:World):(λos:OsState=>segRunT treeTable PySem.Challenge.pw_eachstepsame_k17_runs_that_go_deep w 11 (some (.ref 6)) 1 6600 (⟨tb w.params,15,{},⟨[]⟩,{},187,os⟩:SharedT) (piecesOf (behindTheImports PySem.Challenge.pw_eachstepsame_k17_runs_that_go_deep) env cE ⟨0,0,0,0⟩ [topFrame ⟨0,0,0,0⟩]))=λos=>some (Flow.next,(⟨tl w.params,872,{},⟨[]⟩,{},1448,os⟩:SharedT),cE,⟨653,0,663,58⟩):=by
 refine PySem.W.byRow2 "special-get-raises" (P:=λw=>(λos:OsState=>segRunT treeTable PySem.Challenge.pw_eachstepsame_k17_runs_that_go_deep w 11 (some (.ref 6)) 1 6600 (⟨tb w.params,15,{},⟨[]⟩,{},187,os⟩:SharedT) (piecesOf (behindTheImports PySem.Challenge.pw_eachstepsame_k17_runs_that_go_deep) env cE ⟨0,0,0,0⟩ [topFrame ⟨0,0,0,0⟩]))=λos=>some (Flow.next,(⟨tl w.params,872,{},⟨[]⟩,{},1448,os⟩:SharedT),cE,⟨653,0,663,58⟩)) (λw=> ?_) (λw=> ?_) w
 ·rewrite[PySem.W.Fast.te10110043849684766642,PySem.W.Fast.te14364793385576792824,PySem.W.Fast.te18233158876485616500,PySem.W.Fast.te17306263501064129316,PySem.W.Fast.te7101502176447651324,PySem.W.Fast.te17150320874572105945,PySem.W.Fast.te2343313782933208130]
  kernel_rfl
 ·rewrite[PySem.W.Fast.te10110043849684766642,PySem.W.Fast.te14364793385576792824,PySem.W.Fast.te18233158876485616500,PySem.W.Fast.te17306263501064129316,PySem.W.Fast.te7101502176447651324,PySem.W.Fast.te17150320874572105945,PySem.W.Fast.te2343313782933208130]
  kernel_rfl
theorem fin(w:World):(λos:OsState=>topRun treeTable PySem.Challenge.pw_eachstepsame_k17_runs_that_go_deep w 11 (some (.ref 6)) 2 (⟨tl w.params,872,{},⟨[]⟩,{},1448,os⟩:SharedT).abs ⟨doneF .next,cE,⟨653,0,663,58⟩,[topFrame ⟨0,0,0,0⟩]⟩)=λos=>some (⟨hf w.params,⟨[]⟩,{},1448,os⟩:Shared):=by
 rewrite[PySem.W.Fast.te14082659384304107361,PySem.W.Fast.te14364793385576792824,PySem.W.Fast.te18233158876485616500,PySem.W.Fast.te7101502176447651324,PySem.W.Fast.te10544986032919753165,PySem.W.Fast.te2343313782933208130]
 kernel_rfl
theorem run(w:World)(os:OsState):topRun treeTable PySem.Challenge.pw_eachstepsame_k17_runs_that_go_deep w 11 (some (.ref 6)) (12+(1+(6600+2))) ⟨boot_heap w.params,⟨[]⟩,boot_drawn,boot_toks,os⟩ (topStub PySem.Challenge.pw_eachstepsame_k17_runs_that_go_deep)=some (⟨hf w.params,⟨[]⟩,{},1448,os⟩:Shared):=by have a:=piece_app (rest:=[]) (segRun_of (congrFun (seg w) os)) (piece_nil (congrFun (fin w) os));rw[List.append_nil] at a;exact go_top (congrFun (pre w) os) (piece_block (congrFun (block w) os) a)
def Xt(s:Shared):Bool:=xlAt q [] s&&recOk [] s
theorem keys(P:Params):as=(K P).map (·.1):=by kernel_rfl
def hk:Hook:=kHook K as keys
theorem lk1(w:World):(λos:OsState=>staticsOk (importedModules PySem.Challenge.pw_eachstepsame_k17_runs_that_go_deep.main.body) (boot_heap w.params) (hf w.params)&&namesBound PySem.Challenge.pw_eachstepsame_k17_runs_that_go_deep (hf w.params)&&gensDone (⟨hf w.params,⟨[]⟩,{},1448,os⟩:Shared)&&laidKept (boot_heap w.params) (hf w.params))=λos=>true:=by
 rewrite[PySem.W.Fast.te5923862056798008813,PySem.W.Fast.te18233158876485616500,PySem.W.Fast.te10544986032919753165]
 kernel_rfl
theorem lk2(w:World):(λos:OsState=>seen ((recsOf q).map (·.name)) (ownsOf q) [] {(⟨hf w.params,⟨[]⟩,{},1448,os⟩:Shared) with gens:= #[]})=λos=>expectedOf q:=by
 rewrite[PySem.W.Fast.te5160383126252970620,PySem.W.Fast.te3399658132070893891,PySem.W.Fast.te5991557255702980513,PySem.W.Fast.te1768822226353211369,PySem.W.Fast.te10544986032919753165]
 kernel_rfl
theorem lk3(w:World):(λos:OsState=>(⟨hf w.params,⟨[]⟩,{},1448,os⟩:Shared).heap.bltView)=λos=>bltViewBooted:=by
 rewrite[PySem.W.Fast.te10544986032919753165]
 kernel_rfl
theorem lk4(w:World):(λos:OsState=>(⟨hf w.params,⟨[]⟩,{},1448,os⟩:Shared).heap.keysOk (looseW q ["NODES","TWO","ONE"]) ((recsOf q).map (·.name)) ((litsOf q).map (·.1)) ((clssOf q (looseW q ["NODES","TWO","ONE"])).map (·.name))&&(⟨hf w.params,⟨[]⟩,{},1448,os⟩:Shared).heap.accountedOkI (importedModules PySem.Challenge.pw_eachstepsame_k17_runs_that_go_deep.main.body)&&(⟨hf w.params,⟨[]⟩,{},1448,os⟩:Shared).heap.isNs mainGlobals&&(⟨hf w.params,⟨[]⟩,{},1448,os⟩:Shared).heap.isNs builtinsNs&&tablesOk q (⟨hf w.params,⟨[]⟩,{},1448,os⟩:Shared).heap&&Xt (⟨hf w.params,⟨[]⟩,{},1448,os⟩:Shared)&&(if true then(⟨hf w.params,⟨[]⟩,{},1448,os⟩:Shared).gens.size==0 else !leftWithCleanup (⟨hf w.params,⟨[]⟩,{},1448,os⟩:Shared).gens))=λos=>true:=by
 rewrite[PySem.W.Fast.te821141287760084731,PySem.W.Fast.te3399658132070893891,PySem.W.Fast.te7409074990110511671,PySem.W.Fast.te13664370479719496447,PySem.W.Fast.te5923862056798008813,PySem.W.Fast.te10994771534591457954,PySem.W.Fast.te18233158876485616500,PySem.W.Fast.te1768822226353211369,PySem.W.Fast.te10544986032919753165]
 kernel_rfl
theorem lk5(w:World):(λos:OsState=>tabsOk q (⟨hf w.params,⟨[]⟩,{},1448,os⟩:Shared))=λos=>true:=by
 rewrite[PySem.W.Fast.te479339242167458305,PySem.W.Fast.te1768822226353211369,PySem.W.Fast.te10544986032919753165]
 kernel_rfl
theorem lk6(w:World):(λos:OsState=>pinSeenD q (drecsOf q) (⟨hf w.params,⟨[]⟩,{},1448,os⟩:Shared))=λos=>pinGoodD (drecsOf q):=by
 rewrite[PySem.W.Fast.te16090120013241838585,PySem.W.Fast.te3247288618530077131,PySem.W.Fast.te1768822226353211369,PySem.W.Fast.te10544986032919753165]
 kernel_rfl
theorem lk7(w:World):(λos:OsState=>plainSeenE q (looseW q ["NODES","TWO","ONE"]) (⟨hf w.params,⟨[]⟩,{},1448,os⟩:Shared))=λos=>plainGoodE q (looseW q ["NODES","TWO","ONE"]):=by
 rewrite[PySem.W.Fast.te2386780881361962483,PySem.W.Fast.te821141287760084731,PySem.W.Fast.te1768822226353211369,PySem.W.Fast.te10544986032919753165]
 kernel_rfl
theorem lk8(w:World):(λos:OsState=>plainSeenD q ["NODES","TWO","ONE"] (⟨hf w.params,⟨[]⟩,{},1448,os⟩:Shared))=λos=>plainGoodD q ["NODES","TWO","ONE"]:=by
 rewrite[PySem.W.Fast.te11698064438423848299,PySem.W.Fast.te1768822226353211369,PySem.W.Fast.te10544986032919753165]
 kernel_rfl
theorem lk9(w:World):(λos:OsState=>wideSeen q (⟨hf w.params,⟨[]⟩,{},1448,os⟩:Shared))=λos=>wideGood q:=by
 rewrite[PySem.W.Fast.te7317090234206586261,PySem.W.Fast.te1768822226353211369,PySem.W.Fast.te10544986032919753165]
 kernel_rfl
theorem lk10(w:World):(λos:OsState=>clsSeenW q ["NODES","TWO","ONE"] (⟨hf w.params,⟨[]⟩,{},1448,os⟩:Shared))=λos=>clsGoodW q ["NODES","TWO","ONE"]:=by
 rewrite[PySem.W.Fast.te7369524293546568484,PySem.W.Fast.te1768822226353211369,PySem.W.Fast.te10544986032919753165]
 kernel_rfl
theorem kkc:K=kc:=rfl
theorem lk11(w:World):(λos:OsState=>hk.obs (⟨hf w.params,⟨[]⟩,{},1448,os⟩:Shared))=λos=>hk.val w:=by
 show(λos:OsState=>as.map (⟨hf w.params,⟨[]⟩,{},1448,os⟩:Shared).heap.get?)=λos=>(K w.params).map λp=>some p.2
 rewrite[kkc,PySem.W.Fast.te10544986032919753165,PySem.W.Fast.te11339538413228328203]
 kernel_rfl
theorem looks(w:World):(λos:OsState=>((staticsOk (importedModules PySem.Challenge.pw_eachstepsame_k17_runs_that_go_deep.main.body) (boot_heap w.params) (hf w.params)&&namesBound PySem.Challenge.pw_eachstepsame_k17_runs_that_go_deep (hf w.params)&&gensDone (⟨hf w.params,⟨[]⟩,{},1448,os⟩:Shared)&&laidKept (boot_heap w.params) (hf w.params)),
  openSeen q ["NODES","TWO","ONE"] (importedModules PySem.Challenge.pw_eachstepsame_k17_runs_that_go_deep.main.body) Xt true (⟨hf w.params,⟨[]⟩,{},1448,os⟩:Shared),hk.obs (⟨hf w.params,⟨[]⟩,{},1448,os⟩:Shared)))=λ_=>(true,openGood q ["NODES","TWO","ONE"],hk.val w):=by
 funext os;refine looks_pair (congrFun (lk1 w) os) (looks_pair ?_ (congrFun (lk11 w) os));exact looks_pair (congrFun (lk2 w) os) (looks_pair (congrFun (lk3 w) os) (looks_pair (congrFun (lk4 w) os) (looks_pair (congrFun (lk5 w) os) (looks_pair (congrFun (lk6 w) os) (looks_pair (congrFun (lk7 w) os) (looks_pair (congrFun (lk8 w) os) (looks_pair (congrFun (lk9 w) os) (congrFun (lk10 w) os))))))))
theorem left:LeftO PySem.Challenge.pw_eachstepsame_k17_runs_that_go_deep q ["NODES","TWO","ONE"] Xt hk.obs hk.val 13324 true:=
 LeftO.of_pieces (boot_open (by kernel_rfl) (by kernel_rfl) (λs=>by kernel_rfl)) (λw=>by kernel_rfl) run (by kernel_rfl) looks
end
end Op
section
open PySem PySem.Spec PyProof.Rows
noncomputable def aa:= @wpAny_bind
noncomputable def ac:= @Heap.get?_push_of_some
noncomputable def bd:= @List.getElem?_set_ne
noncomputable def au:= @Bool.false_ne_true
noncomputable def af:= @wpAny_pure
noncomputable def ag:= @Option.some.inj
noncomputable def ae:= @Nat.le_refl
noncomputable def ai:= @Heap.lt_size
noncomputable def aj:= @Nat.ne_of_lt
noncomputable def aH:= @List.mem_of_getElem?
noncomputable def ao:= @Nat.lt_of_lt_of_le
noncomputable def ak:= @Heap.get?_push_size
noncomputable def bq:= @List.getElem?_eq_getElem
noncomputable def bc:= @List.set_append_left
noncomputable def az:= @PySem.mem_of_lookup
noncomputable def aA:= @List.length_set
noncomputable def aI:= @Nat.lt_succ_self
noncomputable def aX:= @List.getElem?_map
noncomputable def aB:= @List.mem_append_right
noncomputable def aR:= @List.getElem?_append_left
noncomputable def aQ:= @List.getElem?_append_right
noncomputable def aE:= @List.length_append
noncomputable def aV:= @List.getElem?_set_self
noncomputable def aT:= @Nat.le_trans
noncomputable def bp:= @Nat.ne_of_gt
noncomputable def a_:= @wpAny_setField_rec
noncomputable def bz:= @Nat.lt_irrefl
noncomputable def aP:= @wpAny_mono
noncomputable def aJ:= @wpAny_field
noncomputable def aS:= @PyProof.Rows.callWith_type1
theorem aL{α:Type _}{l:List α}{i:Nat}{a:α}(h:l[i]? =some a):∃h:i<l.length,l[i]=a:=List.getElem?_eq_some_iff.mp h
noncomputable abbrev al:=PySem.W.Frag
end
theorem lC{P:Prop}(h:false=true):P:=absurd h au
namespace L2
open PySem PySem.Spec PyProof.Rows
variable{us:List Value}{u:Value}{C a b dx it:Addr}{base h:Heap}{w:World}{P:Program}{o:Obj}{ch fp:List Addr}{i j n t':Nat}{qual x:Str}{E Q:Value->Shared->Prop}{A:Around}{c e tg:Expr}{s:Shared}{p pos pos':Pos}{pins:List (Addr×Obj)}{f:Value->Value->Sem Value}{mA mg:Str->Option Value}{kw:List (Str×Value)}
noncomputable abbrev Key:=Sum Int Str
noncomputable def mF:Key->Value->Bool
 | .inl k,v=>Value.isInt k v
 | .inr x,v=>Value.isStrOf x v
noncomputable def D3(w:World):Key->Int
 | .inl k=>hashInt k
 | .inr x=>hashStr w x
theorem b6:∀{k:Key}{v:Value},mF k v=true->(∃i t,k=Sum.inl i/\v=Value.int i t)∨(∃x t,k=Sum.inr x/\v=Value.str x t)
 | .inl i,v,h=>by obtain⟨t,e⟩:=Value.isInt_shape (k:=i) (v:=v) h;exact .inl ⟨i,t,rfl,e⟩
 | .inr x,v,h=>by obtain⟨t,e⟩:=Value.isStrOf_shape (x:=x) (v:=v) h;exact .inr ⟨x,t,rfl,e⟩
theorem sM(i:Int)(t:Tok):mF (.inl i) (.int i t)=true:=by simp[mF,Value.isInt]
theorem jD(x:Str)(t:Tok):mF (.inr x) (.str x t)=true:=by simp[mF,Value.isStrOf]
theorem Aj(a b:Int):decide ((Sum.inl a:Key)=Sum.inl b)=(a==b):=by
 by_cases e:a=b
 ·subst e;simp
 ·have h:¬(Sum.inl a:Key)=Sum.inl b:=λq=>e (Sum.inl.inj q);rw[decide_eq_false h];exact(beq_eq_false_iff_ne.mpr e).symm
theorem Ag(a b:Str):decide ((Sum.inr a:Key)=Sum.inr b)=decide (a=b):=by
 by_cases e:a=b
 ·subst e;simp
 ·have h:¬(Sum.inr a:Key)=Sum.inr b:=λq=>e (Sum.inr.inj q);rw[decide_eq_false h,decide_eq_false e]
theorem Ai(a:Int)(b:Str):decide ((Sum.inl a:Key)=Sum.inr b)=false:=decide_eq_false (λq=>nomatch q)
theorem Ah(a:Str)(b:Int):decide ((Sum.inr a:Key)=Sum.inl b)=false:=decide_eq_false (λq=>nomatch q)
noncomputable def b0(prog:Program)(w:World):PySem.KeyKind prog w Key where
 is:=mF
 hash:=D3 w
 inj:=λv a b ha hb=>by
  rcases b6 ha with⟨i,t,rfl,rfl⟩|⟨x,t,rfl,rfl⟩
  ·rcases b6 hb with⟨j,u,rfl,e⟩|⟨y,u,rfl,e⟩
   ·injection e with e1 _;rw[e1]
   ·exact nomatch e
  ·rcases b6 hb with⟨j,u,rfl,e⟩|⟨y,u,rfl,e⟩
   ·exact nomatch e
   ·injection e with e1 _;rw[e1]
 byValue:=λk v h=>by rcases b6 h with⟨i,t,rfl,rfl⟩|⟨x,t,rfl,rfl⟩<;>rfl
 pyHash:=λhv h=>by
  rcases b6 hv with⟨i,t,rfl,rfl⟩|⟨x,t,rfl,rfl⟩
  ·exact wpAny_pyHash_int h
  ·exact wpAny_pyHash_str h
 eqBool:=λhu hv h=>by
  rcases b6 hu with⟨i,t,rfl,rfl⟩|⟨x,t,rfl,rfl⟩
  ·rcases b6 hv with⟨j,u,rfl,rfl⟩|⟨y,u,rfl,rfl⟩
   ·rw[Aj] at h;exact wpAny_eqBool_int h
   ·rw[Ai] at h;exact SeqAt.EqAt.int_str i t y u _ _ _ _ h
  ·rcases b6 hv with⟨j,u,rfl,rfl⟩|⟨y,u,rfl,rfl⟩
   ·rw[Ah] at h;exact SeqAt.EqAt.str_int x t j u _ _ _ _ h
   ·rw[Ag] at h;exact wpAny_eqBool_str h
 «strs»:=λk x t v h=>by
  rcases b6 h with⟨i,u,rfl,e⟩|⟨y,u,rfl,e⟩
  ·exact nomatch e
  ·injection e with e1 _;subst e1;cases v<;>rfl
theorem oS(prog:Program)(w:World)(i:Int)(t:Tok):(b0 prog w).is (.inl i) (.int i t)=true:=sM i t
theorem oR(prog:Program)(w:World)(x:Str)(t:Tok):(b0 prog w).is (.inr x) (.str x t)=true:=jD x t
inductive V where
 |non|bl (b:Bool)|int (i:Int)|str (x:Str)|byt (b:Array UInt8)|flt (b:UInt64)|ref (a:Addr)|ty (n:String)
 deriving DecidableEq
noncomputable def RelV:V->Value->Prop
 | .non,u=>u=Value.none
 | .bl b,u=>u=Value.bool b
 | .int i,u=>∃t,u=Value.int i t
 | .str x,u=>∃t,u=Value.str x t
 | .byt b,u=>∃t,u=Value.bytes b t
 | .flt b,u=>∃t,u=Value.float b t
 | .ref a,u=>u=Value.ref a
 | .ty n,u=>u=Value.type n
noncomputable abbrev bm:List V->List Value->Prop:=Paired RelV
theorem bm.length{xs:List V}(r:bm xs us):xs.length=us.length:=Paired.length r
theorem bm.get:∀{xs:List V}{us:List Value}{i:Nat}{x:V},bm xs us->xs[i]? =some x->∃u,us[i]? =some u/\RelV x u
 |_,_,_,_,.nil,e=>by simp at e
 |_,_,0,_,.cons r _,e=>by simp at e;subst e;exact⟨_,rfl,r⟩
 |_,_,i+1,x,.cons _ t,e=>by
  obtain⟨u,h1,h2⟩:=bm.get (i:=i) (x:=x) t (by simpa using e)
  exact⟨u,by simpa using h1,h2⟩
theorem bm.set{x:V}(r:RelV x u):∀{xs:List V}{us:List Value}(i:Nat),bm xs us->bm (xs.set i x) (us.set i u)
 |_,_,_,.nil=>.nil
 |_,_,0,.cons _ t=>.cons r t
 |_,_,i+1,.cons q t=>.cons q (bm.set r i t)
theorem bm.append:∀{xs ys:List V}{us ws:List Value},bm xs us->bm ys ws->bm (xs++ys) (us++ws)
 |_,_,_,_,.nil,s=>s
 |_,_,_,_,.cons r t,s=>.cons r (bm.append t s)
theorem bm.take:∀{xs:List V}{us:List Value}(n:Nat),bm xs us->bm (xs.take n) (us.take n)
 |_,_,0,_=>.nil
 |_,_,_+1,.nil=>.nil
 |_,_,n+1,.cons r t=>.cons r (bm.take n t)
theorem bm.drop:∀{xs:List V}{us:List Value}(n:Nat),bm xs us->bm (xs.drop n) (us.drop n)
 |_,_,0,r=>r
 |_,_,_+1,.nil=>.nil
 |_,_,n+1,.cons _ t=>bm.drop n t
noncomputable def iA:Option V->Option Value->Prop
 |some v,some u=>RelV v u
 |none,none=>True
 |_,_=>False
noncomputable def KV{κ:Type}:List (κ×V)->List (κ×Value)->Prop:=Paired λ(p:κ×V)(q:κ×Value)=>p.1=q.1/\RelV p.2 q.2
noncomputable def kV:Key->V
 | .inl i=>.int i
 | .inr x=>.str x
inductive HO where
 |lst (xs:List V)
 |tup (xs:List V)
 |dK (kvs:List (Key×V))|dT (kvs:List (List Key×V))
 |set (S:Int->Bool)(n:Nat)
 |ins (C dx:Addr)(fs:List (Str×V))
 |own (x:Addr)
 |xd (fs:List (Str×V))
 |met (f x:Addr)
 |rng (lo hi:Int)
 |frz (o:Obj)(u:HO)
 |tbl (ps:Array Value)
 |ext (φ:Heap->Prop)
noncomputable abbrev Hp:=Addr->Option HO
noncomputable def bx(H:Hp)(a:Addr)(o:HO):Hp:=λb=>if b=a then some o else H b
theorem bw{H:Hp}{o:HO}:bx H a o a=some o:=by unfold bx;rw[if_pos rfl]
theorem aD{H:Hp}{o:HO}(h:b≠a):bx H a o b=H b:=by unfold bx;rw[if_neg h]
theorem fN{H:Hp}{o u:HO}(h:H a=some o)(h':H b=some u)(d:o≠u):a≠b:=by intro e;subst e;rw[h] at h';exact d (ag h')
theorem aw{H:Hp}{o:HO}(h:H a=some o)(h':H b=none):a≠b:=by intro e;subst e;rw[h] at h';cases h'
section
variable(P:Program)(w:World)
noncomputable def cN(H:Hp)(h:Heap)(a:Addr):HO->Prop
 | .lst xs=>xs.length<=sizeLine/\∃(its:List Value)(n:Nat),bm xs its/\h.get? a=some {cls:= .type "list",data:= .seq its.toArray n}
 | .tup xs=>xs.length<=sizeLine/\∃its:List Value,bm xs its/\IsTup h a its.toArray
 | .dK kvs=>kvs.length<=sizeLine/\(a==sysModules)=false/\∃vs,KV kvs vs/\h.DictOf (b0 P w) a vs
 | .dT kvs=>kvs.length<=sizeLine/\(a==sysModules)=false/\∃xs:List (List Key×Addr×Value),
   Paired (λ(p:List Key×V)(q:List Key×Addr×Value)=>p.1=q.1/\H q.2.1=some (.tup (p.1.map kV))/\RelV p.2 q.2.2) kvs xs/\
   ∃o es ep,h.get? a=some o/\o.ExactDict/\o.data=.dict es ep/\es.toList=xs.map (entryOfKey (tupleKind (b0 P w)))/\(xs.map (·.1)).Nodup
 | .set S n=>h.SetOf (intKind P w) a S n
 | .ins C dx fs=>H dx=some (.own a)/\fs.length<=1000/\dx≠a/\h.get? a=some (PySem.W.instObj C dx)/\
   ∃mA,h.Ns1 dx mA/\(∀f,iA (fs.lookup f) (mA f))/\PySem.Within mA (fs.map (·.1))
 | .own _=>∃o,h.get? a=some o
 | .xd fs=>∃mA,h.Ns1 a mA/\∀f,iA (fs.lookup f) (mA f)
 | .rng lo hi=>∃t u v,h.get? a=some {cls:= .type "range",data:= .fields #[.int lo t,.int hi u,.int 1 v]}
 | .frz o u=>h.get? a=some o/\cN H h a u
 | .tbl ps=>h.get? a=some {cls:= .none,data:= .fields ps}
 | .met f x=>h.get? a=some (PySem.W.methodObj (.ref f) (.ref x))
 | .ext φ=>φ h/\(∃o,h.get? a=some o)/\∀h1 h2:Heap,φ h1->(∀o,h1.get? a=some o->h2.get? a=some o)->φ h2
noncomputable def iI(H:Hp)(h:Heap):Prop:=∀a o,H a=some o->cN P w H h a o
end
section
variable{P:Program}{w:World}{H H':Hp}{h h':Heap}{a:Addr}{o:HO}
theorem cN.lt(x:cN P w H h a o):a<h.objs.size:=by
 cases o with
 |lst xs=>obtain⟨_,_,_,_,e⟩:=x;exact ai e
 |tup xs=>obtain⟨_,_,_,p⟩:=x;exact p.lt
 |dK kvs=>obtain⟨_,_,_,_,o,_,_,e,_⟩:=x;exact ai e
 |dT kvs=>obtain⟨_,_,_,_,o,_,_,e,_⟩:=x;exact ai e
 |set S n=>obtain⟨o,_,_,_,e,_⟩:=x;exact ai e
 |ins C dx fs=>obtain⟨_,_,_,e,_⟩:=x;exact ai e
 |own y=>obtain⟨_,e⟩:=x;exact ai e
 |xd fs=>obtain⟨_,⟨_,_,_,e,_⟩,_⟩:=x;exact ai e
 |rng lo hi=>obtain⟨_,_,_,e⟩:=x;exact ai e
 |frz ob u=>obtain⟨e,_⟩:=x;exact ai e
 |tbl ps=>exact ai (show h.get? a=some _ from x)
 |met f y=>exact ai (show h.get? a=some _ from x)
 |ext φ=>obtain⟨_,⟨_,e⟩,_⟩:=x;exact ai e
theorem Paired.mapP{α β:Type}{F G:α->β->Prop}:∀{l₁:List α}{l₂:List β},Paired F l₁ l₂->(∀a b,F a b->G a b)->Paired G l₁ l₂
 |_,_,.nil,_=>.nil
 |_,_,.cons r t,f=>.cons (f _ _ r) (Paired.mapP t f)
theorem cN.stay(x:cN P w H h a o)(k:∀b u,(b=a∨H b=some (.own a))->h.get? b=some u->h'.get? b=some u)
  (ho:∀b,H b=some (.own a)->H' b=some (.own a))(ht:∀b xs,H b=some (.tup xs)->H' b=some (.tup xs)):cN P w H' h' a o:=by
 induction o with
 |lst xs=>obtain⟨z,its,n,r,e⟩:=x;exact⟨z,its,n,r,k _ _ (.inl rfl) e⟩
 |tup xs=>obtain⟨z,its,r,ob,e,c⟩:=x;exact⟨z,its,r,ob,k _ _ (.inl rfl) e,c⟩
 |dK kvs=>obtain⟨z,y,vs,r,ob,es,ep,e,c⟩:=x;exact⟨z,y,vs,r,ob,es,ep,k _ _ (.inl rfl) e,c⟩
 |dT kvs=>obtain⟨z,y,xs,r,ob,es,ep,e,c⟩:=x;exact⟨z,y,xs,Paired.mapP r λp q z=>⟨z.1,ht _ _ z.2.1,z.2.2⟩,ob,es,ep,k _ _ (.inl rfl) e,c⟩
 |set S n=>obtain⟨ob,es,ep,t,e,c⟩:=x;exact⟨ob,es,ep,t,k _ _ (.inl rfl) e,c⟩
 |ins C dx fs=>obtain⟨d,z,ne,e,mA,⟨od,es,ep,e2,c⟩,r⟩:=x;exact⟨ho _ d,z,ne,k _ _ (.inl rfl) e,mA,⟨od,es,ep,k _ _ (.inr d) e2,c⟩,r⟩
 |own y=>obtain⟨ob,e⟩:=x;exact⟨ob,k _ _ (.inl rfl) e⟩
 |xd fs=>obtain⟨mA,⟨od,es,ep,e,c⟩,r⟩:=x;exact⟨mA,⟨od,es,ep,k _ _ (.inl rfl) e,c⟩,r⟩
 |rng lo hi=>obtain⟨t,u,v,e⟩:=x;exact⟨t,u,v,k _ _ (.inl rfl) e⟩
 |frz ob u ih=>obtain⟨e,q⟩:=x;exact⟨k _ _ (.inl rfl) e,ih q⟩
 |tbl ps=>have e:h.get? a=some {cls:= .none,data:= .fields ps}:=x;show h'.get? a=some {cls:= .none,data:= .fields ps};exact k a _ (.inl rfl) e
 |met f y=>have e:h.get? a=some (PySem.W.methodObj (.ref f) (.ref y)):=x;show h'.get? a=some (PySem.W.methodObj (.ref f) (.ref y));exact k a _ (.inl rfl) e
 |ext φ=>obtain⟨p,⟨o,e⟩,st⟩:=x;exact⟨st _ _ p λo q=>k _ _ (.inl rfl) q,⟨o,k _ _ (.inl rfl) e⟩,st⟩
theorem iI.lt(x:iI P w H h)(e:H a=some o):a<h.objs.size:=(x a o e).lt
theorem iI.fresh(x:iI P w H h)(e:h.objs.size<=a):H a=none:=by
 cases q:H a with
 |none=>rfl
 |some u=>exact absurd (ao (x.lt q) e) (bz _)
theorem iI.kept(x:iI P w H h)(k:∀b u,h.get? b=some u->h'.get? b=some u):iI P w H h':=λa o e=>
 (x a o e).stay (λb u _ q=>k b u q) (λ_ q=>q) λ_ _ q=>q
theorem iI.laid(x:iI P w H h)(k:∀b u,h.get? b=some u->h'.get? b=some u)(hp:h.objs.size<=a)(new:cN P w (bx H a o) h' a o):iI P w (bx H a o) h':=λb u e=>by
 have hn:=x.fresh hp;by_cases hb:b=a
 ·subst hb;rw[bw] at e;cases e;exact new
 ·rw[aD hb] at e;exact(x b u e).stay (λc v _ q=>k c v q) (λc q=>by rw[aD (aw q hn)];exact q) λc xs q=>by rw[aD (aw q hn)];exact q
end
noncomputable def Rd(H:Hp)(a:Addr)(u:HO):Prop:=H a=some u∨∃o,H a=some (.frz o u)
theorem Rd.ok{H:Hp}{u:HO}(r:Rd H a u)(x:iI P w H h):cN P w H h a u:=by
 rcases r with r|⟨o,r⟩
 ·exact x a u r
 ·obtain⟨_,q⟩:=x a _ r;exact q
noncomputable def C_:Option HO->Prop
 |some (.lst _)=>True
 |some (.dK _)=>True
 |some (.dT _)=>True
 |some (.set _ _)=>True
 |some (.ins _ _ _)=>True
 |some (.ext _)=>True
 |_=>False
section
variable{P:Program}{w:World}{H:Hp}{h h':Heap}{x e:Addr}{o':HO}
theorem iI.write(ok:iI P w H h)(mu:C_ (H x))(he:e=x∨H e=some (.own x))(k:∀b u,b≠e->h.get? b=some u->h'.get? b=some u)(heo:∃u,h'.get? e=some u)
  (new:cN P w (bx H x o') h' x o'):iI P w (bx H x o') h':=λb u q=>by
 have nown:∀c y,H c=some (.own y)->c≠x:=λc y r z=>by subst z;rw[r] at mu;exact mu
 have ntup:∀c xs,H c=some (.tup xs)->c≠x:=λc xs r z=>by subst z;rw[r] at mu;exact mu
 by_cases hb:b=x
 ·subst hb;rw[bw] at q;cases q;exact new
 ·rw[aD hb] at q;by_cases hbe:b=e
  ·have q':H b=some (.own x):=by
    rcases he with z|z
    ·exact absurd (hbe.trans z) hb
    ·rw[hbe];exact z
   rw[q] at q';cases q';obtain⟨v,hv⟩:=heo;exact⟨v,by rw[hbe];exact hv⟩
  ·refine(ok b u q).stay (λc v hc r=>k c v ?_ r) (λc r=>by rw[aD (nown c b r)];exact r) λc xs r=>by rw[aD (ntup c xs r)];exact r
   rcases hc with rfl|hc
   ·exact hbe
   ·rintro rfl;rcases he with z|z
    ·exact nown c b hc z
    ·rw[hc] at z;cases z;exact hb rfl
end
structure Un(fs ex:List Addr)(H H':Hp)(h h':Heap):Prop where
 keep:∀b o,h.get? b=some o->H b=none->b∉fs->b∉ex->h'.get? b=some o
 slot:∀b o,h.get? b=some o->H b=none->b∈fs->b∉ex->∃sl,h'.get? b=some {o with slots:=sl}
 free:∀b o,h.get? b=some o->H b=none->b∉ex->H' b=none
 there:∀b o,h.get? b=some o->b∉ex->∃o',h'.get? b=some o'
 tups:∀b xs,H b=some (.tup xs)->H' b=some (.tup xs)
 frzs:∀b o u,H b=some (.frz o u)->H' b=some (.frz o u)
 tbls:∀b ps,H b=some (.tbl ps)->∃more,H' b=some (.tbl (ps++more))
section
variable{fs ex:List Addr}{H H1:Hp}{h h1 h':Heap}{a x e:Addr}{o:HO}
theorem Un.any(u:Un fs ex H H1 h h1){ob:Obj}(q:h.get? b=some ob)(n:H b=none)(hx:b∉ex):∃sl,h1.get? b=some {ob with slots:=sl}:=by
 by_cases hb:b∈fs
 ·exact u.slot b ob q n hb hx
 ·exact⟨ob.slots,u.keep b ob q n hb hx⟩
theorem Un.kept(k:∀b u,h.get? b=some u->h'.get? b=some u):Un fs ex H H h h':=
 ⟨λb ob q _ _ _=>k b ob q,λb ob q _ _ _=>⟨ob.slots,k b ob q⟩,λ_ _ _ n _=>n,λb ob q _=>⟨ob,k b ob q⟩,λ_ _ q=>q,λ_ _ _ q=>q,λ_ ps q=>⟨#[],by rw[q];simp⟩⟩
theorem Un.refl:Un fs ex H H h h:=Un.kept λ_ _ q=>q
theorem Un.laid(k:∀b u,h.get? b=some u->h'.get? b=some u)(hp:h.objs.size<=a)(hn:H a=none):Un fs ex H (bx H a o) h h' where
 keep:=λb u q _ _ _=>k b u q
 slot:=λb u q _ _ _=>⟨u.slots,k b u q⟩
 free:=λb u q n _=>by rw[aD (aj (ao (ai q) hp))];exact n
 there:=λb u q _=>⟨u,k b u q⟩
 tups:=λb xs q=>by rw[aD (aw q hn)];exact q
 frzs:=λb u xs q=>by rw[aD (aw q hn)];exact q
 tbls:=λb ps q=>⟨#[],by rw[aD (aw q hn),q];simp⟩
theorem Un.write(mu:C_ (H x))(he:e=x∨H e=some (.own x))(k:∀b u,b≠e->h.get? b=some u->h'.get? b=some u)(heo:∃u,h'.get? e=some u):Un fs ex H (bx H x o) h h':=by
 have hx:∀b,H b=none->b≠x:=λb n z=>by subst z;rw[n] at mu;exact mu
 have hb:∀b,H b=none->b≠e:=λb n z=>by
  subst z;rcases he with r|r
  ·exact hx b n r
  ·rw[n] at r;cases r
 have hm:∀b u,H b=some u->¬C_ (some u)->b≠x:=λb u q nm z=>by subst z;rw[q] at mu;exact nm mu
 refine⟨λb u q n _ _=>k b u (hb b n) q,λb u q n _ _=>⟨u.slots,k b u (hb b n) q⟩,λb u q n _=>by rw[aD (hx b n)];exact n,λb u q _=>?_,
  λb xs q=>by rw[aD (hm b _ q λz=>z)];exact q,λb u xs q=>by rw[aD (hm b _ q λz=>z)];exact q,λb ps q=>⟨#[],by rw[aD (hm b _ q λz=>z),q];simp⟩⟩
 by_cases hbe:b=e
 ·subst hbe;exact heo
 ·exact⟨u,k b u hbe q⟩
end
noncomputable def Dh(h:Heap)(H:Hp):List Addr:=(List.range h.objs.size).filter λa=>(H a).isSome
noncomputable def nK(h:Heap)(H:Hp):Heap:=PySem.W.hideAll h (Dh h H)
theorem sP(h:Heap)(H:Hp):(nK h H).objs.size=h.objs.size:=PySem.W.hideAll_size _ _
theorem vt{H:Hp}(e:h.get? b=some o)(n:H b=none):(nK h H).get? b=some o:=
 PySem.W.hideAll_get _ e λhm=>by have q:(H b).isSome=true:=(List.mem_filter.mp hm).2;rw[n] at q;simp at q
theorem xu{H:Hp}(e:(nK h H).get? b=some o):h.get? b=some o/\H b=none:=by
 have e':h.get? b=some o:=PySem.W.of_hideAll (Dh h H) e;refine⟨e',?_⟩;cases q:H b with
 |none=>rfl
 |some x=>
  have hm:b∈Dh h H:=List.mem_filter.mpr ⟨List.mem_range.mpr (ai e'),by simp[q]⟩
  have z:(nK h H).get? b=none:=PySem.W.hideAll_none (Dh h H) hm;rw[z] at e;cases e
noncomputable def x9(g h:Heap)(L:Addr):List (Addr×Obj):=(List.range h.objs.size).filterMap λa=>if a=L∨(g.get? a).isSome=true then none else(h.get? a).map λo=>(a,o)
noncomputable def rest(g h:Heap)(L d:Addr):List (Addr×Obj):=(x9 g h L).filter λp=>decide (p.1≠d)
structure Mod(K:al)(mg:Str->Option Value)(base:Heap):Prop where
 kin:K.In base
 glob:base.Ns mainGlobals mg
 blt:∃mb,base.Ns builtinsNs mb/\∀x:Str,x≠ "__name__" ->mb x=bootBuiltins x
 nolimit:base.NoLimit
structure Cx where
 prog:Program
 w:World
 K:al
 mg:Str->Option Value
 base:Heap
 A:Around
 N:List Str
 s₀:Shared
 H₀:Hp
 env:Env
 outer:List Env
 stack:List Env
 ex:List Addr
 fn:Str->Bool
 calm:Bool
 pn:List (Addr×Obj)
 xe:Value->Shared->Prop
noncomputable def sS(l:List Env):List Addr:=l.filterMap (·.frame)
noncomputable abbrev Cx.fs(X:Cx):List Addr:=sS X.outer
noncomputable def C5(sc:Scope)(x:Str):Prop:=sc.names.lookup x=some .local∨sc.names.lookup x=some .cell∨sc.names.lookup x=some .free
noncomputable def Loc(sc:Scope)(x:Str):Prop:=sc.names.lookup x=some .local∨sc.names.lookup x=some .cell
noncomputable def Look(env:Env)(h:Heap)(m:Str->Option Value)(x:Str)(u:Value):Prop:=
 (env.kindOf x=some .local/\m x=some u)∨((env.kindOf x=some .cell∨env.kindOf x=some .free)/\∃c,env.cells.lookup x=some c/\h.IsCell c (some u))
structure Cx.Ok(X:Cx):Prop where
 mod:Mod X.K X.mg X.base
 kind:X.env.scope.kind=.function
 glob:X.env.globals=mainGlobals
 blt:X.env.builtins=builtinsNs
 above:X.s₀.heap.objs.size<=X.env.locals
 inj:∀x y c,X.env.cells.lookup x=some c->X.env.cells.lookup y=some c->x=y
 has:∀x,(X.env.kindOf x=some .cell∨X.env.kindOf x=some .free)->∃c,X.env.cells.lookup x=some c
 cab:∀x c,X.fn x=true->X.env.cells.lookup x=some c->X.s₀.heap.objs.size<=c
 hd:X.calm=true->X.A.handled=none
 frames:X.A.frames=some X.stack
 stk:X.stack=X.outer∨(X.stack=X.env::X.outer/\X.env.frame=some X.env.locals)
 exf:∀b∈X.ex,b≠X.env.locals/\∀x c,X.env.cells.lookup x=some c->c≠b
 bs:∀b o,X.base.get? b=some o->X.s₀.heap.get? b=some o/\X.H₀ b=none
 bsz:X.base.objs.size<=X.s₀.heap.objs.size
 noex:∀b o,X.base.get? b=some o->b∉X.ex
 exfs:∀b∈X.ex,b∉X.fs
 funs:X.s₀.heap.FunFrames X.base X.outer
 frf:∀b∈X.fs,X.H₀ b=none
structure Inv(X:Cx)(pins:List (Addr×Obj))(σ:List (Option V))(H:Hp)(s:Shared):Prop where
 ok:X.Ok
 os:s.os=X.s₀.os
 bare:AllBare s.gens
 base:Un X.fs X.ex X.H₀ H X.s₀.heap s.heap
 loc:∃m,s.heap.Ns X.env.locals m/\∀(i:Nat)(x:Str)(v:V),X.N[i]? =some x->σ[i]? =some (some v)->C5 X.env.scope x->∃u,RelV v u/\Look X.env s.heap m x u
 cell:∀x c,X.env.cells.lookup x=some c->∃v,s.heap.IsCell c v
 free:H X.env.locals=none
 freeC:∀x c,X.env.cells.lookup x=some c->H c=none
 pin:∀p∈X.pn++pins,s.heap.get? p.1=some p.2/\H p.1=none/\p.1≠X.env.locals/\p.1∉X.fs/\∀v,p.2.data≠ .cell v
 hok:iI X.prog X.w H s.heap
 len:σ.length=X.N.length
section
variable{X:Cx}{pins:List (Addr×Obj)}{σ:List (Option V)}{H H':Hp}{s:Shared}{h':Heap}
theorem Cx.Ok.nofr(ok:X.Ok)(e:X.base.get? b=some o):b∉X.fs:=λhb=>by have:=(ok.funs.mem hb).1;rw[e] at this;cases this
theorem Inv.bs(I:Inv X pins σ H s):∀b o,X.base.get? b=some o->s.heap.get? b=some o/\H b=none:=λb o e=>
 ⟨I.base.keep b o (I.ok.bs b o e).1 (I.ok.bs b o e).2 (I.ok.nofr e) (I.ok.noex b o e),I.base.free b o (I.ok.bs b o e).1 (I.ok.bs b o e).2 (I.ok.noex b o e)⟩
theorem Inv.bk(I:Inv X pins σ H s):∀b o,X.base.get? b=some o->s.heap.get? b=some o:=λb o e=>(I.bs b o e).1
theorem Inv.mod(I:Inv X pins σ H s):Mod X.K X.mg X.base:=I.ok.mod
theorem Inv.kIn(I:Inv X pins σ H s):X.K.In s.heap:=I.ok.mod.kin.keeps I.bk
theorem Inv.lt(I:Inv X pins σ H s):X.env.locals<s.heap.objs.size:=let⟨_,hn,_⟩:=I.loc;hn.lt
theorem Inv.sz(I:Inv X pins σ H s):X.s₀.heap.objs.size<=s.heap.objs.size:=aT I.ok.above (Nat.le_of_lt I.lt)
theorem Inv.nofs(I:Inv X pins σ H s)(h:s.heap.objs.size<=a):a∉X.fs:=λhb=>by obtain⟨_,o,ho,_⟩:=I.ok.funs.mem hb;exact absurd (ao (ai ho) (aT I.sz h)) (bz _)
theorem Inv.cne(I:Inv X pins σ H s):∀x c,X.env.cells.lookup x=some c->c≠X.env.locals:=λx c e z=>by obtain⟨v,o,ho,hd⟩:=I.cell x c e;obtain⟨m,⟨o',es,ep,ho',hd',_⟩,_⟩:=I.loc;rw[z,ho'] at ho;cases ho;rw[hd'] at hd;cases hd
theorem Inv.funs(I:Inv X pins σ H s):s.heap.FunFrames X.base X.outer:=by
 have all:∀(l:List Env),(∀b∈sS l,b∈X.fs)->X.s₀.heap.FunFrames X.base l->s.heap.FunFrames X.base l:=by
  intro l
  induction l with
  |nil=>intro _ _;trivial
  |cons env r ih=>
   intro hs hl;obtain⟨hk,⟨L,o,hf,hn,ho,hd⟩,hr⟩:=hl;have hL:L∈X.fs:=hs L (by unfold sS;rw[List.filterMap_cons,hf];exact List.mem_cons_self)
   obtain⟨sl,e⟩:=I.base.slot L o ho (I.ok.frf L hL) hL λz=>I.ok.exfs L z hL;exact⟨hk,⟨L,_,hf,hn,e,hd⟩,ih (λb hb=>hs b (by unfold sS;rw[List.filterMap_cons,hf];exact List.mem_cons_of_mem _ hb)) hr⟩
 exact all X.outer (λ_ hb=>hb) I.ok.funs
theorem Inv.stack(I:Inv X pins σ H s):s.heap.FunFrames X.base X.stack:=by
 rcases I.ok.stk with e|⟨e,hf⟩
 ·rw[e];exact I.funs
 ·rw[e];obtain⟨m,hn,_⟩:=I.loc;refine .cons (by rw[I.ok.kind];decide) hf hn ?_ I.funs
  exact Heap.get?_none_of_le (aT I.ok.bsz I.ok.above)
theorem Inv.stkSub(I:Inv X pins σ H s):∀b∈sS X.stack,b∈X.env.locals::X.fs:=λb hb=>by
 rcases I.ok.stk with e|⟨e,hf⟩
 ·rw[e] at hb;exact List.mem_cons_of_mem _ hb
 ·rw[e] at hb;unfold sS at hb;rw[List.filterMap_cons,hf] at hb;exact hb
theorem Inv.stkFree(I:Inv X pins σ H s):∀b∈sS X.stack,H b=none:=λb hb=>by
 rcases List.mem_cons.mp (I.stkSub b hb) with e|hb
 ·rw[e];exact I.free
 ·obtain⟨_,o,ho,_⟩:=I.ok.funs.mem hb;exact I.base.free b o ho (I.ok.frf b hb) λz=>I.ok.exfs b z hb
theorem Inv.step{g':Array GenState}{d':Drawn}(I:Inv X pins σ H s)
  (hch:∀b∈ch,(b∈X.ex∨X.s₀.heap.objs.size<=b)/\b≠X.env.locals/\(∀x c,X.env.cells.lookup x=some c->c≠b)/\∀p∈X.pn++pins,p.1≠b)
  (keep:∀b o,b≠X.env.locals->b∉X.fs->b∉ch->s.heap.get? b=some o->H b=none->h'.get? b=some o)
  (slot:∀b o,b≠X.env.locals->b∈X.fs->b∉ch->s.heap.get? b=some o->H b=none->∃sl,h'.get? b=some {o with slots:=sl})(free:∀b o,b∉ch->s.heap.get? b=some o->H b=none->H' b=none)
  (there:∀b o,b∉ch->s.heap.get? b=some o->∃o',h'.get? b=some o')
  (tups:∀b xs,H b=some (.tup xs)->H' b=some (.tup xs))(frzs:∀b o u,H b=some (.frz o u)->H' b=some (.frz o u))(tbls:∀b ps,H b=some (.tbl ps)->∃more,H' b=some (.tbl (ps++more)))
  (ns:∀m,s.heap.Ns X.env.locals m->h'.Ns X.env.locals m)(hok:iI X.prog X.w H' h')(hg:AllBare g'):
  Inv X pins σ H' {s with heap:=h',gens:=g',drawn:=d',toks:=t'}:=by
 have neL:∀b o,X.s₀.heap.get? b=some o->b≠X.env.locals:=λb o e=>aj (ao (ai e) I.ok.above)
 have neC:∀b o,X.s₀.heap.get? b=some o->b∉X.ex->b∉ch:=λb o e hx hb=>by
  rcases(hch b hb).1 with z|z
  ·exact hx z
  ·exact absurd (ao (ai e) z) (bz _)
 have cellK:∀x c,X.env.cells.lookup x=some c->∀v,s.heap.IsCell c v->h'.IsCell c v:=λx c e v hp=>by
  obtain⟨o,ho,hd⟩:=hp;have nch:c∉ch:=λz=>(hch c z).2.2.1 x c e rfl;by_cases hc:c∈X.fs
  ·obtain⟨sl,q⟩:=slot c o (I.cne x c e) hc nch ho (I.freeC x c e);exact⟨_,q,hd⟩
  ·exact⟨o,keep c o (I.cne x c e) hc nch ho (I.freeC x c e),hd⟩
 refine⟨I.ok,I.os,hg,⟨λb o e n hb hx=>?_,λb o e n hb hx=>?_,λb o e n hx=>?_,λb o e hx=>?_,λb xs e=>tups b xs (I.base.tups b xs e),λb o xs e=>frzs b o xs (I.base.frzs b o xs e),λb ps e=>?_⟩,?_,λx c e=>?_,?_,λx c e=>?_,λp hp=>?_,hok,I.len⟩
 ·exact keep b o (neL b o e) hb (neC b o e hx) (I.base.keep b o e n hb hx) (I.base.free b o e n hx)
 ·obtain⟨sl,e1⟩:=I.base.slot b o e n hb hx;obtain⟨sl',e2⟩:=slot b _ (neL b o e) hb (neC b o e hx) e1 (I.base.free b o e n hx);exact⟨sl',e2⟩
 ·obtain⟨o',e1⟩:=I.base.there b o e hx;exact free b o' (neC b o e hx) e1 (I.base.free b o e n hx)
 ·obtain⟨o',e1⟩:=I.base.there b o e hx;exact there b o' (neC b o e hx) e1
 ·obtain⟨m1,e1⟩:=I.base.tbls b ps e;obtain⟨m2,e2⟩:=tbls b _ e1;exact⟨m1++m2,by rw[e2,Array.append_assoc]⟩
 ·obtain⟨m,hn,hl⟩:=I.loc;refine⟨m,ns m hn,λi x v e1 e2 e3=>?_⟩;obtain⟨u,r,l⟩:=hl i x v e1 e2 e3;refine⟨u,r,?_⟩;rcases l with l|⟨k,c,e,z⟩
  ·exact .inl l
  ·exact .inr ⟨k,c,e,cellK x c e _ z⟩
 ·obtain⟨v,z⟩:=I.cell x c e;exact⟨v,cellK x c e v z⟩
 ·obtain⟨m,⟨o,_,_,ho,_⟩,_⟩:=I.loc;exact free _ o (λz=>(hch _ z).2.1 rfl) ho I.free
 ·obtain⟨v,o,ho,hd⟩:=I.cell x c e;exact free c o (λz=>(hch c z).2.2.1 x c e rfl) ho (I.freeC x c e)
 ·obtain⟨e,n,ne,nf,d⟩:=I.pin p hp;have nch:p.1∉ch:=λz=>(hch p.1 z).2.2.2 p hp rfl;exact⟨keep p.1 p.2 ne nf nch e n,free p.1 p.2 nch e n,ne,nf,d⟩
theorem Inv.un(I:Inv X pins σ H s)(u:Un X.fs [] H H' s.heap h')(hok:iI X.prog X.w H' h'):Inv X pins σ H' {s with heap:=h',toks:=t'}:=by
 obtain⟨m,⟨o,es,ep,ho,r⟩,_⟩:=id I.loc;obtain⟨sl,hL⟩:=u.any ho I.free (by simp)
 exact I.step (g':=s.gens) (d':=s.drawn) (ch:=[]) (λ_ z=>nomatch z) (λb o _ hb _ e n=>u.keep b o e n hb (by simp)) (λb o _ hb _ e n=>u.slot b o e n hb (by simp)) (λb o _ e n=>u.free b o e n (by simp)) (λb o _ e=>u.there b o e (by simp)) u.tups u.frzs u.tbls (λm' hm=>by obtain⟨o',es',ep',ho',r'⟩:=hm;rw[ho] at ho';cases ho';exact⟨_,es',ep',hL,r'⟩) hok I.bare
theorem Inv.call{g':Array GenState}{d':Drawn}(I:Inv X pins σ H s)(u:Un (sS X.stack) ch H H' s.heap h')(hok:iI X.prog X.w H' h')(hg:AllBare g')
  (hch:∀b∈ch,(b∈X.ex∨X.s₀.heap.objs.size<=b)/\b≠X.env.locals/\(∀x c,X.env.cells.lookup x=some c->c≠b)/\∀p∈X.pn++pins,p.1≠b):
  Inv X pins σ H' {s with heap:=h',gens:=g',drawn:=d',toks:=t'}:=by
 obtain⟨m,⟨o,es,ep,ho,r⟩,_⟩:=id I.loc;obtain⟨sl,hL⟩:=u.any ho I.free λz=>(hch _ z).2.1 rfl
 exact I.step (ch:=ch) hch (λb o hL hb hc e n=>u.keep b o e n (λz=>(List.mem_cons.mp (I.stkSub b z)).elim hL hb) hc) (λb o _ _ hc e n=>u.any e n hc) (λb o hc e n=>u.free b o e n hc) (λb o hc e=>u.there b o e hc) u.tups u.frzs u.tbls (λm' hm=>by obtain⟨o',es',ep',ho',r'⟩:=hm;rw[ho] at ho';cases ho';exact⟨_,es',ep',hL,r'⟩) hok hg
theorem Inv.turned(I:Inv X pins σ H s)(k:∀b o,b≠it->s.heap.get? b=some o->h'.get? b=some o)(hn:H it=none)(hL:it≠X.env.locals)
  (h1:it∈X.ex∨X.s₀.heap.objs.size<=it)(h2:∀x c,X.env.cells.lookup x=some c->c≠it)(h3:∀p∈X.pn++pins,p.1≠it):Inv X pins σ H {s with heap:=h',toks:=t'}:=by
 have nit:∀b u,H b=some u->b≠it:=λb u e z=>by rw[z,hn] at e;cases e
 refine I.step (g':=s.gens) (d':=s.drawn) (ch:=[it]) (λb hb=>?_) (λb o _ _ hc e _=>k b o (λz=>hc (by simp[z])) e) (λb o _ _ hc e _=>⟨o.slots,k b o (λz=>hc (by simp[z])) e⟩) (λ_ _ _ _ n=>n)
  (λb o hc e=>⟨o,k b o (λz=>hc (by simp[z])) e⟩) (λ_ _ e=>e) (λ_ _ _ e=>e) (λb ps e=>⟨#[],by rw[e];simp⟩) (λm hm=>?_) (λb u e=>?_) I.bare
 ·have e:b=it:=by simpa using hb
  subst e;exact⟨h1,hL,h2,h3⟩
 ·obtain⟨o,es,ep,ho,r⟩:=hm;exact⟨o,es,ep,k _ o (Ne.symm hL) ho,r⟩
 ·refine(I.hok b u e).stay (λc v hc q=>k c v ?_ q) (λ_ q=>q) λ_ _ q=>q;rcases hc with z|z
  ·rw[z];exact nit b u e
  ·exact nit c _ z
theorem Inv.tok(I:Inv X pins σ H s)(t:Nat):Inv X pins σ H {s with toks:=t}:=I.un (h':=s.heap) (t':=t) Un.refl I.hok
theorem Inv.kept(I:Inv X pins σ H s)(k:∀b u,s.heap.get? b=some u->h'.get? b=some u):Inv X pins σ H {s with heap:=h',toks:=t'}:=I.un (Un.kept k) (I.hok.kept k)
theorem Inv.laid{o:HO}(I:Inv X pins σ H s)(k:∀b u,s.heap.get? b=some u->h'.get? b=some u)(hp:s.heap.objs.size<=a)(new:cN X.prog X.w (bx H a o) h' a o):
  Inv X pins σ (bx H a o) {s with heap:=h',toks:=t'}:=I.un (Un.laid k hp (I.hok.fresh hp)) (I.hok.laid k hp new)
theorem Inv.write{x e:Addr}{o:HO}(I:Inv X pins σ H s)(mu:C_ (H x))(he:e=x∨H e=some (.own x))(k:∀b u,b≠e->s.heap.get? b=some u->h'.get? b=some u)(heo:∃u,h'.get? e=some u)
  (new:cN X.prog X.w (bx H x o) h' x o):Inv X pins σ (bx H x o) {s with heap:=h',toks:=t'}:=I.un (Un.write mu he k heo) (I.hok.write mu he k heo new)
theorem Inv.pins_of{pins':List (Addr×Obj)}(I:Inv X pins σ H s)(h:∀p∈pins',s.heap.get? p.1=some p.2/\H p.1=none/\p.1≠X.env.locals/\p.1∉X.fs/\∀v,p.2.data≠ .cell v):Inv X pins' σ H s:=
 ⟨I.ok,I.os,I.bare,I.base,I.loc,I.cell,I.free,I.freeC,λp hp=>(List.mem_append.mp hp).elim (λz=>I.pin p (List.mem_append_left _ z)) (h p),I.hok,I.len⟩
theorem oQ{N:List Str}(hN:N.Nodup)(a:N[i]? =some x)(b:N[j]? =some x):i=j:=by obtain⟨h1,e1⟩:=aL a;obtain⟨h2,e2⟩:=aL b;exact(List.getElem_inj hN).mp (e1.trans e2.symm)
theorem jq{M:Model}{v:V}{Q:Unit->Shared->Prop}(I:Inv X pins σ H s)(hN:X.N.Nodup)(hi:X.N[i]? =some x)(hx:Loc X.env.scope x)(r:RelV v u)
  (h:∀s',Inv X pins (σ.set i (some v)) H s'->(∃a,Heap.SameBut a s.heap s'.heap/\(a=X.env.locals∨X.env.cells.lookup x=some a))->Q () s')(hf:X.fn x=true∨X.env.scope.names.lookup x=some .local:=by first|exact .inl rfl|exact .inr rfl|assumption):wpAny M A (storeName X.env x u) Q E s:=by
 obtain⟨m,hn,hl⟩:=id I.loc;have hcls:(X.env.scope.kind== .class||(X.env.scope.kind== .module&&X.env.locals !=X.env.globals))=false:=by rw[I.ok.kind];rfl
 have hiσ:i<σ.length:=by rw[I.len];exact(aL hi).1
 have cne:=I.cne
 have tracked:∀{a:Addr}{h':Heap},(∃o,s.heap.get? a=some o/\H a=none)->Heap.SameBut a s.heap h'->iI X.prog X.w H h':=λ{a h'} ha hs b ob e=>by
  obtain⟨_,_,hfree⟩:=ha;refine(I.hok b ob e).stay (λc w' hc q=>(hs.2 c ?_).trans q) (λ_ q=>q) λ_ _ q=>q;rintro rfl;rcases hc with rfl|hc
  ·rw[hfree] at e;cases e
  ·rw[hfree] at hc;cases hc
 rcases hx with hk|hk
 ·refine wpAny_storeName_local hk hn (λh' hn' hs=>?_) hcls;obtain⟨oL,_,_,hoL,_⟩:=id hn;refine h _ ⟨I.ok,I.os,I.bare,⟨λb o e n hb hx=>?_,λb o e n hb hx=>?_,I.base.free,λb o e hx=>?_,I.base.tups,I.base.frzs,I.base.tbls⟩,⟨_,hn',λj y v' e1 e2 e3=>?_⟩,λy c e=>?_,I.free,I.freeC,λp hp=>?_,tracked ⟨oL,hoL,I.free⟩ hs,by simpa using I.len⟩ ⟨_,hs,.inl rfl⟩
  ·exact(hs.2 b (aj (ao (ai e) I.ok.above))).trans (I.base.keep b o e n hb hx)
  ·obtain⟨sl,e1⟩:=I.base.slot b o e n hb hx;exact⟨sl,(hs.2 b (aj (ao (ai e) I.ok.above))).trans e1⟩
  ·obtain⟨o',e1⟩:=I.base.there b o e hx;exact⟨o',(hs.2 b (aj (ao (ai e) I.ok.above))).trans e1⟩
  ·by_cases hj:j=i
   ·subst hj;rw[hi] at e1;cases e1;rw[aV hiσ] at e2;cases e2;exact⟨u,r,.inl ⟨hk,by simp⟩⟩
   ·rw[bd (Ne.symm hj)] at e2;obtain⟨u',r',q⟩:=hl j y v' e1 e2 e3;refine⟨u',r',?_⟩;rcases q with⟨k,e⟩|⟨k,c,e,z⟩
    ·refine .inl ⟨k,?_⟩;have:y≠x:=λe=>hj (oQ hN e1 (e▸hi));simp[this,e]
    ·exact .inr ⟨k,c,e,z.sameBut hs (cne y c e)⟩
  ·obtain⟨w',z⟩:=I.cell y c e;exact⟨w',z.sameBut hs (cne y c e)⟩
  ·obtain⟨e,n,ne,nf,d⟩:=I.pin p hp;exact⟨(hs.2 p.1 ne).trans e,n,ne,nf,d⟩
 ·have hfn:X.fn x=true:=by
   rcases hf with z|z
   ·exact z
   ·rw[z] at hk;cases hk
  obtain⟨c,hc⟩:=I.ok.has x (.inl hk);obtain⟨w',z⟩:=I.cell x c hc;refine wpAny_storeName_cell I.ok.kind hk hc z (λh' hc' hs=>?_);obtain⟨oc,hoc,hocd⟩:=id z;refine h {s with heap:=h'} ⟨I.ok,I.os,I.bare,⟨λb o e n hb hx=>?_,λb o e n hb hx=>?_,I.base.free,λb o e hx=>?_,I.base.tups,I.base.frzs,I.base.tbls⟩,⟨m,hn.sameBut hs (Ne.symm (cne x c hc)),λj y v' e1 e2 e3=>?_⟩,λy c' e=>?_,I.free,I.freeC,λp hp=>?_,tracked ⟨oc,hoc,I.freeC x c hc⟩ hs,by simpa using I.len⟩ ⟨c,hs,.inr hc⟩
  ·exact(hs.2 b (aj (ao (ai e) (I.ok.cab x c hfn hc)))).trans (I.base.keep b o e n hb hx)
  ·obtain⟨sl,e1⟩:=I.base.slot b o e n hb hx;exact⟨sl,(hs.2 b (aj (ao (ai e) (I.ok.cab x c hfn hc)))).trans e1⟩
  ·obtain⟨o',e1⟩:=I.base.there b o e hx;exact⟨o',(hs.2 b (aj (ao (ai e) (I.ok.cab x c hfn hc)))).trans e1⟩
  ·by_cases hj:j=i
   ·subst hj;rw[hi] at e1;cases e1;rw[aV hiσ] at e2;cases e2;exact⟨u,r,.inr ⟨.inl hk,c,hc,hc'⟩⟩
   ·rw[bd (Ne.symm hj)] at e2;obtain⟨u',r',q⟩:=hl j y v' e1 e2 e3;refine⟨u',r',?_⟩;rcases q with q|⟨k,c',e,z'⟩
    ·exact .inl q
    ·refine .inr ⟨k,c',e,z'.sameBut hs ?_⟩;rintro rfl;exact hj (oQ hN e1 (I.ok.inj _ _ _ e hc▸hi))
  ·by_cases hcc:c'=c
   ·subst hcc;exact⟨_,hc'⟩
   ·obtain⟨w2,z2⟩:=I.cell y c' e;exact⟨w2,z2.sameBut hs hcc⟩
  ·obtain⟨e,n,ne,nf,d⟩:=I.pin p hp;refine⟨(hs.2 p.1 ?_).trans e,n,ne,nf,d⟩;intro q;rw[q,hoc] at e;have q':oc=p.2:=ag e;exact d w' (by rw[<-q'];exact hocd)
theorem iT{M:Model}{v:V}{Q:Unit->Shared->Prop}(I:Inv X pins σ H s)(hN:X.N.Nodup)(hi:X.N[i]? =some x)(hx:Loc X.env.scope x)(r:RelV v u)
  (h:∀s',Inv X pins (σ.set i (some v)) H s'->Q () s')(hf:X.fn x=true∨X.env.scope.names.lookup x=some .local:=by first|exact .inl rfl|exact .inr rfl|assumption):wpAny M A (storeName X.env x u) Q E s:=
 jq I hN hi hx r (λs' I' _=>h s' I') hf
theorem Inv.call'{s':Shared}(I:Inv X pins σ H s)(ho:s'.os=s.os)(u:Un (sS X.stack) ch H H' s.heap s'.heap)(hok:iI X.prog X.w H' s'.heap)(hg:AllBare s'.gens)
  (hch:∀b∈ch,(b∈X.ex∨X.s₀.heap.objs.size<=b)/\b≠X.env.locals/\(∀x c,X.env.cells.lookup x=some c->c≠b)/\∀p∈X.pn++pins,p.1≠b):Inv X pins σ H' s':=by
 obtain⟨h',g',d',t',o'⟩:=s';have e:o'=s.os:=ho;subst e;exact I.call (g':=g') (t':=t') (d':=d') u hok hg hch
end
noncomputable abbrev XK:=Value->Option Addr->Hp->Prop
noncomputable abbrev St:=List (Option V)
noncomputable abbrev VK:=V->Hp->Prop
noncomputable abbrev TE:=St->Hp->VK->Prop
noncomputable abbrev TT:=St->Hp->(Bool->Hp->Prop)->Prop
noncomputable abbrev TA:=St->Hp->(List V->Hp->Prop)->Prop
structure Ends where
 nx:St->Hp->Prop
 rt:VK
 bk:St->Hp->Prop:=λ_ _=>False
 ct:St->Hp->Prop:=λ_ _=>False
noncomputable abbrev TS:=Ends->St->Hp->Prop
noncomputable def EP(X:Cx)(pins:List (Addr×Obj))(σ:St)(Q:VK)(u:Value)(s':Shared):Prop:=∃v H',Inv X pins σ H' s'/\RelV v u/\Q v H'
noncomputable def TP(X:Cx)(pins:List (Addr×Obj))(σ:St)(Q:Bool->Hp->Prop)(b:Bool)(s':Shared):Prop:=∃H',Inv X pins σ H' s'/\Q b H'
noncomputable def AP(X:Cx)(pins:List (Addr×Obj))(σ:St)(Q:List V->Hp->Prop)(us:List Value)(s':Shared):Prop:=∃vs H',Inv X pins σ H' s'/\bm vs us/\Q vs H'
noncomputable def SP(X:Cx)(pins:List (Addr×Obj))(D:Ends)(f:Flow)(s':Shared):Prop:=
 match f with
 | .next=>∃σ' H',Inv X pins σ' H' s'/\D.nx σ' H'
 | .brk=>∃σ' H',Inv X pins σ' H' s'/\D.bk σ' H'
 | .cont=>∃σ' H',Inv X pins σ' H' s'/\D.ct σ' H'
 | .ret u=>∃v σ' H',Inv X pins σ' H' s'/\RelV v u/\D.rt v H'
noncomputable def PE(X:Cx)(e:Expr)(t:TE):Prop:=
 ∀(pins:List (Addr×Obj))(s:Shared)(σ:St)(H:Hp)(Q:VK),Inv X pins σ H s->t σ H Q->wpAny (model X.prog X.w) X.A (eval e X.env) (EP X pins σ Q) X.xe s
noncomputable def PT(X:Cx)(e:Expr)(t:TT):Prop:=
 ∀(pins:List (Addr×Obj))(s:Shared)(σ:St)(H:Hp)(Q:Bool->Hp->Prop),Inv X pins σ H s->t σ H Q->wpAny (model X.prog X.w) X.A (isTrue e X.env (eval e X.env)) (TP X pins σ Q) X.xe s
noncomputable def PW(X:Cx)(e:Expr)(t:TT):Prop:=
 ∀(whole:Sem Value)(pins:List (Addr×Obj))(s:Shared)(σ:St)(H:Hp)(Q:Bool->Hp->Prop),Inv X pins σ H s->t σ H Q->wpAny (model X.prog X.w) X.A (isTrue e X.env whole) (TP X pins σ Q) X.xe s
theorem PW.pt{X:Cx}{t:TT}(h:PW X e t):PT X e t:=h _
noncomputable def PA(X:Cx)(es:List Expr)(t:TA):Prop:=
 ∀(pos:Pos)(pins:List (Addr×Obj))(s:Shared)(σ:St)(H:Hp)(Q:List V->Hp->Prop),Inv X pins σ H s->t σ H Q->wpAny (model X.prog X.w) X.A (spliced (backTo pos (starEach es X.env))) (AP X pins σ Q) X.xe s
noncomputable def PS(X:Cx)(st:Stmt)(t:TS):Prop:=
 ∀(pins:List (Addr×Obj))(s:Shared)(σ:St)(H:Hp)(D:Ends),Inv X pins σ H s->t D σ H->wpAny (model X.prog X.w) X.A (exec st X.env) (SP X pins D) X.xe s
noncomputable def PSs(X:Cx)(st:List Stmt)(t:TS):Prop:=
 ∀(pins:List (Addr×Obj))(s:Shared)(σ:St)(H:Hp)(D:Ends),Inv X pins σ H s->t D σ H->wpAny (model X.prog X.w) X.A (execs st X.env) (SP X pins D) X.xe s
theorem bQ{α:Type}{t:Sem α}{Q Q':α->Shared->Prop}{M:Model}(h:wpAny M A t Q E s)(hQ:∀a s,Q a s->Q' a s):wpAny M A t Q' E s:=aP h hQ λ_ _ x=>x
section
variable{X:Cx}
noncomputable def Dy(i:Nat):TE:=λσ H Q=>∃v,σ[i]? =some (some v)/\Q v H
noncomputable def tC(v:V):TE:=λ_ H Q=>Q v H
theorem zO(hN:X.N[i]? =some x)(hv:C5 X.env.scope x)(hd:(x==("__debug__":Str))=false:=by decide)(hcd:(x==("__classdict__":Str))=false:=by decide):PE X (.Name x pos) (Dy i):=by
 intro pins s σ H Q I h;obtain⟨v,e,h⟩:=h;obtain⟨m,hn,hl⟩:=I.loc;obtain⟨u,r,l⟩:=hl i x v hN e hv;have fin:EP X pins σ Q u s:=⟨v,H,I,r,h⟩;rcases l with⟨hk,hm⟩|⟨hk,c,hc,hcell⟩
 ·exact wpAny_Name (wpAny_loadName_local I.ok.kind hk hn hm fin) hd
 ·rcases hk with hk|hk
  ·exact wpAny_Name (wpAny_loadName_cell I.ok.kind hk hc hcell fin) hd
  ·exact wpAny_Name (wpAny_loadName_free I.ok.kind hk hc hcell fin hcd) hd
theorem uU{i j pos}:PE X (.Constant (.int i) j pos) (tC (.int i)):=λ_ _ _ H _ I h=>wpAny_Constant_int ⟨.int i,H,I.tok _,⟨_,rfl⟩,h⟩
theorem B_{b j pos}:PE X (.Constant (.bool b) j pos) (tC (.bl b)):=λ_ _ _ H _ I h=>Constant_bool ⟨.bl b,H,I,rfl,h⟩
theorem zS{j pos}:PE X (.Constant .none j pos) (tC .non):=λ_ _ _ H _ I h=>Constant_none ⟨.non,H,I,rfl,h⟩
theorem uQ{x j pos}:PE X (.Constant (.str x) j pos) (tC (.str x)):=λ_ _ _ H _ I h=>Calls.Constant_str ⟨.str x,H,I.tok _,⟨_,rfl⟩,h⟩
noncomputable def Gl(X:Cx)(x:Str):Prop:=X.env.kindOf x=some .globalImplicit
theorem ko{σ:St}{H:Hp}(I:Inv X pins σ H s)(hg:Gl X x)(hm:X.mg x=some u)(h:Q u s)
  (hd:(x==("__debug__":Str))=false:=by decide):wpAny (model X.prog X.w) X.A (eval (.Name x pos) X.env) Q E s:=
 Calls.Name_function_global I.ok.kind hg (Calls.loadGlobal_global (by rw[I.ok.glob];exact I.mod.glob.keeps I.bk) hm h) hd
theorem fY{σ:St}{H:Hp}(I:Inv X pins σ H s)(hg:Gl X x)(hm:X.mg x=none)(hv:bootBuiltins x=some u)(h:Q u s)
  (hn:x≠ "__name__":=by decide) (hd:(x==("__debug__":Str))=false:=by decide):wpAny (model X.prog X.w) X.A (eval (.Name x pos) X.env) Q E s:=by
 obtain⟨mb,h1,h2⟩:=I.mod.blt;exact Calls.Name_function_global I.ok.kind hg (Calls.loadGlobal_builtin (by rw[I.ok.glob];exact I.mod.glob.keeps I.bk) hm (by rw[I.ok.blt];exact h1.keeps I.bk) ((h2 x hn).trans hv) h) hd
theorem nz{v:V}(hg:Gl X x)(hm:X.mg x=some u)(r:RelV v u)(hd:(x==("__debug__":Str))=false:=by decide):PE X (.Name x pos) (tC v):=
 λ_ _ _ H _ I h=>ko I hg hm ⟨v,H,I,r,h⟩ hd
theorem xo{v:V}(hg:Gl X x)(hm:X.mg x=none)(hv:bootBuiltins x=some u)(r:RelV v u)(hn:x≠ "__name__":=by decide)(hd:(x==("__debug__":Str))=false:=by decide):PE X (.Name x pos) (tC v):=
 λ_ _ _ H _ I h=>fY I hg hm hv ⟨v,H,I,r,h⟩ hn hd
variable{a b:Expr}{ta tb:TE}{pos:Pos}
noncomputable def tB(t:TE):TT:=λσ H Q=>t σ H λx H1=>∃c,x=.bl c/\Q c H1
theorem zI{t:TE}(h:PE X e t)(he:∀whole,isTrue e X.env whole=(do let v <-whole;standAt e.pos;holding [v] (truthy v)):=by intro _;rfl):PT X e (tB t):=by intro pins s σ H Q I hw;refine isTrue_plain (bQ (h pins s σ H _ I hw) λv s1 ⟨x,H1,I1,r1,q1⟩=>?_) (he _);obtain⟨d,rfl,q⟩:=q1;cases r1;exact wpAny_truthy_bool ⟨H1,I1,q⟩
variable{tA tB':TT}{rest:List Expr}
noncomputable def DL(t u:TT):TT:=λσ H Q=>t σ H λc H1=>if c=true then u σ H1 Q else Q false H1
noncomputable def ES(t u:TT):TT:=λσ H Q=>t σ H λc H1=>if c=true then Q true H1 else u σ H1 Q
noncomputable def DD(t:TT):TT:=λσ H Q=>t σ H λc H1=>Q (!c) H1
theorem xc(ha:PT X a tA):PW X (.BoolOp .And [a] pos) tA:=by
 intro wh pins s σ H Q I h;refine isTrue_and (bQ (ha pins s σ H Q I h) λc s1 e=>?_);cases c with
 |true=>exact isTrue_and_nil e
 |false=>exact e
theorem zG(ha:PT X a tA):PW X (.BoolOp .Or [a] pos) tA:=by
 intro wh pins s σ H Q I h;refine isTrue_or (bQ (ha pins s σ H Q I h) λc s1 e=>?_);cases c with
 |false=>exact isTrue_or_nil e
 |true=>exact e
theorem zH(ha:PT X a tA)(hb:PW X (.BoolOp .And (b::rest) pos) tB'):PW X (.BoolOp .And (a::b::rest) pos) (DL tA tB'):=by
 intro wh pins s σ H Q I h;refine isTrue_and (bQ (ha pins s σ H _ I h) λc s1 ⟨H1,I1,q1⟩=>?_);cases c with
 |true=>exact hb wh pins s1 σ H1 Q I1 q1
 |false=>exact⟨H1,I1,q1⟩
theorem B3(ha:PT X a tA)(hb:PW X (.BoolOp .Or (b::rest) pos) tB'):PW X (.BoolOp .Or (a::b::rest) pos) (ES tA tB'):=by
 intro wh pins s σ H Q I h;refine isTrue_or (bQ (ha pins s σ H _ I h) λc s1 ⟨H1,I1,q1⟩=>?_);cases c with
 |true=>exact⟨H1,I1,q1⟩
 |false=>exact hb wh pins s1 σ H1 Q I1 q1
theorem zJ(ha:PT X a tA):PT X (.UnaryOp .Not a pos) (DD tA):=by intro pins s σ H Q I h;exact isTrue_not (ha pins s σ H (λc H1=>Q (!c) H1) I h)
noncomputable def BE(ta tb:TE):TE:=λσ H Q=>ta σ H λx H1=>∃c,x=.bl c/\if c=true then tb σ H1 Q else Q (.bl false) H1
noncomputable def DC(ta tb:TE):TE:=λσ H Q=>ta σ H λx H1=>∃c,x=.bl c/\if c=true then Q (.bl true) H1 else tb σ H1 Q
noncomputable def Bz(ta:TE):TE:=λσ H Q=>ta σ H λx H1=>∃c,x=.bl c/\Q (.bl (!c)) H1
theorem zQ{op}{t:TE}(h:PE X a t):PE X (.BoolOp op [a] pos) t:=λpins s σ H Q I hw=>BoolOp_one (h pins s σ H Q I hw)
theorem zV(ha:PE X a ta)(hb:PE X (.BoolOp .And (b::rest) pos) tb):PE X (.BoolOp .And (a::b::rest) pos) (BE ta tb):=by
 intro pins s σ H Q I h;refine BoolOp_and (bQ (ha pins s σ H _ I h) λv s1 hp=>?_);obtain⟨x,H1,I1,r1,q1⟩:=hp;obtain⟨c,rfl,q1⟩:=q1;cases r1;refine wpAny_truthy_bool ?_;cases c with
 |true=>exact hb pins s1 σ H1 Q I1 q1
 |false=>exact⟨.bl false,H1,I1,rfl,q1⟩
theorem B8(ha:PE X a ta)(hb:PE X (.BoolOp .Or (b::rest) pos) tb):PE X (.BoolOp .Or (a::b::rest) pos) (DC ta tb):=by
 intro pins s σ H Q I h;refine BoolOp_or (bQ (ha pins s σ H _ I h) λv s1 hp=>?_);obtain⟨x,H1,I1,r1,q1⟩:=hp;obtain⟨c,rfl,q1⟩:=q1;cases r1;refine wpAny_truthy_bool ?_;cases c with
 |false=>exact hb pins s1 σ H1 Q I1 q1
 |true=>exact⟨.bl true,H1,I1,rfl,q1⟩
theorem zR(ha:PE X a ta):PE X (.UnaryOp .Not a pos) (Bz ta):=by intro pins s σ H Q I h;refine UnaryOp_ (bQ (ha pins s σ H _ I h) λv s1 hp=>?_);obtain⟨x,H1,I1,r1,q1⟩:=hp;obtain⟨c,rfl,q1⟩:=q1;cases r1;exact not_of (wpAny_truthy_bool ⟨.bl (!c),H1,I1,rfl,q1⟩)
noncomputable def ET(t:TT)(ta tb:TE):TE:=λσ H Q=>t σ H λc H1=>if c=true then ta σ H1 Q else tb σ H1 Q
theorem uV(hc:PT X c tA)(ha:PE X a ta)(hb:PE X b tb):PE X (.IfExp c a b pos) (ET tA ta tb):=by
 intro pins s σ H Q I h;refine wpAny_IfExp (bQ (hc pins s σ H _ I h) λd s1 ⟨H1,I1,q1⟩=>?_);cases d with
 |true=>exact ha pins s1 σ H1 Q I1 q1
 |false=>exact hb pins s1 σ H1 Q I1 q1
end
noncomputable def ez(K:al)(H:Hp)(a:Addr)(xs:List V):Prop:=
 Rd H a (.lst xs)∨
  ∃(o:Obj)(its:Array Value)(n:Nat),K.lookup a=some o/\o.cls=.type "list" /\o.dict=none/\o.data=.seq its n/\its.size<=sizeLine/\bm xs its.toList
noncomputable def gx(K:al)(H:Hp)(a:Addr)(xs:List V):Prop:=
 Rd H a (.tup xs)∨
  ∃(o:Obj)(its:Array Value)(n:Nat),K.lookup a=some o/\o.cls=.type "tuple" /\o.data=.seq its n/\its.size<=sizeLine/\bm xs its.toList
noncomputable def En:Value->Option V
 | .none=>some .non
 | .bool b=>some (.bl b)
 | .int i _=>some (.int i)
 | .str x _=>some (.str x)
 | .bytes b _=>some (.byt b)
 | .float b _=>some (.flt b)
 | .ref a=>some (.ref a)
 | .type n=>some (.ty n)
 |_=>none
theorem RelV.abs{x:V}(r:RelV x u):En u=some x:=by
 cases x with
 |non=>cases r;rfl
 |bl _=>cases r;rfl
 |int _=>obtain⟨t,rfl⟩:=r;rfl
 |str _=>obtain⟨t,rfl⟩:=r;rfl
 |byt _=>obtain⟨t,rfl⟩:=r;rfl
 |flt _=>obtain⟨t,rfl⟩:=r;rfl
 |ref _=>cases r;rfl
 |ty _=>cases r;rfl
theorem RelV.inj{x y:V}(r:RelV x u)(q:RelV y u):x=y:=ag (r.abs.symm.trans q.abs)
theorem bm.inj:∀{xs ys:List V}{us:List Value},bm xs us->bm ys us->xs=ys
 |_,_,_,.nil,.nil=>rfl
 |_,_,_,.cons r t,.cons r' t'=>by rw[r.inj r',bm.inj t t']
section
variable{X:Cx}{pins:List (Addr×Obj)}{σ:St}{H:Hp}{s:Shared}{a:Addr}{xs ys:List V}
theorem ez.of{K:al}(h:H a=some (.lst xs)):ez K H a xs:= .inl (.inl h)
theorem gx.of{K:al}(h:H a=some (.tup xs)):gx K H a xs:= .inl (.inl h)
theorem Inv.list(I:Inv X pins σ H s)(h:ez X.K H a xs):∃its:List Value,bm xs its/\PlainL s.heap a its.toArray/\xs.length<=sizeLine:=by
 rcases h with h|⟨o,its,n,hk,hc,hd,hs,hz,r⟩
 ·obtain⟨z,its,n,r,e⟩:=h.ok I.hok;exact⟨its,r,⟨_,n,e,rfl,rfl,rfl⟩,z⟩
 ·refine⟨its.toList,r,⟨o,n,I.kIn a o hk,hc,hd,by simpa using hs⟩,?_⟩
  have e:=r.length;simp only[Array.length_toList] at e;omega
theorem Inv.tuple(I:Inv X pins σ H s)(h:gx X.K H a xs):∃its:List Value,bm xs its/\IsTup s.heap a its.toArray/\xs.length<=sizeLine:=by
 rcases h with h|⟨o,its,n,hk,hc,hs,hz,r⟩
 ·obtain⟨z,its,r,p⟩:=h.ok I.hok;exact⟨its,r,p,z⟩
 ·refine⟨its.toList,r,⟨o,I.kIn a o hk,hc,n,by simpa using hs⟩,?_⟩
  have e:=r.length;simp only[Array.length_toList] at e;omega
theorem Inv.list_inj(I:Inv X pins σ H s)(h:ez X.K H a xs)(h':ez X.K H a ys):xs=ys:=by
 obtain⟨its,r,⟨o,n,e,_,_,d⟩,_⟩:=I.list h;obtain⟨its',r',⟨o',n',e',_,_,d'⟩,_⟩:=I.list h';rw[e] at e';cases e';rw[d] at d';injection d' with d1 _;have:its=its':=by simpa using congrArg Array.toList d1
 subst this;exact r.inj r'
theorem Inv.tuple_inj(I:Inv X pins σ H s)(h:gx X.K H a xs)(h':gx X.K H a ys):xs=ys:=by
 obtain⟨its,r,⟨o,e,_,n,d⟩,_⟩:=I.tuple h;obtain⟨its',r',⟨o',e',_,n',d'⟩,_⟩:=I.tuple h';rw[e] at e';cases e';rw[d] at d';injection d' with d1 _;have:its=its':=by simpa using congrArg Array.toList d1
 subst this;exact r.inj r'
end
section
end
section
variable{X:Cx}{st:Stmt}{rest:List Stmt}{t u:TS}{e:Expr}{te:TE}{pos:Pos}
noncomputable def yk:TS:=λD σ H=>D.nx σ H
noncomputable def DA(t u:TS):TS:=λD σ H=>t {D with nx:=u D} σ H
theorem xf:PSs X [] yk:=λ_ _ σ H _ I h=>wpAny_execs_nil ⟨σ,H,I,h⟩
theorem uI(h1:PS X st t)(h2:PSs X rest u):PSs X (st::rest) (DA t u):=by
 intro pins s σ H D I h;refine wpAny_execs_cons (bQ (h1 pins s σ H {D with nx:=u D} I h) λf s1 q=>?_);cases f with
 |next=>obtain⟨σ',H',I',q⟩:=q;exact h2 pins s1 σ' H' D I' q
 |ret v=>exact q
 |brk=>exact q
 |cont=>exact q
theorem xi:PS X (.Pass pos) yk:=λ_ _ σ H _ I h=>wpAny_Pass ⟨σ,H,I,h⟩
theorem Inv.quiet{σ:St}{H:Hp}(I:Inv X pins σ H s):interactive X.env=false:=by simp[interactive,I.ok.kind]
noncomputable def BB(te:TE):TS:=λD σ H=>te σ H λ_ H1=>D.nx σ H1
theorem kg(he:PE X e te)(hs:swapsWith e none pos.line X.env=pure false:=by rfl):PS X (.Expr e pos) (BB te):=by intro pins s σ H D I h;exact wpAny_Expr_any (bQ (he pins s σ H _ I h) λv s1 ⟨x,H1,I1,r1,q1⟩=>⟨σ,H1,I1,q1⟩) I.quiet hs
noncomputable def DB(te:TE):TS:=λD σ H=>te σ H D.rt
theorem zK(he:PE X e te):PS X (.Return (some e) pos) (DB te):=by intro pins s σ H D I h;exact wpAny_Return_some (bQ (he pins s σ H _ I h) λv s1 ⟨x,H1,I1,r1,q1⟩=>⟨x,σ,H1,I1,r1,q1⟩)
noncomputable def By:TS:=λD _ H=>D.rt .non H
theorem xh:PS X (.Return none pos) By:=λ_ _ σ H _ I h=>wpAny_Return_none ⟨.non,σ,H,I,rfl,h⟩
noncomputable def DF(c:TT)(t u:TS):TS:=λD σ H=>c σ H λb H1=>if b=true then t D σ H1 else u D σ H1
theorem B4{a b:List Stmt}{tc:TT}(hc:PT X c tc)(ha:PSs X a t)(hb:PSs X b u):PS X (.If c a b pos) (DF tc t u):=by
 intro pins s σ H D I h;refine wpAny_If (bQ (hc pins s σ H _ I h) λd s1 ⟨H1,I1,q1⟩=>?_);cases d with
 |true=>exact ha pins s1 σ H1 D I1 q1
 |false=>exact hb pins s1 σ H1 D I1 q1
end
noncomputable abbrev TG:=V->St->Hp->(St->Hp->Prop)->Prop
noncomputable abbrev wd:=List V->St->Hp->(St->Hp->Prop)->Prop
noncomputable def PG(X:Cx)(target:Expr)(t:TG):Prop:=
 ∀(pins:List (Addr×Obj))(s:Shared)(σ:St)(H:Hp)(v:V)(u:Value)(Q:St->Hp->Prop),Inv X pins σ H s->RelV v u->t v σ H Q->
  wpAny (model X.prog X.w) X.A (assign target X.env u) (λ_ s'=>∃σ' H',Inv X pins σ' H' s'/\Q σ' H') X.xe s
noncomputable def A3(X:Cx)(ts:List Expr)(t:wd):Prop:=
 ∀(pins:List (Addr×Obj))(s:Shared)(σ:St)(H:Hp)(vs:List V) (us:List Value)(Q:St->Hp->Prop),Inv X pins σ H s->bm vs us->t vs σ H Q->
  wpAny (model X.prog X.w) X.A (assignInOrder ((assignEach ts X.env).map (·.2)) us) (λ_ s'=>∃σ' H',Inv X pins σ' H' s'/\Q σ' H') X.xe s
noncomputable abbrev AS:=V->V->V->Hp->(Hp->Prop)->Prop
noncomputable def C7(X:Cx)(t:AS):Prop:=
 ∀(pins:List (Addr×Obj))(s:Shared)(σ:St)(H:Hp)(o i v:V)(ov iv u:Value)(Q:Hp->Prop),Inv X pins σ H s->RelV o ov->RelV i iv->RelV v u->t o i v H Q->
  wpAny (model X.prog X.w) X.A (setItem ov iv u) (λ_ s'=>∃H',Inv X pins σ H' s'/\Q H') X.xe s
noncomputable abbrev Dm:=V->V->Hp->VK->Prop
noncomputable def EJ(X:Cx)(op:Operator)(t:Dm):Prop:=
 ∀(pins:List (Addr×Obj))(s:Shared)(σ:St)(H:Hp)(x y:V)(v u:Value)(Q:VK),Inv X pins σ H s->RelV x v->RelV y u->t x y H Q->
  wpAny (model X.prog X.w) X.A (inplaceOp op v u) (EP X pins σ Q) X.xe s
section
variable{X:Cx}{pos:Pos}
noncomputable def d_(i:Nat):TG:=λv σ H Q=>Q (σ.set i (some v)) H
theorem fX(hN:X.N.Nodup)(hi:X.N[i]? =some x)(hx:Loc X.env.scope x)(hf:X.fn x=true∨X.env.scope.names.lookup x=some .local:=by first|exact .inl rfl|exact .inr rfl|assumption):PG X (.Name x pos) (d_ i):=by intro pins s σ H v u Q I r h;exact wpAny_assign_Name (iT I hN hi hx r (λs' I'=>⟨_,H,I',h⟩) hf)
noncomputable def sR:wd:=λvs σ H Q=>vs=[]/\Q σ H
noncomputable def iE(t:TG)(u:wd):wd:=λvs σ H Q=>∃v r,vs=v::r/\t v σ H λσ' H'=>u r σ' H' Q
theorem nw:A3 X [] sR:=by intro pins s σ H vs us Q I r h;obtain⟨e,h⟩:=h;subst e;cases r;exact assignInOrder_nil ⟨σ,H,I,h⟩
theorem gT{es:List Expr}{t:TG}{u:wd}(h1:PG X e t)(h2:A3 X es u)
  (hs:(assignEach (e::es) X.env).map (·.2)=assign e X.env::(assignEach es X.env).map (·.2):=by rfl):A3 X (e::es) (iE t u):=by
 intro pins s σ H vs us Q I r h;obtain⟨v,vr,e1,h⟩:=h;subst e1;cases r with
 |cons r rr=>rw[hs];refine assignInOrder_cons (bQ (h1 pins s σ H _ _ _ I r h) λ_ s1 hp=>?_);obtain⟨σ1,H1,I1,q1⟩:=hp;exact h2 pins s1 σ1 H1 _ _ Q I1 rr q1
noncomputable def vK(K:al)(n:Nat)(t:wd):TG:=λv σ H Q=>∃a xs,v=.ref a/\gx K H a xs/\xs.length=n/\t xs σ H Q
theorem uP{es:List Expr}{k:Nat}{t:wd}(hc:X.calm=true)(h:A3 X es t)
  (hn:(assignEach es X.env).length=n:=by rfl)(hst:(assignEach es X.env).findIdx? (·.1)=none:=by rfl):PG X (.Tuple es k pos) (vK X.K n t):=by
 intro pins s σ H v u Q I r hw;obtain⟨a,xs,e1,hq,hl,hw⟩:=hw;subst e1;cases r;obtain⟨its,rv,ht,hz⟩:=I.tuple hq;refine assign_Tuple_tuple (I.ok.hd hc) ht (by simp[hn,<-hl,rv.length]) hst λh' hx=>?_
 have I1:Inv X pins σ H {s with heap:=h'}:=I.kept (t':=s.toks) λb o e=>hx b o (aj (ai e)) e;exact h pins _ σ H xs _ Q I1 (by simpa using rv) hw
noncomputable def Eb(to ti:TE)(t:AS):TG:=λv σ H Q=>to σ H λo H1=>ti σ H1 λi H2=>t o i v H2 λH3=>Q σ H3
theorem zN{o i:Expr}{to ti:TE}{t:AS}(ho:PE X o to)(hi:PE X i ti)(hs:C7 X t)
  (ha:∀v,assign (.Subscript o i pos) X.env v=(do
   let ov <-holding [v] (eval o X.env)
   let iv <-holding [v,ov] (eval i X.env)
   standAt pos
   holding [v,ov,iv] (setItem ov iv v)
   release [v,ov,iv] []):=by intro _;rfl):PG X (.Subscript o i pos) (Eb to ti t):=by
 intro pins s σ H v u Q I r h;rw[ha];refine aa (wpAny_holding (bQ (ho pins s σ H _ I h) λov s1 hp=>?_));obtain⟨x,H1,I1,r1,q1⟩:=hp;refine aa (wpAny_holding (bQ (hi pins s1 σ H1 _ I1 q1) λiv s2 hp=>?_));obtain⟨y,H2,I2,r2,q2⟩:=hp;refine aa (wpAny_standAt (aa (wpAny_holding (bQ (hs pins s2 σ H2 x y v ov iv u _ I2 r1 r2 r q2) λ_ s3 hp=>?_))));obtain⟨H3,I3,q3⟩:=hp;exact wpAny_release ⟨σ,H3,I3,q3⟩
noncomputable def pS(te:TE)(g:TG):TS:=λD σ H=>te σ H λx H1=>g x σ H1 D.nx
theorem uK{te:TE}{g:TG}(he:PE X e te)(hg:PG X tg g)(hs:swapsWithSole [tg] e pos.line X.env=pure false:=by rfl)(hw:swappedStores [tg] e X.env=pure none:=by rfl)
  (h1:(assignEach [tg] X.env).map (·.2)=[assign tg X.env]:=by rfl):PS X (.Assign [tg] e pos) (pS te g):=by
 intro pins s σ H D I h;refine wpAny_Assign_stores (bQ (he pins s σ H _ I h) λv s1 ⟨x,H1,I1,r1,q1⟩=>?_) hs hw;rw[h1];exact bQ (hg pins s1 σ H1 x v _ I1 r1 q1) λ_ s2 q=>q
theorem p_{te:TE}(hN:X.N.Nodup)(hi:X.N[i]? =some x)(hx:Loc X.env.scope x)(he:PE X e te)(hs:swapsWith e (some (.Name x pos')) pos.line X.env=pure false:=by rfl)(hf:X.fn x=true∨X.env.scope.names.lookup x=some .local:=by first|exact .inl rfl|exact .inr rfl|assumption):
  PS X (.Assign [.Name x pos'] e pos) (pS te (d_ i)):=by
 intro pins s σ H D I h;refine wpAny_Assign_Name (bQ (he pins s σ H _ I h) λv s1 ⟨y,H1,I1,r1,q1⟩=>?_) hs;exact iT I1 hN hi hx r1 (λs2 I2=>⟨_,H1,I2,q1⟩) hf
noncomputable def DK(i:Nat)(te:TE)(ti:Dm):TS:=λD σ H=>∃x,σ[i]? =some (some x)/\te σ H λy H1=>ti x y H1 λz H2=>D.nx (σ.set i (some z)) H2
theorem zM{te:TE}{op:Operator}{ti:Dm}(hN:X.N.Nodup)(hi:X.N[i]? =some x)(hx:Loc X.env.scope x)(he:PE X e te)(ho:EJ X op ti)(hf:X.fn x=true∨X.env.scope.names.lookup x=some .local:=by first|exact .inl rfl|exact .inr rfl|assumption):
  PS X (.AugAssign (.Name x pos') op e pos) (DK i te ti):=by
 intro pins s σ H D I h;obtain⟨v,e1,h⟩:=h;obtain⟨m,hn,hl⟩:=I.loc;have vis:C5 X.env.scope x:=by rcases hx with k|k;exact .inl k;exact .inr (.inl k)
 obtain⟨u,r,l⟩:=hl i x v hi e1 vis;refine wpAny_AugAssign_Name ?_
 have go:wpAny (model X.prog X.w) X.A (eval e X.env) (λw s₂=>wpAny (model X.prog X.w) X.A (inplaceOp op u w) (λr s₃=>wpAny (model X.prog X.w) X.A (storeName X.env x r) (λ_=>SP X pins D .next) X.xe s₃) X.xe s₂) X.xe s:=by refine bQ (he pins s σ H _ I h) λw s1 hp=>?_;obtain⟨y,H1,I1,r1,q1⟩:=hp;refine bQ (ho pins s1 σ H1 v y u w _ I1 r r1 q1) λz s2 hp=>?_;obtain⟨zv,H2,I2,r2,q2⟩:=hp;exact iT I2 hN hi hx r2 (λs3 I3=>⟨_,H2,I3,q2⟩) hf
 rcases l with⟨hk,hm⟩|⟨hk,c,hc,hcell⟩
 ·exact wpAny_loadName_local I.ok.kind hk hn hm go
 ·rcases hk with hk|hk
  ·exact wpAny_loadName_cell I.ok.kind hk hc hcell go
  ·rcases hx with k|k
   ·have:X.env.scope.names.lookup x=some .free:=hk;rw[k] at this;cases this
   ·have:X.env.scope.names.lookup x=some .free:=hk;rw[k] at this;cases this
noncomputable def EW(f:Int->Int->Int):Dm:=λx y H Q=>∃i j,x=.int i/\y=.int j/\Q (.int (f i j)) H
theorem Ao:EJ X .Add (EW λi j=>i+j):=by intro pins s σ H x y v u Q I r1 r2 h;obtain⟨i,j,e1,e2,q⟩:=h;subst e1;subst e2;obtain⟨t,rfl⟩:=r1;obtain⟨t',rfl⟩:=r2;exact iadd_int ⟨.int _,H,I.tok _,⟨_,rfl⟩,q⟩
end
section
variable{X:Cx}{pos:Pos}
noncomputable def yT(c:TT)(tb:TS):TS:=λD σ H=>∃W:Nat->St->Hp->Prop,(∃m,W m σ H)/\∀m σ H,W m σ H->
 c σ H λb H1=>if b=true then ∃N:St->Hp->Prop,(∀σ' H',N σ' H'->∃m',m'<m/\W m' σ' H')/\tb {D with nx:=N,ct:=N,bk:=D.nx} σ H1 else D.nx σ H1
theorem uJ{body:List Stmt}{tc:TT}{tb:TS}(hp:PassesOwn (model X.prog X.w) X.A X.env X.xe)(hc:PT X c tc)(hb:PSs X body tb):PS X (.While c body [] pos) (yT tc tb):=by
 intro pins s σ H D I h;obtain⟨W,⟨m0,w0⟩,turn⟩:=h;refine wpAny_While (codeAny_whileLoop (λn s'=>∃σ' H',Inv X pins σ' H' s'/\W n σ' H') ?_ m0 ⟨σ,H,I,w0⟩);rintro n s1 ⟨σ1,H1,I1,w1⟩;refine wpAny_passesOwn hp (bQ (hc pins s1 σ1 H1 _ I1 (turn n σ1 H1 w1)) λb s2 ⟨H2,I2,q2⟩=>?_);cases b with
 |true=>
  obtain⟨N,hN,q2⟩:=q2;rw[if_pos rfl];refine wpAny_passesOwn hp (bQ (hb pins s2 σ1 H2 _ I2 q2) λf s3 q3=>?_);cases f with
  |next=>obtain⟨σ3,H3,I3,n3⟩:=q3;obtain⟨m',hm,w3⟩:=hN σ3 H3 n3;exact⟨m',hm,σ3,H3,I3,w3⟩
  |cont=>obtain⟨σ3,H3,I3,n3⟩:=q3;obtain⟨m',hm,w3⟩:=hN σ3 H3 n3;exact⟨m',hm,σ3,H3,I3,w3⟩
  |brk=>exact q3
  |ret v=>exact q3
 |false=>rw[if_neg au];exact wpAny_execs_nil ⟨σ1,H2,I2,q2⟩
end
structure It where
 go:Nat->Hp->Prop
 yld:Nat->Hp->V->Hp->Prop
 stop:Nat->Hp->Prop
noncomputable def fI(X:Cx)(pins:List (Addr×Obj))(H:Hp)(b:Addr):Prop:=
 H b=none/\b≠X.env.locals/\b∉X.fs/\(b∈X.ex∨X.s₀.heap.objs.size<=b)/\(∀x c,X.env.cells.lookup x=some c->c≠b)/\∀p∈X.pn++pins,p.1≠b
theorem Inv.fpOk{X:Cx}{σ:St}{H H':Hp}(I:Inv X pins σ H s)(hb:s.heap.objs.size<=b)(hn:H' b=none):fI X pins H' b:=by
 refine⟨hn,bp (ao I.lt hb),I.nofs hb,.inr (aT I.sz hb),λx c e z=>?_,λp hp z=>?_⟩
 ·obtain⟨v,q⟩:=I.cell x c e;exact absurd (ao q.lt (by rw[z];exact hb)) (bz _)
 ·exact absurd (ao (ai (I.pin p hp).1) (by rw[z];exact hb)) (bz _)
structure Turn(P:Program)(w:World)(K:al)(tg:Expr)(J:It)(fp:List Addr)(it:Addr)(tn:Nat->Heap->Prop):Prop where
 mem:it∈fp
 obj:∀i h,tn i h->∀b∈fp,∃o,h.get? b=some o/\∀v,o.data≠ .cell v
 keep:∀i h h',tn i h->(∀b∈fp,∀o,h.get? b=some o->h'.get? b=some o)->tn i h'
 item:∀(X:Cx),X.prog=P->X.w=w->X.K=K->X.calm=true->∀(i:Nat)(pins:List (Addr×Obj))(s:Shared)(σ:St)(H:Hp)(E:Value->Shared->Prop),Inv X pins σ H s->(∀b∈fp,fI X pins H b)->tn i s.heap->J.go i H->
  wpAny (model P w) X.A (pyNext (.ref it)) (λr s1=>∃u,r=some u/\
   wpAny (model P w) X.A (letOwnedTupleGo tg (.ref it) u) (λ_ s2=>∃x H',Inv X pins σ H' s2/\RelV x u/\J.yld i H x H'/\tn (i+1) s2.heap/\∀b∈fp,H' b=none) E s1) E s
 done:∀(X:Cx),X.prog=P->X.w=w->X.K=K->X.calm=true->∀(i:Nat)(pins:List (Addr×Obj))(s:Shared)(σ:St)(H:Hp)(E:Value->Shared->Prop),Inv X pins σ H s->(∀b∈fp,fI X pins H b)->tn i s.heap->J.stop i H->
  wpAny (model P w) X.A (pyNext (.ref it)) (λr s1=>r=none/\Inv X pins σ H s1) E s
 self:∀(A:Around)(i:Nat)(s:Shared)(Q:Value->Shared->Prop)(E:Value->Shared->Prop),tn i s.heap->Q (.ref it) s->wpAny (model P w) A (pyIter (.ref it)) Q E s
noncomputable abbrev TI:=St->Hp->(It->Hp->Prop)->Prop
noncomputable def EK(X:Cx)(pins:List (Addr×Obj))(σ:St)(tg:Expr)(R:It->Hp->Prop)(itv:Value)(s2:Shared):Prop:=
 ∃(it:Addr)(fp:List Addr)(tn:Nat->Heap->Prop)(J:It)(H':Hp),itv=.ref it/\Inv X pins σ H' s2/\Turn X.prog X.w X.K tg J fp it tn/\tn 0 s2.heap/\(∀b∈fp,fI X pins H' b)/\R J H'
noncomputable def PI(X:Cx)(tg iter:Expr)(wi:TI):Prop:=
 ∀(pins:List (Addr×Obj))(s:Shared)(σ:St)(H:Hp)(R:It->Hp->Prop),Inv X pins σ H s->wi σ H R->
  wpAny (model X.prog X.w) X.A (eval iter X.env) (λv s1=>wpAny (model X.prog X.w) X.A (pyIter v) (EK X pins σ tg R) X.xe s1) X.xe s
theorem vv{M:Model}{n:String}{vs:Array Value}{Q:Unit->Shared->Prop}(ho:s.heap.get? it=some o)(hc:o.cls=.type n)(hd:o.data=.fields vs)
  (hn:["enumerate","zip","dict_itemiterator","dict_reverseitemiterator","odict_iterator","itertools.zip_longest","itertools.pairwise"].contains n=false) (hQ:Q () s):wpAny M A (letOwnedTupleGo tg (.ref it) u) Q E s:=by
 unfold letOwnedTupleGo
 cases tg<;>first
  |exact af hQ
  |(cases u<;>first
    |exact af hQ
    |(refine aa (wpAny_load ho ?_)
      rw[hc,hd];show wpAny M A (if(["enumerate","zip","dict_itemiterator","dict_reverseitemiterator","odict_iterator","itertools.zip_longest","itertools.pairwise"].contains n&&vs[0]? ==some (rawInt _))=true then _ else _) Q E s
      rw[if_neg (by intro h;rw[hn,Bool.false_and] at h;cases h)]
      exact af hQ))
noncomputable def Dq(K:al)(a:Addr):It:=
 ⟨λi H=>∃xs x,ez K H a xs/\xs[i]? =some x,λi H x H'=>H'=H/\∀xs,ez K H a xs->xs[i]? =some x,λi H=>∃xs,ez K H a xs/\xs.length<=i⟩
noncomputable def Eu(K:al)(a:Addr):It:=
 ⟨λi H=>∃xs x,gx K H a xs/\xs[i]? =some x,λi H x H'=>H'=H/\∀xs,gx K H a xs->xs[i]? =some x,λi H=>∃xs,gx K H a xs/\xs.length<=i⟩
noncomputable def A4(lo:Int)(n:Nat):It:=⟨λi _=>i<n,λi H x H'=>H'=H/\x=.int (lo+i),λi _=>n<=i⟩
theorem sk{K:al}(a it:Addr):Turn P w K tg (Dq K a) [it] it (λi h=>h.IsListIter it a i) where
 mem:=by simp
 obj:=λi h st b hb=>by
  have e:b=it:=by simpa using hb
  subst e;obtain⟨o,e,c,d⟩:=st;exact⟨o,e,λv z=>by rw[d] at z;cases z⟩
 keep:=λi h h' st k=>st.at λo e=>k it (by simp) o e
 item:=by
  intro X hP hw hK hc i pins s σ H E I hf st hg;subst hP hw hK;obtain⟨xs,x,hq,hx⟩:=hg;obtain⟨its,rv,p,hz⟩:=I.list hq;obtain⟨u,hu,ru⟩:=rv.get hx;obtain⟨f0,f1,f2,f3,f4,f5⟩:=hf it (by simp)
  refine wpAny_pyNext_list_item st p.isList (x:=u) (by simpa using hu) λh' st' sb=>?_
  have I1:Inv X pins σ H {s with heap:=h'}:=I.turned (t':=s.toks) (λb o hb e=>(sb.2 b hb).trans e) f0 f1 f3 f4 f5;obtain⟨o,e,c,d⟩:=id st';exact⟨u,rfl,vv (s:={s with heap:=h'}) e c d (by decide) ⟨x,H,I1,ru,⟨rfl,λys hy=>by rw[I.list_inj hy hq];exact hx⟩,st',λb hb=>(hf b hb).1⟩⟩
 done:=by
  intro X hP hw hK hc i pins s σ H E I hf st hg;subst hP hw hK;obtain⟨xs,hq,hx⟩:=hg;obtain⟨its,rv,p,hz⟩:=I.list hq;obtain⟨f0,f1,f2,f3,f4,f5⟩:=hf it (by simp)
  have hl:=rv.length;exact wpAny_pyNext_list_end (I.ok.hd hc) st p.isList (by simp;omega) λh' eb=>⟨rfl,I.turned (t':=s.toks) (λb o hb e=>eb b o hb e) f0 f1 f3 f4 f5⟩
 self:=λ_ _ _ _ _ st h=>wpAny_pyIter_listiter st h
theorem pM{K:al}(a it:Addr):Turn P w K tg (Eu K a) [it] it (λi h=>h.IsTupleIter it a i) where
 mem:=by simp
 obj:=λi h st b hb=>by
  have e:b=it:=by simpa using hb
  subst e;obtain⟨o,e,c,d⟩:=st;exact⟨o,e,λv z=>by rw[d] at z;cases z⟩
 keep:=λi h h' st k=>st.at λo e=>k it (by simp) o e
 item:=by
  intro X hP hw hK hc i pins s σ H E I hf st hg;subst hP hw hK;obtain⟨xs,x,hq,hx⟩:=hg;obtain⟨its,rv,p,hz⟩:=I.tuple hq;obtain⟨u,hu,ru⟩:=rv.get hx;obtain⟨f0,f1,f2,f3,f4,f5⟩:=hf it (by simp)
  refine wpAny_pyNext_tuple_item st (show s.heap.IsTuple a its.toArray from p) (x:=u) (by simpa using hu) λh' st' sb=>?_
  have I1:Inv X pins σ H {s with heap:=h'}:=I.turned (t':=s.toks) (λb o hb e=>(sb.2 b hb).trans e) f0 f1 f3 f4 f5;obtain⟨o,e,c,d⟩:=id st';exact⟨u,rfl,vv (s:={s with heap:=h'}) e c d (by decide) ⟨x,H,I1,ru,⟨rfl,λys hy=>by rw[I.tuple_inj hy hq];exact hx⟩,st',λb hb=>(hf b hb).1⟩⟩
 done:=by
  intro X hP hw hK hc i pins s σ H E I hf st hg;subst hP hw hK;obtain⟨xs,hq,hx⟩:=hg;obtain⟨its,rv,p,hz⟩:=I.tuple hq;obtain⟨f0,f1,f2,f3,f4,f5⟩:=hf it (by simp)
  have hl:=rv.length;exact wpAny_pyNext_tuple_end (I.ok.hd hc) st (show s.heap.IsTuple a its.toArray from p) (by simp;omega) λh' eb=>⟨rfl,I.turned (t':=s.toks) (λb o hb e=>eb b o hb e) f0 f1 f3 f4 f5⟩
 self:=λ_ _ _ _ _ st h=>wpAny_pyIter_tupleiter st h
theorem pN{K:al}(it:Addr)(lo:Int)(n:Nat):Turn P w K tg (A4 lo n) [it] it (λi h=>IsRangeIter h it (lo+(i:Nat)*1) ((n:Int) - (i:Nat)) 1) where
 mem:=by simp
 obj:=λi h st b hb=>by
  have e:b=it:=by simpa using hb
  subst e
  exact⟨_,st,λv z=>by have z':Data.fields _=Data.cell v:=z;cases z'⟩
 keep:=λi h h' st k=>k it (by simp) _ st
 item:=by
  intro X hP hw hK hc i pins s σ H E I hf st hg;subst hP hw hK;obtain⟨f0,f1,f2,f3,f4,f5⟩:=hf it (by simp)
  have W:=Walks.range (prog:=X.prog) (w:=X.w) (I.ok.hd hc) it lo 1 n;refine W.item i s _ _ hg st λv h' tk hv st' kk=>?_;obtain⟨t,rfl⟩:=hv;have I1:Inv X pins σ H {s with heap:=h',toks:=tk}:=I.turned (λb o hb e=>kk b o (by simpa using hb) e) f0 f1 f3 f4 f5
  refine⟨_,rfl,vv (s:={s with heap:=h',toks:=tk}) (n:= "range_iterator") st' rfl rfl (by decide) ⟨.int (lo+i),H,I1,⟨t,?_⟩,⟨rfl,rfl⟩,st',λb hb=>(hf b hb).1⟩⟩
  rw[Int.mul_one]
 done:=by
  intro X hP hw hK hc i pins s σ H E I hf st hg;subst hP hw hK;obtain⟨f0,f1,f2,f3,f4,f5⟩:=hf it (by simp)
  exact wpAny_pyNext_range_end (I.ok.hd hc) st (by have:n<=i:=hg;omega) λh' eb=>⟨rfl,I.turned (t':=s.toks) (λb o hb e=>eb b o hb e) f0 f1 f3 f4 f5⟩
 self:=λ_ _ _ _ _ st h=>wpAny_pyIter_rangeiter st h
section
variable{X:Cx}{tg:Expr}
theorem oJ{σ:St}{H:Hp}{R:It->Hp->Prop}{lo hi:Int}{t u v:Tok}{tk:Nat}(I:Inv X pins σ H s)(h1: -(2^62)<=lo)(h2:lo<2^62)(h3: -(2^62)<=hi)(h4:hi<2^62)
  (q:R (A4 lo (hi - lo).toNat) H):wpAny (model X.prog X.w) X.A (pyIter (.ref s.heap.objs.size)) (EK X pins σ tg R) E {s with heap:=s.heap.push {cls:= .type "range",data:= .fields #[.int lo t,.int hi u,.int 1 v]},toks:=tk}:=by
 refine wpAny_pyIter_range (IsRange.new ..) (small_one h1 h2 h3 h4) ?_;have I1:Inv X pins σ H {s with heap:=s.heap.push {cls:= .type "range",data:= .fields #[.int lo t,.int hi u,.int 1 v]},toks:=tk}:=I.kept λb o e=>ac _ e
 refine⟨(s.heap.push {cls:= .type "range",data:= .fields #[.int lo t,.int hi u,.int 1 v]}).objs.size,[(s.heap.push {cls:= .type "range",data:= .fields #[.int lo t,.int hi u,.int 1 v]}).objs.size],_,_,H,rfl,
  I1.kept (t':=tk) λb o e=>ac _ e,pN _ lo (hi - lo).toNat,?_,λb hb=>?_,q⟩
 ·have e1:lo+((0:Nat):Int)*1=lo:=by simp
  have e2:(((hi - lo).toNat:Nat):Int) - ((0:Nat):Int)=Builtin.Range.rangeSize lo hi 1:=by rw[rangeSize_one];split<;>omega
  show IsRangeIter _ _ (lo+((0:Nat):Int)*1) ((((hi - lo).toNat:Nat):Int) - ((0:Nat):Int)) 1;rw[e1,e2];exact ak _ rfl
 ·have e:b=(s.heap.push {cls:= .type "range",data:= .fields #[.int lo t,.int hi u,.int 1 v]}).objs.size:=by simpa using hb
  subst e;exact I1.fpOk (ae _) (I1.hok.fresh (ae _))
noncomputable def yE(ta:TA):TI:=λσ H R=>ta σ H λvs H1=>∃j:Int,vs=[.int j]/\ -(2^62)<=j/\j<2^62/\R (A4 0 j.toNat) H1
noncomputable def Co(ta:TA):TI:=λσ H R=>ta σ H λvs H1=>∃i j:Int,vs=[.int i,.int j]/\(-(2^62)<=i/\i<2^62/\ -(2^62)<=j/\j<2^62)/\R (A4 i (j - i).toNat) H1
theorem my{a:Expr}{ta:TA}(hg:Gl X "range")(hm:X.mg "range"=none)(ha:PA X [a] ta)(hs:starEach [a] X.env=[(false,eval a X.env)]:=by rfl):PI X tg (.Call (.Name "range" p) [a] [] pos) (yE ta):=by
 intro pins s σ H R I h;refine Call_ (fY I hg hm boot_range (aS (bQ (ha pos pins s σ H _ I h) λus s1 ⟨vs,H1,I1,r1,q1⟩=>?_) hs rfl));obtain⟨j,e,q1,q2,q⟩:=q1;subst e;cases r1 with
 |cons r rr=>
  cases rr;obtain⟨t,rfl⟩:=r;exact call_range_1 (oJ I1 (by omega) (by omega) q1 q2 (by simpa using q))
theorem sD{a b:Expr}{ta:TA}(hg:Gl X "range")(hm:X.mg "range"=none)(ha:PA X [a,b] ta)(hs:starEach [a,b] X.env=[(false,eval a X.env),(false,eval b X.env)]:=by rfl)(hs2:starEach [b] X.env=[(false,eval b X.env)]:=by rfl):
  PI X tg (.Call (.Name "range" p) [a,b] [] pos) (Co ta):=by
 intro pins s σ H R I h;refine Call_ (fY I hg hm boot_range (aS (bQ (ha pos pins s σ H _ I h) λus s1 ⟨vs,H1,I1,r1,q1⟩=>?_) (by rw[hs,hs2]) (by rw[hs2];rfl)))
 obtain⟨i,j,e,⟨q1,q2,q3,q4⟩,q⟩:=q1;subst e;cases r1 with
 |cons r rr=>
  cases rr with
  |cons r' rr=>cases rr;obtain⟨t,rfl⟩:=r;obtain⟨t',rfl⟩:=r';exact call_range_2 (oJ I1 q1 q2 q3 q4 q)
noncomputable def DG(wi:TI)(g:TG)(tb:TS):TS:=λD σ H=>wi σ H λJ H1=>∃W:Nat->Nat->St->Hp->Prop,(∃m,W 0 m σ H1)/\∀i m σ H,W i m σ H->
 (J.stop i H/\D.nx σ H)∨(J.go i H/\∃N:St->Hp->Prop,(∀σ' H',N σ' H'->∃m',m'<m/\W (i+1) m' σ' H')/\∀x H',J.yld i H x H'->g x σ H' λσ2 H2=>tb {D with nx:=N,ct:=N,bk:=D.nx} σ2 H2)
noncomputable def jw(fp:List Addr)(h:Heap):List (Addr×Obj):=fp.filterMap λb=>(h.get? b).map λo=>(b,o)
theorem dQ(hb:b∈fp)(e:h.get? b=some o):(b,o)∈jw fp h:=List.mem_filterMap.mpr ⟨b,hb,by rw[e];rfl⟩
theorem sI{p:Addr×Obj}(hp:p∈jw fp h):p.1∈fp/\h.get? p.1=some p.2:=by
 obtain⟨b,hb,e⟩:=List.mem_filterMap.mp hp;cases q:h.get? b with
 |none=>rw[q] at e;cases e
 |some o=>rw[q] at e;have e':(b,o)=p:=ag e;subst e';exact⟨hb,q⟩
theorem Inv.pinned{σ:St}{H:Hp}(I:Inv X pins σ H s)(hf:∀b∈fp,fI X pins H b)(ho:∀b∈fp,∃o,s.heap.get? b=some o/\∀v,o.data≠ .cell v):Inv X (pins++jw fp s.heap) σ H s:=
 I.pins_of λp hp=>(List.mem_append.mp hp).elim (λz=>I.pin p (aB _ z)) λz=>by obtain⟨hb,e⟩:=sI z;obtain⟨f0,f1,f2,_⟩:=hf p.1 hb;obtain⟨o,e',d⟩:=ho p.1 hb;rw[e] at e';cases e';exact⟨e,f0,f1,f2,d⟩
theorem Inv.unpinned{pl:List (Addr×Obj)}{σ:St}{H:Hp}(I:Inv X (pins++pl) σ H s):Inv X pins σ H s:=I.pins_of λp hp=>I.pin p (aB _ (List.mem_append_left _ hp))
theorem kW{iter:Expr}{body:List Stmt}{wi:TI}{g:TG}{tb:TS}(hp:PassesOwn (model X.prog X.w) X.A X.env X.xe)(hc:X.calm=true)(hi:PI X tg iter wi)(hg:PG X tg g)(hb:PSs X body tb)
  (hs:∀x,foldedSetIterable iter X.env x=pure x:=by intro _;rfl):PS X (.For tg iter body [] pos) (DG wi g tb):=by
 intro pins s σ H D I h;refine wpAny_For (bQ (hi pins s σ H _ I h) λv s1 h1=>bQ h1 λitv s2 h2=>?_) hs;obtain⟨it,fp,tn,J,H2,e,I2,T,st2,f2,W,⟨m0,w0⟩,turn⟩:=h2;subst e;have stat:∀{H':Hp},(∀b∈fp,H' b=none)->∀b∈fp,fI X pins H' b:=λhn b hb=>⟨hn b hb,(f2 b hb).2⟩;refine codeAny_forLoop_any (λn s'=>∃i σ' H',Inv X pins σ' H' s'/\tn i s'.heap/\(∀b∈fp,H' b=none)/\W i n σ' H') ?_ m0 ⟨0,σ,H2,I2,st2,λb hb=>(f2 b hb).1,w0⟩;rintro n s3 ⟨i,σ3,H3,I3,st3,fr3,w3⟩;rcases turn i n σ3 H3 w3 with⟨stop,qn⟩|⟨go,N,hN,step⟩
 ·refine wpAny_passesOwn hp (bQ (T.done X rfl rfl rfl hc i pins s3 σ3 H3 X.xe I3 (stat fr3) st3 stop) λr s4 ⟨hr,I4⟩=>?_);subst hr;exact wpAny_execs_nil ⟨σ3,H3,I4,qn⟩
 ·refine wpAny_passesOwn hp (bQ (T.item X rfl rfl rfl hc i pins s3 σ3 H3 X.xe I3 (stat fr3) st3 go) λr s4 hp=>?_);obtain⟨u,hr,h4⟩:=hp;subst hr;refine wpAny_passesOwn hp (bQ h4 λ_ s5 hp=>?_);obtain⟨x,H5,I5,r5,y5,st5,fr5⟩:=hp;have I5':=I5.pinned (stat fr5) (T.obj _ _ st5);refine wpAny_passesOwn hp (bQ (hg _ s5 σ3 H5 x u _ I5' r5 (step x H5 y5)) λ_ s6 hp=>?_);obtain⟨σ6,H6,I6,q6⟩:=hp;refine wpAny_passesOwn hp (bQ (hb _ s6 σ6 H6 _ I6 q6) λf s7 q7=>?_)
  have again:∀{σ7:St}{H7:Hp},Inv X (pins++jw fp s5.heap) σ7 H7 s7->N σ7 H7->∃m,m<n/\∃i σ' H',Inv X pins σ' H' s7/\tn i s7.heap/\(∀b∈fp,H' b=none)/\W i m σ' H':=λ{σ7 H7} I7 n7=>by obtain⟨m',hm,w7⟩:=hN σ7 H7 n7;refine⟨m',hm,i+1,σ7,H7,I7.unpinned,T.keep _ _ _ st5 λb hb o e=>(I7.pin (b,o) (aB _ (aB _ (dQ hb e)))).1,λb hb=>?_,w7⟩;obtain⟨o,e,d⟩:=T.obj _ _ st5 b hb;exact(I7.pin (b,o) (aB _ (aB _ (dQ hb e)))).2.1
  cases f with
  |next=>obtain⟨σ7,H7,I7,n7⟩:=q7;exact again I7 n7
  |cont=>obtain⟨σ7,H7,I7,n7⟩:=q7;exact again I7 n7
  |brk=>obtain⟨σ7,H7,I7,q7⟩:=q7;exact⟨σ7,H7,I7.unpinned,q7⟩
  |ret v=>obtain⟨x7,σ7,H7,I7,r7,q7⟩:=q7;exact⟨x7,σ7,H7,I7.unpinned,r7,q7⟩
end
noncomputable abbrev R2:=V->V->Hp->VK->Prop
noncomputable def kx(X:Cx)(f:Value->Value->Sem Value)(r:R2):Prop:=
 ∀(pins:List (Addr×Obj))(s:Shared)(σ:St)(H:Hp)(x y:V)(v u:Value)(Q:VK),Inv X pins σ H s->RelV x v->RelV y u->r x y H Q->
  wpAny (model X.prog X.w) X.A (f v u) (EP X pins σ Q) X.xe s
noncomputable def Eo(X:Cx)(f:Value->Sem Value)(r:V->Hp->VK->Prop):Prop:=
 ∀(pins:List (Addr×Obj))(s:Shared)(σ:St)(H:Hp)(x:V)(v:Value)(Q:VK),Inv X pins σ H s->RelV x v->r x H Q->
  wpAny (model X.prog X.w) X.A (f v) (EP X pins σ Q) X.xe s
noncomputable def h_(X:Cx)(f:Value)(r:List V->Hp->VK->Prop):Prop:=
 ∀(pins:List (Addr×Obj))(s:Shared)(σ:St)(H:Hp)(xs:List V) (us:List Value)(Q:VK),Inv X pins σ H s->bm xs us->r xs H Q->
  wpAny (model X.prog X.w) X.A (call f us) (EP X pins σ Q) X.xe s
noncomputable def AX(r:R2)(ta tb:TE):TE:=λσ H Q=>ta σ H λx H1=>tb σ H1 λy H2=>r x y H2 Q
noncomputable def EO(r:V->Hp->VK->Prop)(ta:TE):TE:=λσ H Q=>ta σ H λx H1=>r x H1 Q
noncomputable def rI(C:Int->Int->Prop)(g:Int->Int->V):R2:=λx y H Q=>∃i j,x=.int i/\y=.int j/\C i j/\Q (g i j) H
noncomputable def zz(g:Int->Int->V):R2:=λx y H Q=>∃i j,x=.int i/\y=.int j/\Q (g i j) H
noncomputable def rU(g:Int->V):V->Hp->VK->Prop:=λx H Q=>∃i,x=.int i/\Q (g i) H
section
variable{X:Cx}{a b:Expr}{ta tb:TE}{pos:Pos}
theorem AN(ha:PE X a ta)(hb:PE X b tb){σ:St}{H:Hp}{R:V->V->Hp->Prop}(I:Inv X pins σ H s)
  (h:ta σ H λx H1=>tb σ H1 λy H2=>R x y H2)
  (hf:∀v u s2 x y H2,Inv X pins σ H2 s2->RelV x v->RelV y u->R x y H2->wpAny (model X.prog X.w) X.A (f v u) Q X.xe s2):
  wpAny (model X.prog X.w) X.A (eval a X.env) (λv s₁=>wpAny (model X.prog X.w) X.A (eval b X.env) (λu s₂=>wpAny (model X.prog X.w) X.A (f v u) Q X.xe s₂) X.xe s₁) X.xe s:=by
 refine bQ (ha pins s σ H _ I h) λv s1 hp=>?_;obtain⟨x,H1,I1,r1,q1⟩:=hp;refine bQ (hb pins s1 σ H1 _ I1 q1) λu s2 hp=>?_;obtain⟨y,H2,I2,r2,q2⟩:=hp;exact hf v u s2 x y H2 I2 r1 r2 q2
theorem B9{op:Operator}{r:R2}(ho:kx X (binaryOp op) r)(ha:PE X a ta)(hb:PE X b tb):PE X (.BinOp a op b pos) (AX r ta tb):=by intro pins s σ H Q I h;exact wpAny_BinOp (AN ha hb I h λv u s2 x y H2 I2 rx ry q=>ho pins s2 σ H2 x y v u Q I2 rx ry q)
theorem yr{op:UnaryOp}{r:V->Hp->VK->Prop}(ho:Eo X (unaryOp op) r)(ha:PE X a ta):PE X (.UnaryOp op a pos) (EO r ta):=by intro pins s σ H Q I h;exact UnaryOp_ (bQ (ha pins s σ H _ I h) λv s1 ⟨x,H1,I1,r1,q1⟩=>ho pins s1 σ H1 x v Q I1 r1 q1)
theorem D1{C:Int->Int->Prop}{g:Int->Int->Int}
  (rule:∀(i j:Int)(t u:Tok)(s:Shared)(Q:Value->Shared->Prop)(E:Value->Shared->Prop),C i j->Q (.int (g i j) s.toks) {s with toks:=s.toks+1}->wpAny (model X.prog X.w) X.A (f (.int i t) (.int j u)) Q E s):
  kx X f (rI C λi j=>.int (g i j)):=by
 intro pins s σ H x y v u Q I rx ry h;obtain⟨i,j,rfl,rfl,hc,q⟩:=h;obtain⟨t,rfl⟩:=rx;obtain⟨t',rfl⟩:=ry;exact rule i j t t' s _ _ hc ⟨.int (g i j),H,I.tok _,⟨_,rfl⟩,q⟩
theorem Cd{g:Int->Int->Int}
  (rule:∀(i j:Int)(t u:Tok)(s:Shared)(Q:Value->Shared->Prop)(E:Value->Shared->Prop),Q (.int (g i j) s.toks) {s with toks:=s.toks+1}->wpAny (model X.prog X.w) X.A (f (.int i t) (.int j u)) Q E s):
  kx X f (zz λi j=>.int (g i j)):=by
 intro pins s σ H x y v u Q I rx ry h;obtain⟨i,j,rfl,rfl,q⟩:=h;obtain⟨t,rfl⟩:=rx;obtain⟨t',rfl⟩:=ry;exact rule i j t t' s _ _ ⟨.int (g i j),H,I.tok _,⟨_,rfl⟩,q⟩
theorem z3{g:Int->Int->Bool}
  (rule:∀(i j:Int)(t u:Tok)(s:Shared)(Q:Value->Shared->Prop)(E:Value->Shared->Prop),Q (.bool (g i j)) s->wpAny (model X.prog X.w) X.A (f (.int i t) (.int j u)) Q E s):
  kx X f (zz λi j=>.bl (g i j)):=by
 intro pins s σ H x y v u Q I rx ry h;obtain⟨i,j,rfl,rfl,q⟩:=h;obtain⟨t,rfl⟩:=rx;obtain⟨t',rfl⟩:=ry;exact rule i j t t' s _ _ ⟨.bl (g i j),H,I,rfl,q⟩
noncomputable def AV(i j:Int):Prop:=(-(2^64)<i/\i<2^64)∨(-(2^64)<j/\j<2^64)
theorem AV.ok{i j:Int}(h:AV i j):IntMulOk i j:=by
 rcases h with⟨h1,h2⟩|⟨h1,h2⟩
 ·exact .of_left (intBits_le_64 h1 h2)
 ·exact .of_right (intBits_le_64 h1 h2)
theorem zZ:kx X (binaryOp .Add) (zz λi j=>.int (i+j)):=Cd λ_ _ _ _ _ _ _ q=>add_int q
theorem zW:kx X (binaryOp .Sub) (zz λi j=>.int (i - j)):=Cd λ_ _ _ _ _ _ _ q=>sub_int q
theorem xq:kx X (binaryOp .Mod) (rI (λ_ j=>j≠0) λi j=>.int (i.fmod j)):=D1 λ_ _ _ _ _ _ _ hc q=>mod_int' hc q
theorem EN{f:Value->Sem Value}{g:Int->Int}
  (rule:∀(i:Int)(t:Tok)(s:Shared)(Q:Value->Shared->Prop)(E:Value->Shared->Prop),Q (.int (g i) s.toks) {s with toks:=s.toks+1}->wpAny (model X.prog X.w) X.A (f (.int i t)) Q E s):
  Eo X f (rU λi=>.int (g i)):=by
 intro pins s σ H x v Q I rx h;obtain⟨i,rfl,q⟩:=h;obtain⟨t,rfl⟩:=rx;exact rule i t s _ _ ⟨.int (g i),H,I.tok _,⟨_,rfl⟩,q⟩
theorem tO:Eo X (unaryOp .USub) (rU λi=>.int (-i)):=EN λ_ _ _ _ _ q=>neg_int q
end
section
variable{X:Cx}{a b c:Expr}{ta tb tc:TE}{pos:Pos}
theorem Ca:kx X (compareOp .Lt) (zz λi j=>.bl (decide (i<j))):=z3 λ_ _ _ _ _ _ _ q=>lt_int q
theorem Cb:kx X (compareOp .LtE) (zz λi j=>.bl (decide (i<=j))):=z3 λ_ _ _ _ _ _ _ q=>le_int q
theorem Cc:kx X (compareOp .Gt) (zz λi j=>.bl (decide (j<i))):=z3 λ_ _ _ _ _ _ _ q=>gt_int q
theorem rG{op:CmpOp}{r:R2}(ho:kx X (compareOp op) r)(ha:PE X a ta)(hb:PE X b tb)(hm:behindInMarks op b=false):PE X (.Compare a [op] [b] pos) (AX r ta tb):=by intro pins s σ H Q I h;exact wpAny_Compare1 (AN ha hb I h λv u s2 x y H2 I2 rx ry q=>ho pins s2 σ H2 x y v u Q I2 rx ry q) hm
noncomputable def tR(t:TE):TT:=λσ H Q=>t σ H λx H'=>∃k,x=.bl k/\Q k H'
theorem rA{op:CmpOp}{r:R2}(ho:kx X (compareOp op) r)(ha:PE X a ta)(hb:PE X b tb)(hm:behindInMarks op b=false):PT X (.Compare a [op] [b] pos) (tR (AX r ta tb)):=by
 intro pins s σ H Q I h
 refine wpAny_isTrue_Compare1 (bQ (ha pins s σ H _ I h) λv s1 ⟨x,H1,I1,r1,q1⟩=>bQ (hb pins s1 σ H1 _ I1 q1) λu s2 ⟨y,H2,I2,r2,q2⟩=>
  bQ (ho pins s2 σ H2 x y v u _ I2 r1 r2 q2) λc s3 ⟨z,H3,I3,r3,k,e,q3⟩=>?_) hm
 subst e;cases r3;exact wpAny_truthy_bool ⟨H3,I3,q3⟩
noncomputable def pR(r r':R2)(ta tb tc:TE):TE:=λσ H Q=>ta σ H λx H1=>tb σ H1 λy H2=>r x y H2 λz H3=>∃k,z=.bl k/\
 (if k=true then tc σ H3 λw' H4=>r' y w' H4 Q else Q (.bl false) H3)
theorem uW{op op':CmpOp}{r r':R2}(ho:kx X (compareOp op) r)(ho':kx X (compareOp op') r')(ha:PE X a ta)(hb:PE X b tb)(hc:PE X c tc)
  (hm:lastMarks [op,op'] [b,c]=false:=by with_unfolding_all rfl):PE X (.Compare a [op,op'] [b,c] pos) (pR r r' ta tb tc):=by
 intro pins s σ H Q I h
 refine Compare_chain (bQ (ha pins s σ H _ I h) λv s1 ⟨x,H1,I1,r1,q1⟩=>chain_link (bQ (hb pins s1 σ H1 _ I1 q1) λu s2 ⟨y,H2,I2,r2,q2⟩=>
  bQ (ho pins s2 σ H2 x y v u _ I2 r1 r2 q2) λd s3 ⟨z,H3,I3,r3,k,e,q3⟩=>?_)) hm
 subst e;cases r3;refine wpAny_truthy_bool ?_;cases k with
 |false=>exact ite_ff ⟨.bl false,H3,I3,rfl,q3⟩
 |true=>exact ite_tt (chain_last (bQ (hc pins s3 σ H3 _ I3 q3) λw' s4 ⟨z',H4,I4,r4,q4⟩=>ho' pins s4 σ H4 y z' u w' Q I4 r2 r4 q4))
theorem uH{op op':CmpOp}{r r':R2}(ho:kx X (compareOp op) r)(ho':kx X (compareOp op') r')(ha:PE X a ta)(hb:PE X b tb)(hc:PE X c tc)
  (hm:lastMarks [op,op'] [b,c]=false:=by with_unfolding_all rfl):PT X (.Compare a [op,op'] [b,c] pos) (tR (pR r r' ta tb tc)):=by
 intro pins s σ H Q I h
 refine isTrue_chain (bQ (ha pins s σ H _ I h) λv s1 ⟨x,H1,I1,r1,q1⟩=>test_link (bQ (hb pins s1 σ H1 _ I1 q1) λu s2 ⟨y,H2,I2,r2,q2⟩=>
  bQ (ho pins s2 σ H2 x y v u _ I2 r1 r2 q2) λd s3 ⟨z,H3,I3,r3,k,e,q3⟩=>?_)) hm
 subst e;cases r3;refine wpAny_truthy_bool ?_;cases k with
 |false=>obtain⟨k',e',q'⟩:=q3;cases e';exact ite_ff ⟨H3,I3,q'⟩
 |true=>refine ite_tt (test_last (bQ (hc pins s3 σ H3 _ I3 q3) λw' s4 ⟨z',H4,I4,r4,q4⟩=>bQ (ho' pins s4 σ H4 y z' u w' _ I4 r2 r4 q4) λd' s5 hp=>?_));obtain⟨z2,H5,I5,r5,k2,e2,q5⟩:=hp;subst e2;cases r5;exact wpAny_truthy_bool ⟨H5,I5,q5⟩
theorem nD:(sizeLine:Nat)<2^63:=by rw[sizeLine_eq];decide
theorem vals1{x:V}(r:bm [x] us):∃u,us=[u]/\RelV x u:=by
 cases r with
 |cons r1 r2=>cases r2;exact⟨_,rfl,r1⟩
end
structure ObjM(h:Heap)(x dx C:Addr)(mA:Str->Option Value):Prop where
 obj:h.get? x=some (PySem.W.instObj C dx)
 ns:h.Ns1 dx mA
 ne:dx≠x
theorem sL(n:h.Ns1 dx mA):∃od,h.get? dx=some od/\∀name,PySem.W.lookIn name od=some (mA name):=by
 obtain⟨o,es,ep,ho,hd,hk,_,hm⟩:=n;refine⟨o,ho,λname=>?_⟩;have e:=hm name;unfold nsFind findBy at e;rw[<-Array.find?_toList] at e;unfold PySem.W.lookIn;rw[hd];dsimp only;split
 ·rename_i y q;rw[q] at e;exact congrArg some e
 ·rename_i q;rw[q] at e
  have a:es.toList.any (·.refKey)=false:=by rw[List.any_eq_false];intro y hy;obtain⟨z,t,hkey⟩:=hk y (Array.mem_toList_iff.mp hy);simp[DictEntry.refKey,hkey]
  have a':¬es.toList.any (·.refKey)=true:=by rw[a];exact au
  rw[if_neg a'];exact congrArg some e
theorem ObjM.look{x:Addr}(I:ObjM h x dx C mA):∃od,PySem.W.InstAt h x (PySem.W.instObj C dx) C (some od)/\∀name,PySem.W.lookIn name od=some (mA name):=
 let⟨od,ho,hl⟩:=sL I.ns
 ⟨od,⟨I.obj,rfl,rfl,ho⟩,hl⟩
section
variable{prog:Program}{w:World}{A:Around}{E:Value->Shared->Prop}{s:Shared}{K:al}{x dx C f:Addr}{mA:Str->Option Value}{name:Str}{v:Value}
theorem xG{expr:Bool}(X:K.In s.heap)(I:ObjM s.heap x dx C mA)(hg:PySem.W.plainGet K C name=true)(hh:PySem.W.hasDictIn K C=true)
  (ha:PySem.W.findIn K (.ref C) name=some none)(hv:mA name=some v)(hv':PySem.W.handedIn v=true)(h:Q v {s with toks:=s.toks+1}):
  wpAny (model prog w) A (getAttr (.ref x) name expr) Q E s:=by
 obtain⟨od,J,hl⟩:=I.look;exact PySem.W.get_value X J (PySem.W.plainGet_of hg).1 (PySem.W.findObj_own hh ha rfl (by rw[hl,hv])) hv' h
theorem vA{pl:Sem Bool}{Q:Value×List Value->Shared->Prop}(X:K.In s.heap)(I:ObjM s.heap x dx C mA)(hg:PySem.W.plainGet K C name=true)
  (hf:PySem.W.findIn K (.ref C) name=some (some (.ref f)))(ht:PySem.W.isFn K (.ref f)=true)(hv:mA name=none)(h:Q (.ref f,[.ref x]) s):
  wpAny (model prog w) A (getMethod (.ref x) name pl) Q E s:=by
 obtain⟨od,J,hl⟩:=I.look;exact PySem.W.method_fn X J (PySem.W.plainGet_of hg).1 (PySem.W.plainGet_of hg).2 hf (beq_iff_eq.mp ht) (by show(PySem.W.lookIn name od).map (·.isSome)=some false;rw[hl,hv];rfl) h
theorem wQ{ns:List Str}{Q:Unit->Shared->Prop}(X:K.In s.heap)(I:ObjM s.heap x dx C mA)
  (hs:PySem.W.findIn K (.ref C) "__setattr__"=some (some (.builtin "object.__setattr__"))) (hp:PySem.W.plainOver K C=true)(ht:PySem.W.takerIn K C name=some none)(hh:PySem.W.hasDictIn K C=true)
  (hw:PySem.Within mA ns)(hsz:ns.length<=sizeLine)
  (h:∀h',ObjM h' x dx C (λy=>if y=name then some v else mA y)->Heap.SameBut dx s.heap h'->Q () {s with heap:=h',toks:=s.toks+2}):
  wpAny (model prog w) A (setAttr (.ref x) name v) Q E s:=by
 obtain⟨od,J,hl⟩:=I.look;refine PySem.W.set_plain X J hs (PySem.W.osa_open (s:={s with toks:=s.toks+1}) (r:=none) X J hp ht λb=>?_);obtain⟨cd,hc,hd'⟩:=PySem.W.any_some hh;have hx:s.heap.get? x=some ⟨.ref C,some dx,.plain,#[]⟩:=I.obj;refine aa (af (aa (aa (wpAny_loadPart hx (aa (PySem.W.Looks.here (s:={s with toks:=s.toks+1}) (PySem.W.looks_clsIn X hc) ?_))))));rw[hd'];refine af (a:=some dx) (aa (af (aa ?_)));refine wpAny_nsSet1 (s:={s with toks:=s.toks+1}) I.ns λh' hn2 hs2=>?_;obtain⟨oD,esD,epD,hoD,hdD,hcD⟩:=hn2.count (PySem.Within.cons name v hw);refine aa (wpAny_lookBehind hoD (by rw[hdD];exact pastItsLine_dict (aT hcD (by rw[List.length_cons];omega))) ?_)
 exact af (h _ ⟨(hs2.2 _ (Ne.symm I.ne)).trans I.obj,hn2,I.ne⟩ hs2)
theorem u6{R:Result->Shared->Prop}{vs:List Value}(X:K.In s.heap)(hm:PySem.W.makesIn K C=true)
  (hi:PySem.W.findIn K (.ref C) "__init__"=some (some (.ref f))) (hf:PySem.W.typeIn K (.ref f)=some (.type "function"))
  (h:codeAny (model prog w) (A.under (.builtin "type.__call__" ⟨.ref C::vs,kw⟩)) (.call (.ref f) ⟨.ref (s.heap.objs.size+1)::vs,kw⟩) (PySem.W.InitBack (s.heap.objs.size+1) R)
   {s with heap:=(s.heap.push PySem.W.emptyDict).push (PySem.W.instObj C s.heap.objs.size)}):
  codeAny (model prog w) A (.call (.ref C) ⟨vs,kw⟩) R s:=by
 obtain⟨hh,g,d,t,os⟩:=s;exact PySem.W.make_core (PySem.W.makes_of X hm) (PySem.W.looks_findIn X hi) (λself=>PySem.W.bind_fn X self hf) (.inl rfl) h
end
noncomputable def eE(f:Str)(v:V):List (Str×V)->List (Str×V)
 |[]=>[(f,v)]
 |(g,x)::r=>if g=f then(g,v)::r else(g,x)::eE f v r
theorem jR(f g:Str)(v:V):∀fs:List (Str×V),(eE f v fs).lookup g=if g=f then some v else fs.lookup g
 |[]=>by
  show List.lookup g [(f,v)]=_;by_cases h:g=f
  ·have hb:(g==f)=true:=beq_iff_eq.mpr h;simp only[List.lookup,hb,if_pos h]
  ·have hb:(g==f)=false:=beq_eq_false_iff_ne.mpr h;simp only[List.lookup,hb,if_neg h]
 |(k,x)::r=>by
  have ih:=jR f g v r;rw[show eE f v ((k,x)::r)=(if k=f then(k,v)::r else(k,x)::eE f v r) from rfl]
  by_cases hk:k=f
  ·rw[if_pos hk];by_cases h:g=k
   ·have hb:(g==k)=true:=beq_iff_eq.mpr h;simp only[List.lookup,hb,if_pos (h.trans hk)]
   ·have hb:(g==k)=false:=beq_eq_false_iff_ne.mpr h;simp only[List.lookup,hb,if_neg (λe:g=f=>h (e.trans hk.symm))]
  ·rw[if_neg hk];by_cases h:g=k
   ·have hb:(g==k)=true:=beq_iff_eq.mpr h;simp only[List.lookup,hb,if_neg (λe:g=f=>hk (h.symm.trans e))]
   ·have hb:(g==k)=false:=beq_eq_false_iff_ne.mpr h;simp only[List.lookup,hb];exact ih
theorem jC(f:Str)(v:V):∀fs:List (Str×V),f∈(eE f v fs).map (·.1)/\∀g,g∈fs.map (·.1)->g∈(eE f v fs).map (·.1)
 |[]=>⟨by simp[eE],λg h=>by simp at h⟩
 |(k,x)::r=>by
  obtain⟨i1,i2⟩:=jC f v r;rw[show eE f v ((k,x)::r)=(if k=f then(k,v)::r else(k,x)::eE f v r) from rfl]
  by_cases hk:k=f
  ·rw[if_pos hk];subst hk;exact⟨by simp,λg h=>by simpa using h⟩
  ·rw[if_neg hk];refine⟨?_,λg h=>?_⟩
   ·rw[List.map_cons];exact List.mem_cons_of_mem _ i1
   ·rw[List.map_cons] at h ⊢;rcases List.mem_cons.mp h with e|e
    ·exact List.mem_cons.mpr (.inl e)
    ·exact List.mem_cons_of_mem _ (i2 g e)
theorem gX(f:Str)(v:V):∀fs:List (Str×V),(eE f v fs).length<=fs.length+1
 |[]=>by simp[eE]
 |(k,x)::r=>by
  have ih:=gX f v r;rw[show eE f v ((k,x)::r)=(if k=f then(k,v)::r else(k,x)::eE f v r) from rfl]
  by_cases hk:k=f
  ·rw[if_pos hk,List.length_cons,List.length_cons];omega
  ·rw[if_neg hk,List.length_cons,List.length_cons];omega
theorem iA.some_of{v:V}{o:Option Value}(r:iA (some v) o):∃u,o=some u/\RelV v u:=by
 cases o with
 |none=>exact(show False from r).elim
 |some u=>exact⟨u,rfl,r⟩
theorem iA.none_of{o:Option Value}(r:iA none o):o=none:=by
 cases o with
 |none=>rfl
 |some u=>exact(show False from r).elim
theorem sQ{v:V}(r:RelV v u):PySem.W.handedIn u=true:=by
 cases v with
 |non=>cases(show u=Value.none from r);rfl
 |bl b=>cases(show u=Value.bool b from r);rfl
 |int i=>obtain⟨t,e⟩:=(show ∃t,u=Value.int i t from r);cases e;rfl
 |str x=>obtain⟨t,e⟩:=(show ∃t,u=Value.str x t from r);cases e;rfl
 |byt b=>obtain⟨t,e⟩:=(show ∃t,u=Value.bytes b t from r);cases e;rfl
 |flt b=>obtain⟨t,e⟩:=(show ∃t,u=Value.float b t from r);cases e;rfl
 |ref a=>cases(show u=Value.ref a from r);rfl
 |ty n=>cases(show u=Value.type n from r);rfl
section
variable{P:Program}{w:World}{H:Hp}{h:Heap}{a C dx:Addr}{fs:List (Str×V)}
theorem nG(hok:iI P w H h)(e:H a=some (.ins C dx fs)):∃mA,ObjM h a dx C mA/\(∀f,iA (fs.lookup f) (mA f))/\PySem.Within mA (fs.map (·.1))/\fs.length<=1000/\H dx=some (.own a):=by obtain⟨d,z,ne,ob,mA,n,r,q⟩:=(show cN P w H h a (.ins C dx fs) from hok a _ e);exact⟨mA,⟨ob,n,ne⟩,r,q,z,d⟩
end
structure Cls(K:al)(C:Addr):Prop where
 pg:PySem.W.plainGet K C Str.empty=true
 hd:PySem.W.hasDictIn K C=true
 po:PySem.W.plainOver K C=true
 sa:PySem.W.findIn K (.ref C) "__setattr__"=some (some (.builtin "object.__setattr__"))
theorem Cls.get{K:al}(c:Cls K C)(f:Str):PySem.W.plainGet K C f=true:=c.pg
noncomputable def fH(K:al)(C:Addr)(f:Str):Prop:=PySem.W.findIn K (.ref C) f=some none
theorem fH.taker{K:al}{f:Str}(n:fH K C f):PySem.W.takerIn K C f=some none:=by unfold PySem.W.takerIn;rw[show PySem.W.findIn K (.ref C) f=some none from n];rfl
structure Meth(K:al)(C:Addr)(m:Str)(f:Addr):Prop where
 at_:PySem.W.findIn K (.ref C) m=some (some (.ref f))
 fn:PySem.W.isFn K (.ref f)=true
 kp:PySem.W.keepIn K (.ref f)=true
section
variable{X:Cx}{pins:List (Addr×Obj)}{σ:St}{H:Hp}{s:Shared}{a C dx:Addr}{fs:List (Str×V)}{f:Str}{v:V}{A:Around}{E:Value->Shared->Prop}
theorem ls{b:Bool}(I:Inv X pins σ H s)(e:H a=some (.ins C dx fs))(c:Cls X.K C)(n:fH X.K C f)(l:fs.lookup f=some v)
  (h:∀u s',Inv X pins σ H s'->RelV v u->Q u s'):wpAny (model X.prog X.w) A (getAttr (.ref a) f b) Q E s:=by
 obtain⟨mA,O,r,_,_,_⟩:=nG I.hok e;obtain⟨u,hu,ru⟩:=iA.some_of (v:=v) (o:=mA f) (by rw[<-l];exact r f)
 exact xG I.kIn O (c.get f) c.hd n hu (sQ ru) (h u _ (I.tok _) ru)
theorem lq{m:Str}{g:Addr}{pl:Sem Bool}{Q:Value×List Value->Shared->Prop}(I:Inv X pins σ H s)(e:H a=some (.ins C dx fs))(c:Cls X.K C)(k:Meth X.K C m g)(l:fs.lookup m=none)
  (h:Q (.ref g,[.ref a]) s):wpAny (model X.prog X.w) A (getMethod (.ref a) m pl) Q E s:=by
 obtain⟨mA,O,r,_,_,_⟩:=nG I.hok e;have hn:mA m=none:=iA.none_of (by rw[<-l];exact r m)
 exact vA I.kIn O (c.get m) k.at_ k.fn hn h
theorem kQ{y:V}{Q:Unit->Shared->Prop}(I:Inv X pins σ H s)(e:H a=some (.ins C dx fs))(c:Cls X.K C)(n:fH X.K C f)(hl:fs.length<1000)(ry:RelV y u)
  (h:∀s',Inv X pins σ (bx H a (.ins C dx (eE f y fs))) s'->Q () s'):wpAny (model X.prog X.w) A (setAttr (.ref a) f u) Q E s:=by
 obtain⟨mA,O,r,wi,_,ho⟩:=nG I.hok e;have hz:(fs.map (·.1)).length<=sizeLine:=by rw[List.length_map,sizeLine_eq];omega
 refine wQ I.kIn O c.sa c.po n.taker c.hd wi hz λh' O' sb=>h _ ?_;have hd:∃o,h'.get? dx=some o:=let⟨o,_,_,e',_⟩:=O'.ns;⟨o,e'⟩;refine I.write (x:=a) (e:=dx) (by rw[e];exact True.intro) (.inr ho) (λb q hb z=>(sb.2 b hb).trans z) hd ?_
 refine⟨by rw[aD O.ne];exact ho,?_,O.ne,O'.obj,_,O'.ns,λg=>?_,λg hg=>?_⟩
 ·have:=gX f y fs;omega
 ·show iA ((eE f y fs).lookup g) (if g=f then some u else mA g)
  rw[jR];by_cases q:g=f
  ·rw[if_pos q,if_pos q];exact ry
  ·rw[if_neg q,if_neg q];exact r g
 ·by_cases q:g=f
  ·rw[q];exact(jC f y fs).1
  ·refine(jC f y fs).2 g (wi g λz=>hg ?_);show(if g=f then some u else mA g)=none
   rw[if_neg q];exact z
theorem Inv.made(I:Inv X pins σ H s):Inv X pins σ (bx (bx H s.heap.objs.size (.own (s.heap.objs.size+1))) (s.heap.objs.size+1) (.ins C s.heap.objs.size []))
  {s with heap:=(s.heap.push PySem.W.emptyDict).push (PySem.W.instObj C s.heap.objs.size)}:=by
 have e1:(s.heap.push PySem.W.emptyDict).get? s.heap.objs.size=some PySem.W.emptyDict:=ak s.heap rfl
 have e2:((s.heap.push PySem.W.emptyDict).push (PySem.W.instObj C s.heap.objs.size)).get? (s.heap.objs.size+1)=some (PySem.W.instObj C s.heap.objs.size):=by have:=ak (s.heap.push PySem.W.emptyDict) (o:=PySem.W.instObj C s.heap.objs.size) rfl;rwa [Heap.size_push] at this
 have e3:(s.heap.push PySem.W.emptyDict).Ns s.heap.objs.size (λ_=>none):=⟨PySem.W.emptyDict,#[],_,e1,rfl,(λe he=>absurd he (by simp)),λ_=>rfl⟩
 have I1:=I.laid (a:=s.heap.objs.size) (o:= .own (s.heap.objs.size+1)) (h':=s.heap.push PySem.W.emptyDict) (t':=s.toks) (λb u q=>ac _ q) (ae _) ⟨_,e1⟩;refine I1.laid (a:=s.heap.objs.size+1) (o:= .ins C s.heap.objs.size []) (t':=s.toks) (λb u q=>ac _ q) (Nat.le_of_eq (Heap.size_push _ _)) ?_;have ne:s.heap.objs.size≠s.heap.objs.size+1:=aj (aI _);refine⟨by rw[aD ne,bw],Nat.zero_le _,ne,e2,λ_=>none,(Heap.Ns1.of_empty e3).at λo q=>ac _ q,λ_=>True.intro,λy hy=>absurd rfl hy⟩
theorem x6{prog:Program}{env:Env}{f:Str}{s:Shared}(hb:attributeBase e f env (eval e env)=eval e env)
  (h:wpAny (model prog w) A (eval e env) (λo s₁=>wpAny (model prog w) A (getAttr o f true) Q E s₁) E s):wpAny (model prog w) A (eval (.Attribute e f pos) env) Q E s:=
 Attribute_any_ h (by rw[arm_eval_Attribute,hb])
end
noncomputable def DH(K:al)(ta:TE)(f:Str):TE:=λσ H Q=>ta σ H λx H1=>∃a C dx fs v,x=.ref a/\H1 a=some (.ins C dx fs)/\Cls K C/\fH K C f/\fs.lookup f=some v/\Q v H1
noncomputable def DR(K:al)(ta tv:TE)(f:Str):TS:=λD σ H=>tv σ H λy H1=>ta σ H1 λx H2=>∃a C dx fs,x=.ref a/\H2 a=some (.ins C dx fs)/\Cls K C/\fH K C f/\fs.length<1000/\
 D.nx σ (bx H2 a (.ins C dx (eE f y fs)))
noncomputable def De(X:Cx)(op:Operator)(rd:V->V->Hp->VK->Prop):Prop:=
 ∀(pins:List (Addr×Obj))(s:Shared)(σ:St)(H:Hp)(x y:V)(u v:Value)(Q:VK),Inv X pins σ H s->RelV x u->RelV y v->rd x y H Q->wpAny (model X.prog X.w) X.A (inplaceOp op u v) (EP X pins σ Q) X.xe s
noncomputable def w9(K:al)(ta tv:TE)(rd:V->V->Hp->VK->Prop)(f:Str):TS:=λD σ H=>ta σ H λx H1=>∃a C dx fs v,x=.ref a/\H1 a=some (.ins C dx fs)/\Cls K C/\fH K C f/\fs.lookup f=some v/\
 tv σ H1 λy H2=>rd v y H2 λz H3=>∃dx' fs',H3 a=some (.ins C dx' fs')/\fs'.length<1000/\D.nx σ (bx H3 a (.ins C dx' (eE f z fs')))
section
variable{X:Cx}{o e value:Expr}{f:Str}{pos pos' tpos:Pos}{ta tv:TE}
theorem zU(he:PE X e ta)(hb:attributeBase e f X.env (eval e X.env)=eval e X.env):PE X (.Attribute e f pos) (DH X.K ta f):=by intro pins s σ H Q I h;refine x6 hb (bQ (he pins s σ H _ I h) λu s1 hp=>?_);obtain⟨x,H1,I1,rx,a,C,dx,fs,v,ex,ea,c,n,l,q⟩:=hp;subst ex;obtain rfl:u=Value.ref a:=rx;exact ls I1 ea c n l λu' s2 I2 ru=>⟨v,H1,I2,ru,q⟩
theorem zL(ha:PE X o ta)(hv:PE X value tv)(hs:swapsWith value (some (.Attribute o f pos')) pos.line X.env=pure false):PS X (.Assign [.Attribute o f pos'] value pos) (DR X.K ta tv f):=by intro pins s σ H D I h;refine plainObj_wpAny_Assign_Attribute (bQ (hv pins s σ H _ I h) λu s1 ⟨y,H1,I1,ry,q⟩=>bQ (ha pins s1 σ H1 _ I1 q) λov s2 ⟨x,H2,I2,rx,a,C,dx,fs,ex,ea,c,n,l,q2⟩=>?_) hs;subst ex;obtain rfl:ov=Value.ref a:=rx;exact kQ I2 ea c n l ry λs3 I3=>⟨σ,_,I3,q2⟩
theorem sA{op:Operator}{rd:V->V->Hp->VK->Prop}(ha:PE X o ta)(hv:PE X value tv)(hop:De X op rd):PS X (.AugAssign (.Attribute o f tpos) op value pos) (w9 X.K ta tv rd f):=by intro pins s σ H D I h;refine wpAny_AugAssign_AttributeAny (bQ (ha pins s σ H _ I h) λov s1 hp=>?_);obtain⟨x,H1,I1,rx,a,C,dx,fs,v,ex,ea,c,n,l,q⟩:=hp;subst ex;obtain rfl:ov=Value.ref a:=rx;refine ls I1 ea c n l λu s2 I2 ru=>bQ (hv pins s2 σ H1 _ I2 q) λw3 s3 ⟨y,H2,I3,ry,q3⟩=>bQ (hop pins s3 σ H2 v y u w3 _ I3 ru ry q3) λw4 s4 hp=>?_;obtain⟨z,H3,I4,rz,dx',fs',ea',l',q4⟩:=hp;exact kQ I4 ea' c n l' rz λs5 I5=>⟨σ,_,I5,q4⟩
noncomputable def D0:V->V->Hp->VK->Prop:=λx y H Q=>∃i j,x=.int i/\y=.int j/\Q (.int (i+j)) H
theorem Ap:De X .Add D0:=by rintro pins s σ H x y u v Q I rx ry ⟨i,j,rfl,rfl,q⟩;obtain⟨t,rfl⟩:=(show ∃t,u=Value.int i t from rx);obtain⟨t',rfl⟩:=(show ∃t',v=Value.int j t' from ry);exact PyProof.Rows.iadd_int ⟨.int (i+j),H,I.tok _,⟨_,rfl⟩,q⟩
end
section
end
structure Room(k:Nat)(A:Around):Prop where
 hd:A.handled=none
 dp:A.depth+3*k+5<recursionLimit
 un:A.units+16*k+200<cLine
theorem Room.mono{k:Nat}(r:Room k A)(h:j<=k):Room j A:=⟨r.hd,by have:=r.dp;omega,by have:=r.un;omega⟩
theorem Room.deeper{k:Nat}(r:Room (k+1) A)(env:Env):Room k (A.deeper env):=
 ⟨r.hd,by have:=r.dp;show A.depth+1+3*k+5<_;omega,by have:=r.un;show A.units+3+16*k+200<_;omega⟩
theorem qg:(A.under (.builtin "type.__call__" ⟨.ref C::us,kw⟩)).depth=A.depth+1:=by
 first|rfl|simp[Around.under,Code.weight,Code.isCreation,Code.isGuard,Code.isCaller,Code.frames,Code.isFrame,guardIds]
theorem qf:(A.under (.builtin "type.__call__" ⟨.ref C::us,kw⟩)).units=A.units+1:=by
 first|rfl|simp[Around.under,Code.cUnits,Code.frames,Code.isFrame]
theorem Room.make{k:Nat}(r:Room (k+1) A)(C:Addr)(us:List Value)(kw:List (Str×Value)):Room k (A.under (.builtin "type.__call__" ⟨.ref C::us,kw⟩)):=
 ⟨r.hd,by have:=r.dp;rw[qg];omega,by have:=r.un;rw[qf];omega⟩
theorem Room.depth{k:Nat}(r:Room k A):A.depth<recursionLimit:=by have:=r.dp;omega
noncomputable def tU:TA:=λ_ H Q=>Q [] H
noncomputable def qR(ta:TE)(tr:TA):TA:=λσ H Q=>ta σ H λx H1=>tr σ H1 λxs H2=>Q (x::xs) H2
section
variable{X:Cx}{e:Expr}{es:List Expr}{te:TE}{t:TA}{pos:Pos}
theorem dP:PA X [] tU:=λ_ _ _ _ H Q I h=>Calls.spliced_nil ⟨[],H,I,.nil,h⟩
theorem bZ(ha:PE X e te)(hr:PA X es t)(hs:starEach (e::es) X.env=(false,eval e X.env)::starEach es X.env:=by rfl):PA X (e::es) (qR te t):=by intro pos pins s σ H Q I h;rw[hs];show wpAny _ _ (spliced ((false,eval e X.env)::backTo pos (starEach es X.env))) _ _ s;refine Calls.spliced_cons (bQ (ha pins s σ H _ I h) λu s1 hp=>?_);obtain⟨x,H1,I1,r1,q1⟩:=hp;exact bQ (hr pos pins s1 σ H1 _ I1 q1) λus s2 ⟨xs,H2,I2,r2,q2⟩=>⟨x::xs,H2,I2,.cons r1 r2,q2⟩
noncomputable def Dz(t:TA):TE:=λσ H Q=>t σ H λxs H1=>xs.length<=sizeLine/\∀p,H1 p=none->Q (.ref p) (bx H1 p (.tup xs))
noncomputable def DE(t:TA):TE:=λσ H Q=>t σ H λxs H1=>xs.length<=sizeLine/\∀p,H1 p=none->Q (.ref p) (bx H1 p (.lst xs))
theorem zP{x1}(h:PA X es t):PE X (.Tuple es x1 pos) (Dz t):=by
 intro pins s σ H Q I hq;refine wpAny_Tuple_spliced (bQ (h pos pins s σ H _ I hq) λus s1 ⟨xs,H1,I1,r,z,q⟩=>⟨by rw[<-r.length];exact z,?_⟩)
 have hf:H1 s1.heap.objs.size=none:=I1.hok.fresh (ae _);refine⟨.ref s1.heap.objs.size,bx H1 s1.heap.objs.size (.tup xs),I1.laid (t':=s1.toks) (λb u e=>ac _ e) (ae _) ?_,rfl,q _ hf⟩;exact⟨z,us,r,⟨_,ak _ rfl,rfl,_,rfl⟩⟩
theorem zT(h:PA X es t):PE X (.List es pos) (DE t):=by
 intro pins s σ H Q I hq;refine wpAny_List_spliced (bQ (h pos pins s σ H _ I hq) λus s1 ⟨xs,H1,I1,r,z,q⟩=>⟨by rw[<-r.length];exact z,?_⟩)
 have hf:H1 s1.heap.objs.size=none:=I1.hok.fresh (ae _);refine⟨.ref s1.heap.objs.size,bx H1 s1.heap.objs.size (.lst xs),I1.laid (t':=s1.toks) (λb u e=>ac _ e) (ae _) ?_,rfl,q _ hf⟩;exact⟨z,us,0,r,ak _ rfl⟩
end
noncomputable abbrev Sp:=List V->Hp->VK->XK->Prop
noncomputable abbrev v_:=List Env->Hp->Shared->XK->Value->Shared->Prop
structure Env0(P:Program)(w:World)(K:al)(mg:Str->Option Value)(base:Heap)(A:Around)(outer:List Env)(s:Shared)(H:Hp):Prop where
 frames:A.frames=some outer
 mod:Mod K mg base
 bs:∀b o,base.get? b=some o->s.heap.get? b=some o/\H b=none
 bsz:base.objs.size<=s.heap.objs.size
 funs:s.heap.FunFrames base outer
 frf:∀b∈sS outer,H b=none
 hok:iI P w H s.heap
 bare:AllBare s.gens
noncomputable def CE(outer:List Env)(P:Program)(w:World)(H:Hp)(s:Shared)(Q:VK)(u:Value)(s':Shared):Prop:=
 ∃v H',s'.os=s.os/\AllBare s'.gens/\Un (sS outer) [] H H' s.heap s'.heap/\iI P w H' s'.heap/\RelV v u/\Q v H'
noncomputable def CR(CX:v_)(outer:List Env)(P:Program)(w:World)(H:Hp)(s:Shared)(Q:VK)(E:XK)(r:Result)(s':Shared):Prop:=
 match r with
 | .ok (.ret u)=>CE outer P w H s Q u s'
 | .ok _=>False
 | .error e=>CX outer H s E e s'
structure FnOk(P:Program)(w:World)(K:al)(mg:Str->Option Value)(base:Heap)(CX:v_)(k:Nat)(f:Addr)(fd:FuncData)(ps:List Str)(sp:Sp):Prop where
 len:∀vs H Q E,sp vs H Q E->vs.length=ps.length
 run:∀(A:Around)(outer:List Env)(s:Shared)(H:Hp)(args:Args)(us:List Value) (vs:List V)(Q:VK)(E:XK),Room k A->Env0 P w K mg base A outer s H->BindsTo s fd args (ps.zip us)->bm vs us->sp vs H Q E->
  codeAny (model P w) A (.call (.ref f) args) (CR CX outer P w H s Q E) s
theorem FnOk.imp{K:al}{CX:v_}{k:Nat}{f:Addr}{fd:FuncData}{ps:List Str}{sp sp':Sp}(F:FnOk P w K mg base CX k f fd ps sp)
  (h:∀vs H Q E,sp' vs H Q E->sp vs H Q E):FnOk P w K mg base CX k f fd ps sp':=
 ⟨λvs H Q E q=>F.len vs H Q E (h _ _ _ _ q),λA outer s H args us vs Q E hr he hb hv hs=>F.run A outer s H args us vs Q E hr he hb hv (h _ _ _ _ hs)⟩
theorem Env0.make{K:al}{outer:List Env}{H:Hp}(e:Env0 P w K mg base A outer s H)(C:Addr)(us:List Value)(kw:List (Str×Value)):
  Env0 P w K mg base (A.under (.builtin "type.__call__" ⟨.ref C::us,kw⟩)) outer s H:=⟨by first|exact e.frames|(simpa[Around.under,Code.envs,Code.isFrame,pushEnvs] using e.frames),e.mod,e.bs,e.bsz,e.funs,e.frf,e.hok,e.bare⟩
section
variable{X:Cx}{pins:List (Addr×Obj)}{σ:St}{H:Hp}{s s':Shared}
theorem Inv.env0(I:Inv X pins σ H s):Env0 X.prog X.w X.K X.mg X.base X.A X.stack s H:=
 ⟨I.ok.frames,I.ok.mod,I.bs,aT I.ok.bsz I.sz,I.stack,I.stkFree,I.hok,I.bare⟩
theorem Inv.after{Q:VK}(I:Inv X pins σ H s)(h:CE X.stack X.prog X.w H s Q u s'):EP X pins σ Q u s':=by
 obtain⟨v,H',os,bare,un,hok,r,q⟩:=h;obtain⟨hh,g,d,t,os'⟩:=s';obtain rfl:os'=s.os:=os;exact⟨v,H',I.call (h':=hh) (g':=g) (d':=d) (t':=t) (ch:=[]) un hok bare (λb z=>absurd z (by simp)),r,q⟩
end
noncomputable def BD(sp:Sp)(dvs:List V)(E:XK)(t:TA):TE:=λσ H Q=>t σ H λvs H1=>sp (vs++dvs) H1 Q E
noncomputable def BA(C:Addr)(sp:Sp)(dvs:List V)(E:XK)(t:TA):TE:=λσ H Q=>t σ H λvs H1=>∀x dx,H1 x=none->H1 dx=none->dx≠x->
 sp (.ref x::(vs++dvs)) (bx (bx H1 dx (.own x)) x (.ins C dx [])) (λv H2=>v=.non/\Q (.ref x) H2) E
noncomputable def Binds(K:al)(fd:FuncData)(ps:List Str)(ds:List Value):Prop:=
 ∀(s:Shared)(us:List Value),K.In s.heap->(us++ds).length=ps.length->BindsTo s fd ⟨us,[]⟩ (ps.zip (us++ds))
theorem Binds.all{K:al}{fd:FuncData}{ps:List Str}(h:∀us:List Value,us.length=ps.length->bindArgs fd ⟨us,[]⟩=pure (ps.zip us)):Binds K fd ps []:=λs us _ hl=>by rw[List.append_nil] at hl ⊢;exact .of_eq (h us hl)
noncomputable def lT(CX:v_)(X:Cx)(E:XK):Prop:=∀(pins:List (Addr×Obj))(σ:St)(H:Hp)(s:Shared)(e:Value)(s':Shared),Inv X pins σ H s->CX X.stack H s E e s'->X.xe e s'
section
variable{X:Cx}{CX:v_}{k:Nat}{f C:Addr}{fd:FuncData}{ps:List Str}{sp:Sp}{dvs:List V}{ds:List Value}{E:XK}{x:Str}{p pos:Pos}{e:Expr}{es:List Expr}{t:TA}
theorem zx{σ:St}{H:Hp}{Q:VK}{vs:List V}(F:FnOk X.prog X.w X.K X.mg X.base CX k f fd ps sp)(hr:Room k X.A)(hb:Binds X.K fd ps ds)(hd:bm dvs ds)(hx:lT CX X E)
  (I:Inv X pins σ H s)(r:bm vs us)(h:sp (vs++dvs) H Q E):wpAny (model X.prog X.w) X.A (call (.ref f) us) (EP X pins σ Q) X.xe s:=by
 have r2:bm (vs++dvs) (us++ds):=r.append hd;have hl:(us++ds).length=ps.length:=by rw[<-r2.length];exact F.len _ _ _ _ h
 refine wpAny_call (codeAny_mono (F.run X.A X.stack s H ⟨us,[]⟩ (us++ds) (vs++dvs) Q E hr I.env0 (hb s us I.kIn hl) r2 h) λr s' hq=>?_);cases r with
 |error e=>exact hx pins σ H s e s' I hq
 |ok fl=>
  cases fl with
  |ret u=>exact I.after hq
  |next=>exact False.elim hq
  |brk=>exact False.elim hq
  |cont=>exact False.elim hq
theorem xn(F:FnOk X.prog X.w X.K X.mg X.base CX k f fd ps sp)(hr:Room k X.A)(hg:Gl X x)(hm:X.mg x=some (.ref f))(hk:PySem.W.keepIn X.K (.ref f)=true)(hb:Binds X.K fd ps ds)(hd:bm dvs ds)(hx:lT CX X E)
  (ha:PA X (e::es) t)(hdb:(x==("__debug__":Str))=false:=by decide) (he:starEach (e::es) X.env=(false,eval e X.env)::starEach es X.env:=by rfl)(hpl:(backTo pos (starEach es X.env)).any (·.1)=false:=by rfl):
  PE X (.Call (.Name x p) (e::es) [] pos) (BD sp dvs E t):=by
 intro pins s σ H Q I h;refine wpAny_Call_Name_kw (ko I hg hm ?_ hdb);refine PySem.W.callWith_K (h₀:=X.base) I.ok.mod.kin hk (bQ (ha pos pins s σ H _ I h) λus s1 ⟨vs,H1,I1,r,q⟩=>⟨I1.kIn,?_⟩) he hpl;exact zx F hr hb hd hx I1 r q
structure Mk(K:al)(C f:Addr):Prop where
 makes:PySem.W.makesIn K C=true
 init:PySem.W.findIn K (.ref C) "__init__"=some (some (.ref f))
 fn:PySem.W.isFn K (.ref f)=true
 kp:PySem.W.keepIn K (.ref C)=true
theorem ur{σ:St}{H:Hp}{Q:VK}{vs:List V}(M:Mk X.K C f)(F:FnOk X.prog X.w X.K X.mg X.base CX k f fd ps sp)(hr:Room (k+1) X.A)(hb:Binds X.K fd ps ds)(hd:bm dvs ds)
  (hx:lT CX X E)(I:Inv X pins σ H s)(r:bm vs us)
  (h:∀x dx,H x=none->H dx=none->dx≠x->sp (.ref x::(vs++dvs)) (bx (bx H dx (.own x)) x (.ins C dx [])) (λv H2=>v=.non/\Q (.ref x) H2) E):
  wpAny (model X.prog X.w) X.A (call (.ref C) us) (EP X pins σ Q) X.xe s:=by
 have hq:=h (s.heap.objs.size+1) s.heap.objs.size (I.hok.fresh (Nat.le_succ _)) (I.hok.fresh (ae _)) (aj (aI _));have I2:=Inv.made (C:=C) I;have r2:bm (V.ref (s.heap.objs.size+1)::(vs++dvs)) (Value.ref (s.heap.objs.size+1)::(us++ds)):= .cons rfl (r.append hd)
 have hl:(Value.ref (s.heap.objs.size+1)::us++ds).length=ps.length:=by have e:=r2.length;rw[F.len _ _ _ _ hq] at e;exact e.symm
 refine wpAny_call (u6 (f:=f) I.kIn M.makes M.init (beq_iff_eq.mp M.fn) (codeAny_mono (F.run _ X.stack _ _ ⟨Value.ref (s.heap.objs.size+1)::us,[]⟩ (Value.ref (s.heap.objs.size+1)::(us++ds)) _ _ E (hr.make C us [])
  (I2.env0.make C us []) (hb _ (Value.ref (s.heap.objs.size+1)::us) I2.kIn hl) r2 hq) λr s' hq'=>?_))
 cases r with
 |error e=>exact hx pins σ _ _ e s' I2 hq'
 |ok fl=>
  cases fl with
  |ret u=>obtain⟨v,H',I3,rv,ev,q3⟩:=I2.after hq';subst ev;exact⟨rv,⟨V.ref (s.heap.objs.size+1),H',I3,rfl,q3⟩⟩
  |next=>exact False.elim hq'
  |brk=>exact False.elim hq'
  |cont=>exact False.elim hq'
theorem xl(M:Mk X.K C f)(F:FnOk X.prog X.w X.K X.mg X.base CX k f fd ps sp)(hr:Room (k+1) X.A)(hg:Gl X x)(hm:X.mg x=some (.ref C))(hb:Binds X.K fd ps ds)(hd:bm dvs ds)(hx:lT CX X E)
  (ha:PA X (e::es) t)(hdb:(x==("__debug__":Str))=false:=by decide) (he:starEach (e::es) X.env=(false,eval e X.env)::starEach es X.env:=by rfl)(hpl:(backTo pos (starEach es X.env)).any (·.1)=false:=by rfl):
  PE X (.Call (.Name x p) (e::es) [] pos) (BA C sp dvs E t):=by
 intro pins s σ H Q I h;refine wpAny_Call_Name_kw (ko I hg hm ?_ hdb);refine PySem.W.callWith_K (h₀:=X.base) I.ok.mod.kin M.kp (bQ (ha pos pins s σ H _ I h) λus s1 ⟨vs,H1,I1,r,q⟩=>⟨I1.kIn,?_⟩) he hpl;exact ur M F hr hb hd hx I1 r q
end
section
end
structure FnScope(N P:List Str)(sc:Scope):Prop where
 kind:sc.kind=.function
 co:sc.isCoroutine=false
 gen:sc.isGenerator=false
 nd:N.Nodup
 pre:N.take P.length=P
 par:∀x∈P,sc.names.lookup x=some .local∨sc.names.lookup x=some .cell
 nofree:∀y∈sc.names,y.2≠ .free
theorem mU{kindOf:Str->Option NameKind}{x:Str}:∀{binds:List (Str×Value)}{m:Str->Option Value},(∀v,(x,v)∉binds)->bindL kindOf binds m x=m x
 |[],_,_=>rfl
 |(n,v)::r,m,h=>by
  unfold bindL;rw[mU λw hw=>h w (List.mem_cons_of_mem _ hw)];split
  ·have:x≠n:=by rintro rfl;exact h v List.mem_cons_self
   simp[this]
  ·rfl
theorem mX{kindOf:Str->Option NameKind}{x:Str}:∀{binds:List (Str×Value)}{m:Str->Option Value},(∀v,(x,v)∉binds)->bindC kindOf binds m x=m x
 |[],_,_=>rfl
 |(n,v)::r,m,h=>by
  unfold bindC;rw[mX λw hw=>h w (List.mem_cons_of_mem _ hw)];split
  ·rfl
  ·have:x≠n:=by rintro rfl;exact h v List.mem_cons_self
   simp[this]
theorem mV{kindOf:Str->Option NameKind}{x:Str}{v:Value}:∀{P:List Str}{vs:List Value}{i:Nat}{m:Str->Option Value},P.Nodup->P[i]? =some x->vs[i]? =some v->kindOf x=some .local->
  bindL kindOf (P.zip vs) m x=some v
 |[],_,_,_,_,h,_,_=>by simp at h
 |_::_,[],_,_,_,_,h,_=>by simp at h
 |p::P,w::vs,0,m,nd,h1,h2,hk=>by simp at h1 h2;subst h1;subst h2;show bindL kindOf ((p,w)::P.zip vs) m p=_;unfold bindL;rw[mU λv hv=>(List.nodup_cons.mp nd).1 (List.of_mem_zip hv).1,if_pos hk];simp
 |p::P,w::vs,i+1,m,nd,h1,h2,hk=>by
  show bindL kindOf ((p,w)::P.zip vs) m x=_;unfold bindL;exact mV (i:=i) (List.nodup_cons.mp nd).2 (by simpa using h1) (by simpa using h2) hk
theorem mY{kindOf:Str->Option NameKind}{x:Str}{v:Value}:∀{P:List Str}{vs:List Value}{i:Nat}{m:Str->Option Value},P.Nodup->P[i]? =some x->vs[i]? =some v->kindOf x≠some .local->
  bindC kindOf (P.zip vs) m x=some v
 |[],_,_,_,_,h,_,_=>by simp at h
 |_::_,[],_,_,_,_,h,_=>by simp at h
 |p::P,w::vs,0,m,nd,h1,h2,hk=>by simp at h1 h2;subst h1;subst h2;show bindC kindOf ((p,w)::P.zip vs) m p=_;unfold bindC;rw[mX λv hv=>(List.nodup_cons.mp nd).1 (List.of_mem_zip hv).1,if_neg hk];simp
 |p::P,w::vs,i+1,m,nd,h1,h2,hk=>by
  show bindC kindOf ((p,w)::P.zip vs) m x=_;unfold bindC;exact mY (i:=i) (List.nodup_cons.mp nd).2 (by simpa using h1) (by simpa using h2) hk
noncomputable def start(N:List Str)(vs:List V):St:=vs.map some++List.replicate (N.length - vs.length) none
noncomputable def qx(CX:v_)(P:Program)(w:World)(K:al)(mg:Str->Option Value)(base:Heap)(N:List Str)(qual:Str)(scope:Scope)(f:Addr)(cd:Value)(A:Around)(outer:List Env)(s:Shared)(H:Hp)(E:XK):Cx where
 prog:=P
 w:=w
 K:=K
 mg:=mg
 base:=base
 A:=A.deeper (envOfC qual scope s.heap.objs.size f cd)
 N:=N
 s₀:=s
 H₀:=H
 env:=envOfC qual scope s.heap.objs.size f cd
 outer:=outer
 stack:=envOfC qual scope s.heap.objs.size f cd::outer
 ex:=[]
 calm:=true
 fn:=λ_=>true
 pn:=[]
 xe:=λe s'=>wpAny (model P w) (A.deeper (envOfC qual scope s.heap.objs.size f cd)) (leaving (envOfC qual scope s.heap.objs.size f cd) e) (λ_ s''=>CX outer H s E e s'') (λe' s''=>CX outer H s E e' s'') s'
theorem pv{sc:Scope}(h:sc.names.lookup x=some .cell):∃c,(cellsFrom n sc.names []).lookup x=some c:=by have q:=PySem.W.cellsFrom_some sc.names n [] (.inl h);exact Option.isSome_iff_exists.mp q
theorem sO{CX:v_}{K:al}{N ps:List Str}{scope:Scope}{f:Addr}{cd:Value}{outer:List Env}{s1:Shared}{H:Hp}{E:XK}{vs:List V}
  (S:FnScope N ps scope)(hd:A.handled=none)(e0:Env0 P w K mg base A outer s H)(hl:vs.length=ps.length)(r:bm vs us)
  (x:InCallC s s.heap.objs.size (bindL (envOfC qual scope s.heap.objs.size f cd).kindOf (ps.zip us) λ_=>none) (cellsFrom (s.heap.objs.size+1) scope.names []) (bindC (envOfC qual scope s.heap.objs.size f cd).kindOf (ps.zip us) λ_=>none) s1):
  Inv (qx CX P w K mg base N qual scope f cd A outer s H E) [] (start N vs) H s1:=by
 have hpl:ps.length<=N.length:=by have:=congrArg List.length S.pre;rw[List.length_take] at this;omega
 obtain⟨h1,tk,rfl,hk⟩:=x.done;have noA:∀b:Addr,b∉(qx CX P w K mg base N qual scope f cd A outer s H E).ex:=λb z=>absurd (show b∈([]:List Addr) from z) (by simp)
 refine⟨⟨e0.mod,S.kind,rfl,rfl,ae _,λy z c h1 h2=>?_,λy hy=>?_,λy c _ h=>?_,λ_=>hd,Around.frames_deeper e0.frames,.inr ⟨rfl,rfl⟩,λb z=>absurd z (noA b),e0.bs,e0.bsz,λb _ _=>noA b,λb z=>absurd z (noA b),e0.funs,e0.frf⟩,
  rfl,e0.bare,Un.kept hk,⟨_,x.toInCall.ns,λi y v h1 h2 h3=>?_⟩,λy c h=>⟨_,x.cell y c h⟩,e0.hok.fresh (ae _),λy c h=>?_,λp hp=>absurd (show p∈([]:List (Addr×Obj)) from hp) (by simp),e0.hok.kept hk,?_⟩
 ·exact name_of_addr x.apart (az h1) (az h2)
 ·have hy:scope.names.lookup y=some .cell∨scope.names.lookup y=some .free:=hy;rcases hy with hy|hy
  ·exact pv hy
  ·exact absurd rfl (S.nofree _ (az hy))
 ·exact Nat.le_of_lt (x.above y c (az h))
 ·have hi:i<vs.length:=by
   unfold start at h2;by_cases hi:i<vs.length
   ·exact hi
   ·rw[aQ (by simpa using hi)] at h2
    rw[List.getElem?_replicate] at h2;split at h2<;>cases h2
  have ha:vs[i]? =some v:=by
   unfold start at h2;rw[aR (by simpa using hi),aX] at h2
   cases e:vs[i]? with
   |none=>rw[e] at h2;cases h2
   |some a=>rw[e] at h2;cases h2;rfl
  obtain⟨u,hu,rv⟩:=r.get ha
  have hp:ps[i]? =some y:=by
   rw[<-S.pre,List.getElem?_take_of_lt (by omega)];exact h1
  have ndP:ps.Nodup:=by rw[<-S.pre];exact S.nd.sublist (List.take_sublist _ _)
  refine⟨u,rv,?_⟩;rcases S.par y (aH hp) with k|k
  ·exact .inl ⟨k,mV ndP hp hu k⟩
  ·obtain⟨c,e⟩:=pv (n:=s.heap.objs.size+1) k;refine .inr ⟨.inl k,c,e,?_⟩;have q:=x.cell y c e;rw[mY ndP hp hu (by show scope.names.lookup y≠_;rw[k];decide)] at q
   exact q
 ·exact e0.hok.fresh (Nat.le_of_lt (x.above y c (az h)))
 ·unfold start;show _=N.length;rw[aE,List.length_map,List.length_replicate];omega
theorem Cv{CX:v_}{K:al}{k:Nat}{f:Addr}{name:Str}{params:Arguments}{body:List Stmt}{scope:Scope}{dV kV doc pm cdv ct oc:Value}{an od:Option Addr}
  {osl:Array (Option Value)}{N ps:List Str}{sp:Sp}(lk:K.lookup f=some ⟨oc,od,.func (PySem.W.fnOf name qual params body scope dV kV doc pm an cdv ct),osl⟩)(hcd:PySem.W.codeIn K cdv qual=true)(S:FnScope N ps scope)
  (len:∀vs H Q E,sp vs H Q E->vs.length=ps.length)
  (hbody:∀(A:Around)(outer:List Env)(s:Shared)(H:Hp)(vs:List V)(Q:VK)(E:XK),Room k (A.deeper (envOfC qual scope s.heap.objs.size f cdv))->sp vs H Q E->
   ∃t,PSs (qx CX P w K mg base N qual scope f cdv A outer s H E) body t/\t {nx:=λ_ H'=>Q .non H',rt:=Q} (start N vs) H):
  FnOk P w K mg base CX (k+1) f (PySem.W.fnOf name qual params body scope dV kV doc pm an cdv ct) ps sp:=by
 refine⟨len,λA outer s H args us vs Q E hr e0 hb r hsp=>?_⟩;have hl:=len _ _ _ _ hsp;have KX:K.In s.heap:=e0.mod.kin.keeps λb o e=>(e0.bs b o e).1;have lim:s.heap.NoLimit:=e0.mod.nolimit.keeps λb o e=>(e0.bs b o e).1
 have hkind:∀y∈ps.zip us,scope.names.lookup y.1=some .local∨(scope.names.lookup y.1=some .cell/\((cellsFrom (s.heap.objs.size+1) scope.names []).lookup y.1).isSome=true):=λ⟨n,v⟩ hy=>by
  rcases S.par n (List.of_mem_zip hy).1 with q|q
  ·exact .inl q
  ·exact .inr ⟨q,PySem.W.cellsFrom_some _ _ _ (.inl q)⟩
 refine codeAny_call_function hr.depth (KX _ _ lk) rfl S.co S.gen rfl (PySem.W.codeRec_of KX hcd) (hb _ _ _ _ ?_);refine wpAny_newFunctionEnv_cells S.kind hkind λenv he s1 x=>?_;subst he;refine⟨lim.keeps x.toInCall.keep,codeAny_func ?_⟩;obtain⟨t,ht,hq⟩:=hbody A outer s H vs Q E (hr.deeper _) hsp;have I:Inv (qx CX P w K mg base N qual scope f cdv A outer s H E) [] (start N vs) H s1:=sO S hr.hd e0 hl r x;refine aP (ht [] s1 (start N vs) H _ I hq) (λfl s' hs=>?_) λe s' hs=>hs
 have fin:∀{σ':St}{H':Hp}{v:V}{u:Value},Inv (qx CX P w K mg base N qual scope f cdv A outer s H E) [] σ' H' s'->RelV v u->Q v H'->CE outer P w H s Q u s':=
  λ{σ' H' v u} J rv q=>⟨v,H',J.os,J.bare,J.base,J.hok,rv,q⟩
 cases fl with
 |ret u=>obtain⟨v,σ',H',J,rv,q⟩:=hs;exact fin J rv q
 |next=>obtain⟨σ',H',J,q⟩:=hs;exact fin (v:=V.non) (u:=Value.none) J rfl q
 |brk=>obtain⟨_,_,_,q⟩:=hs;exact False.elim q
 |cont=>obtain⟨_,_,_,q⟩:=hs;exact False.elim q
section
variable{X:Cx}{x:Str}{p pos:Pos}{e:Expr}{es:List Expr}{t:TA}{id T:String}{r:List V->Hp->VK->Prop}
noncomputable def DI(r:List V->Hp->VK->Prop)(t:TA):TE:=λσ H Q=>t σ H λvs H1=>r vs H1 Q
theorem kX(hc:h_ X (.builtin id) r)(hg:Gl X x)(hm:X.mg x=none)(hv:bootBuiltins x=some (.builtin id))(ha:PA X (e::es) t)(hn:x≠ "__name__":=by decide)(hdb:(x==("__debug__":Str))=false:=by decide)
  (he:starEach (e::es) X.env=(false,eval e X.env)::starEach es X.env:=by rfl)(hpl:(backTo pos (starEach es X.env)).any (·.1)=false:=by rfl):PE X (.Call (.Name x p) (e::es) [] pos) (DI r t):=by
 intro pins s σ H Q I h;refine wpAny_Call_Name_kw (fY I hg hm hv ?_ hn hdb);exact PyProof.Rows.callWith_builtin1 (bQ (ha pos pins s σ H _ I h) λus s1 ⟨vs,H1,I1,r1,q1⟩=>hc pins s1 σ H1 vs us Q I1 r1 q1) he hpl
theorem mB(hc:h_ X (.type T) r)(hg:Gl X x)(hm:X.mg x=none)(hv:bootBuiltins x=some (.type T))(ha:PA X (e::es) t)(hn:x≠ "__name__":=by decide)(hdb:(x==("__debug__":Str))=false:=by decide)
  (he:starEach (e::es) X.env=(false,eval e X.env)::starEach es X.env:=by rfl)(hpl:(backTo pos (starEach es X.env)).any (·.1)=false:=by rfl):PE X (.Call (.Name x p) (e::es) [] pos) (DI r t):=by
 intro pins s σ H Q I h;refine wpAny_Call_Name_kw (fY I hg hm hv ?_ hn hdb);exact aS (bQ (ha pos pins s σ H _ I h) λus s1 ⟨vs,H1,I1,r1,q1⟩=>hc pins s1 σ H1 vs us Q I1 r1 q1) he hpl
end
end L2
namespace HT
open PySem PyProof.Rows
variable{sl t:Addr}{hi lo:Option Int}{vl vu:Value}
section
open PySem.SeqAt
open PySem.AutoSeq1 (wpAny_loadPart')
open PySem.MeetsSeq PySem.MeetsSeq2 PySem.MeetsSeq3
end
section
variable{prog:Program}{w:World}{A:Around}{E:Value->Shared->Prop}{s:Shared}
theorem xZ{b:Addr}{vs ws:List Value}{Q:Value->Shared->Prop}(ht:IsTup s.heap t vs.toArray)(hb:IsTup s.heap b ws.toArray)(hv:vs≠[])
  (h1:ws=[]->Q (.ref t) s)(h2:ws≠[]->Q (.ref s.heap.objs.size) {s with heap:=s.heap.push {cls:= .type "tuple",data:= .seq (vs++ws).toArray}})
  (hsz:vs.length+ws.length<=sizeLine):wpAny (model prog w) A (binaryOp .Add (.ref t) (.ref b)) Q E s:=by
 obtain⟨⟨cls,dd,data,sl⟩,ho,hc,n,hd⟩:=id ht;obtain⟨⟨cls2,dd2,data2,sl2⟩,ho2,hc2,n2,hd2⟩:=id hb;simp only at hc hd hc2 hd2;subst hc hd hc2 hd2;have e:vs.toArray++ws.toArray=(vs++ws).toArray:=by simp
 by_cases hw:ws=[]
 ·exact concat_meets ⟨_,ho,rfl⟩ ⟨_,ho2,rfl⟩ noFill_tuple_add seq_tuple_add PySem.F.slot_tuple_add PySem.F.entry_tuple_add (PySem.F.args_tuple_add_2 _ _)
   (tuple_addW1 t b vs.toArray ws.toArray n n2 dd dd2 sl sl2 (by simpa using hv) (by simp[hw])) ⟨ho,ho2,h1 hw⟩
 ·refine concat_meets ⟨_,ho,rfl⟩ ⟨_,ho2,rfl⟩ noFill_tuple_add seq_tuple_add PySem.F.slot_tuple_add PySem.F.entry_tuple_add (PySem.F.args_tuple_add_2 _ _)
   (tuple_addW2 t b vs.toArray ws.toArray n n2 dd dd2 sl sl2 (by simpa using hv) (by simpa using hw) (by rw[List.size_toArray,List.size_toArray];exact hsz)) ⟨ho,ho2,?_⟩
  rw[e];exact h2 hw
noncomputable def dJ(n d:Nat):Option Int->Nat
 |none=>d
 |some v=>if v<0 then(v+(n:Int)).toNat else min v.toNat n
theorem zw(n d:Nat)(hd:d<=n)(o:Option Int):dJ n d o<=n:=by
 cases o with
 |none=>exact hd
 |some v=>
  show(if v<0 then(v+(n:Int)).toNat else min v.toNat n)<=n
  by_cases hv:v<0
  ·rw[if_pos hv];omega
  ·rw[if_neg hv];exact Nat.min_le_right _ _
theorem se(v:Int)(n d:Nat):(if v<0 then max (v+(n:Int)) 0 else min v (n:Int))=((dJ n d (some v):Nat):Int):=by
 show(if v<0 then max (v+(n:Int)) 0 else min v (n:Int))=(((if v<0 then(v+(n:Int)).toNat else min v.toNat n):Nat):Int)
 by_cases hv:v<0
 ·simp only[if_pos hv];omega
 ·simp only[if_neg hv];omega
theorem qD(lo hi:Option Int)(n:Nat):Builtin.Slice.sliceAdjust lo hi 1 (n:Int)=(((dJ n 0 lo:Nat):Int),((dJ n n hi:Nat):Int)):=by
 have h1:¬((1:Int)<0):=by omega
 unfold Builtin.Slice.sliceAdjust;simp only[h1,if_false];refine Prod.ext ?_ ?_
 ·cases lo with
  |none=>rfl
  |some v=>exact se v n 0
 ·cases hi with
  |none=>rfl
  |some v=>exact se v n n
theorem qb(i j:Nat):Builtin.Slice.slicePlaces (i:Int) (j:Int) 1=j - i:=by
 unfold Builtin.Slice.slicePlaces;have h1:(1:Int)>0:=by omega
 simp only[h1,if_true,Int.ediv_one];split<;>omega
theorem kM{v:Value}{o:Option Int}{Q:Option Int->Shared->Prop}(p:IsPart v o)(h:Q o s):wpAny (model prog w) A (Builtin.Slice.slicePartIndex v) Q E s:=by
 cases p with
 |none=>exact slicePart_none h
 |int i t=>exact slicePart_int h
theorem jr{n:Nat}{Q:Int×Int×Nat->Shared->Prop}(hs:s.heap.IsSliceOf sl vl vu .none)(pl:IsPart vl lo)(pu:IsPart vu hi)
  (h:Q (((dJ n 0 lo:Nat):Int),1,dJ n n hi - dJ n 0 lo) s):wpAny (model prog w) A (Builtin.Slice.sliceApplied (.ref sl) (pure (n:Int))) Q E s:=by
 obtain⟨os,hos,hcs,hds⟩:=id hs;unfold Builtin.Slice.sliceApplied Builtin.Slice.sliceFields;refine aa (aa (aJ hos hds (x:=vl) rfl (aa (aJ hos hds (x:=vu) rfl (aa (aJ hos hds (x:= .none) rfl (af ?_)))))));refine aa (slicePart_none ?_);show wpAny _ _ (if((1:Int)==0)=true then _ else _) _ _ s
 rw[if_neg (by decide)]
 refine aa (kM pl (aa (kM pu (aa (af ?_)))));show wpAny _ _ (match Builtin.Slice.sliceAdjust lo hi 1 (n:Int) with|(lo,hi)=>pure (lo,(1:Int),Builtin.Slice.slicePlaces lo hi 1)) _ _ s
 rw[qD lo hi n];show wpAny _ _ (pure (((dJ n 0 lo:Nat):Int),(1:Int),Builtin.Slice.slicePlaces ((dJ n 0 lo:Nat):Int) ((dJ n n hi:Nat):Int) 1)) _ _ s;rw[qb];exact af h
theorem uN(xs:Array Value)(i k:Nat):((List.range k).filterMap λ(m:Nat)=>xs[((i:Int)+(m:Int)*1).toNat]?).toArray=((xs.toList.drop i).take k).toArray:=by
 have e:(λ(m:Nat)=>xs[((i:Int)+(m:Int)*1).toNat]?)=λm=>xs[i+m]?:=by
  funext m;have:((i:Int)+(m:Int)*1).toNat=i+m:=by omega
  rw[this]
 rw[e];have:=pick_run xs i k;rw[List.filterMap_map] at this;have e2:((λx=>xs[x]?) ∘ λx=>i+x)=λm=>xs[i+m]?:=rfl;rw[e2] at this;rw[this]
theorem i8{items:Array Value}{Q:Value->Shared->Prop}(ht:IsTup s.heap t items)(hs:s.heap.IsSliceOf sl vl vu .none)(pl:IsPart vl lo)(pu:IsPart vu hi)
  (hw:¬(dJ items.size 0 lo=0/\dJ items.size items.size hi=items.size))
  (h:Q (.ref s.heap.objs.size) {s with heap:=s.heap.push {cls:= .type "tuple",data:= .seq ((items.toList.drop (dJ items.size 0 lo)).take (dJ items.size items.size hi - dJ items.size 0 lo)).toArray}})
  (hsz:items.size<=sizeLine):wpAny (model prog w) A (getItem (.ref t) (.ref sl)) Q E s:=by
 have htake:sizeOk (.seq ((items.toList.drop (dJ items.size 0 lo)).take (dJ items.size items.size hi - dJ items.size 0 lo)).toArray):=by show((items.toList.drop (dJ items.size 0 lo)).take (dJ items.size items.size hi - dJ items.size 0 lo)).toArray.size<=sizeLine;rw[List.size_toArray,List.length_take,List.length_drop,Array.length_toList];omega
 have hj:dJ items.size items.size hi<=items.size:=zw _ _ (ae _) hi;obtain⟨os,hos,hcs,hds⟩:=id hs;have hTs:s.TypeIs (.ref sl) "slice":=⟨os,hos,hcs⟩;unfold getItem
 try with_reducible refine wpAny_holding ?_
 first|refine aa (af ?_)|skip
 refine aa (wpAny_sequenceKey ht.typeIs (by decide) ?_)
 refine aa (wpAny_callSpecial?_slot (name:=Str.ofString "__getitem__") ht.typeIs PyProof.Rows.slot_tuple_getitem
  (wpAny_call_entry PyProof.Rows.slot_tuple_getitem ht.typeIs entry_tuple_getitem ?_ (args_tuple_getitem _ _)))
 show wpAny _ _ (Builtin.Tuple.tupleItemsOf (.ref t)>>=_) _ _ s;refine aa (tupleItemsOf_ ht ?_);refine aa (wpAny_typeOf hTs ?_);rw[if_pos (by decide)]
 refine aa (jr hs pl pu ?_)
 have hno:¬((((dJ items.size 0 lo:Nat):Int)==0&&(1:Int)==1&&(dJ items.size items.size hi - dJ items.size 0 lo)==items.size)=true):=by
  intro q;rw[Bool.and_eq_true,Bool.and_eq_true] at q;have q1:((dJ items.size 0 lo:Nat):Int)=0:=eq_of_beq q.1.1;have q2:dJ items.size items.size hi - dJ items.size 0 lo=items.size:=eq_of_beq q.2;exact hw ⟨by omega,by omega⟩
 show wpAny _ _ (if(((dJ items.size 0 lo:Nat):Int)==0&&(1:Int)==1&&(dJ items.size items.size hi - dJ items.size 0 lo)==items.size)=true then _ else _) _ _ s
 rw[if_neg hno,uN]
 first
  |exact aa (m:=Builtin.Tuple.tupleExact _) (wpAny_newObj_type (af ⟨_,rfl,af h⟩) htake)
  |exact aa (m:=Builtin.Tuple.tupleExact _) (wpAny_newObj_type (aa (af (af ⟨_,rfl,af h⟩))) htake)
  |exact aa (aa (m:=Builtin.Tuple.tupleExact _) (wpAny_newObj_type (af (af ⟨_,rfl,af h⟩)) htake))
  |exact aa (aa (m:=Builtin.Tuple.tupleExact _) (wpAny_newObj_type (af ⟨_,rfl,af h⟩) htake))
end
end HT
namespace L2
open PySem PySem.Spec PyProof.Rows
variable{its its' us:List Value}{xs:List V}{n t':Nat}{s:Shared}{pins:List (Addr×Obj)}
noncomputable abbrev TO:=St->Hp->(Option Int->Hp->Prop)->Prop
noncomputable def PO(X:Cx)(e:Option Expr)(t:TO):Prop:=
 ∀(pins:List (Addr×Obj))(s:Shared)(σ:St)(H:Hp)(Q:Option Int->Hp->Prop),Inv X pins σ H s->t σ H Q->
  wpAny (model X.prog X.w) X.A (evalPart e X.env) (λu s'=>∃o H',Inv X pins σ H' s'/\IsPart u o/\Q o H') X.xe s
noncomputable def qQ:TO:=λ_ H Q=>Q none H
noncomputable def yj(t:TE):TO:=λσ H Q=>t σ H λx H1=>∃i,x=.int i/\Q (some i) H1
section
variable{X:Cx}{e:Expr}{te:TE}{lo hi:Option Expr}{tl th:TO}{pos p2:Pos}
theorem rE:PO X none qQ:=by intro pins s σ H Q I h;rw[evalPart_none];exact af ⟨none,H,I,.none,h⟩
theorem ki(h:PE X e te):PO X (some e) (yj te):=by intro pins s σ H Q I hw;rw[evalPart_some];refine bQ (h pins s σ H _ I hw) λu s1 hp=>?_;obtain⟨x,H1,I1,r1,q1⟩:=hp;obtain⟨i,rfl,q⟩:=q1;obtain⟨t,rfl⟩:=r1;exact⟨some i,H1,I1,.int i t,q⟩
noncomputable def Do(X:Cx)(r:V->Option Int->Option Int->Hp->VK->Prop):Prop:=
 ∀(pins:List (Addr×Obj))(s:Shared)(σ:St)(H:Hp)(x:V)(v vl vu:Value)(lo hi:Option Int)(sl:Addr)(Q:VK),Inv X pins σ H s->RelV x v->s.heap.IsSliceOf sl vl vu .none->IsPart vl lo->IsPart vu hi->r x lo hi H Q->
  ∃T id,typeLookup (.type T) "__getitem__"=pure (some (.builtin id))/\s.TypeIs v T/\wpAny (model X.prog X.w) X.A (getItem v (.ref sl)) (EP X pins σ Q) X.xe s
noncomputable def EQ(r:V->Option Int->Option Int->Hp->VK->Prop)(te:TE)(tl th:TO):TE:=λσ H Q=>te σ H λx H1=>tl σ H1 λl H2=>th σ H2 λu H3=>r x l u H3 Q
theorem uR{r:V->Option Int->Option Int->Hp->VK->Prop}(hr:Do X r)(he:PE X e te)(hl:PO X lo tl)(hu:PO X hi th):PE X (.Subscript e (.Slice lo hi none p2) pos) (EQ r te tl th):=by
 intro pins s σ H Q I h;refine Subscript_ (bQ (he pins s σ H _ I h) λv s1 hp=>?_);obtain⟨x,H1,I1,r1,q1⟩:=hp;refine wpAny_Slice (bQ (hl pins s1 σ H1 _ I1 q1) λvl s2 ⟨l,H2,I2,pl,q2⟩=>bQ (hu pins s2 σ H2 _ I2 q2) λvu s3 hp=>?_);obtain⟨u,H3,I3,pu,q3⟩:=hp;rw[evalPart_none];refine af ?_;have I4:Inv X pins σ H3 {s3 with heap:=s3.heap.push {cls:= .type "slice",data:= .fields #[vl,vu,.none]}}:=I3.kept (t':=s3.toks) λb ob q=>ac _ q;obtain⟨T,id,hT,ht,hg⟩:=hr pins {s3 with heap:=s3.heap.push {cls:= .type "slice",data:= .fields #[vl,vu,.none]}} σ H3 x v vl vu l u s3.heap.objs.size Q I4 r1 (Heap.IsSliceOf.new ..) pl pu q3;show wpAny (model X.prog X.w) X.A (subscriptTail e (.Slice lo hi none p2) v (.ref s3.heap.objs.size)) (EP X pins σ Q) X.xe {s3 with heap:=s3.heap.push {cls:= .type "slice",data:= .fields #[vl,vu,.none]}};exact tail_any (ops:=[.ref s3.heap.objs.size,v]) ht hT hg (by with_unfolding_all rfl)
noncomputable def pi(xs:List V)(lo hi:Option Int):List V:=(xs.drop (HT.dJ xs.length 0 lo)).take (HT.dJ xs.length xs.length hi - HT.dJ xs.length 0 lo)
theorem jT(xs:List V)(lo hi:Option Int):(pi xs lo hi).length<=xs.length:=by unfold pi;rw[List.length_take,List.length_drop];omega
noncomputable def DU(K:al):V->Option Int->Option Int->Hp->VK->Prop:=λx lo hi H Q=>∃a xs,x=.ref a/\gx K H a xs/\
 ¬(HT.dJ xs.length 0 lo=0/\HT.dJ xs.length xs.length hi=xs.length)/\∀p,H p=none->Q (.ref p) (bx H p (.tup (pi xs lo hi)))
theorem y4:Do X (DU X.K):=by
 intro pins s σ H x v vl vu lo hi sl Q I rx hs pl pu h;obtain⟨a,xs,rfl,hx,hw,q⟩:=h;cases rx;obtain⟨its,r,ht,hz⟩:=I.tuple hx;have hlen:its.toArray.size=xs.length:=by rw[List.size_toArray];exact r.length.symm
 refine⟨"tuple",_,PyProof.Rows.slot_tuple_getitem.lookup,ht.typeIs,?_⟩;refine HT.i8 ht hs pl pu (by rw[hlen];exact hw) ?_ (by rw[hlen];exact hz)
 rw[hlen];refine⟨.ref s.heap.objs.size,_,I.laid (t':=s.toks) (o:= .tup (pi xs lo hi)) (λb ob q=>ac _ q) (ae _) ?_,rfl,q _ (I.hok.fresh (ae _))⟩;exact⟨aT (jT xs lo hi) hz,_,(r.drop (HT.dJ xs.length 0 lo)).take (HT.dJ xs.length xs.length hi - HT.dJ xs.length 0 lo),IsTup.new _ _⟩
noncomputable def B2(K:al):R2:=λx y H Q=>∃a b xs ys,x=.ref a/\y=.ref b/\gx K H a xs/\gx K H b ys/\xs≠[]/\xs.length+ys.length<=sizeLine/\
 (ys=[]->Q (.ref a) H)/\(ys≠[]->∀p,H p=none->Q (.ref p) (bx H p (.tup (xs++ys))))
theorem bm.nil_iff(r:bm xs us):us=[]↔xs=[]:=by
 cases r with
 |nil=>simp
 |cons _ _=>simp
theorem xr:kx X (binaryOp .Add) (B2 X.K):=by
 intro pins s σ H x y v u Q I rx ry h;obtain⟨a,b,xs,ys,rfl,rfl,ha,hb,hx,hz,q1,q2⟩:=h;cases rx;cases ry;obtain⟨its,r1,p1,_⟩:=I.tuple ha;obtain⟨its2,r2,p2,_⟩:=I.tuple hb;refine HT.xZ p1 p2 (λz=>hx (r1.nil_iff.mp z)) (λz=>⟨.ref a,H,I,rfl,q1 (r2.nil_iff.mp z)⟩) (λz=>?_) (by rw[<-r1.length,<-r2.length];exact hz)
 refine⟨.ref s.heap.objs.size,_,I.laid (t':=s.toks) (o:= .tup (xs++ys)) (λb ob q=>ac _ q) (ae _) ?_,rfl,q2 (λw=>z (r2.nil_iff.mpr w)) _ (I.hok.fresh (ae _))⟩;exact⟨by rw[aE];exact hz,_,r1.append r2,IsTup.new _ _⟩
end
noncomputable def sN(n:Nat)(i:Int):Option Nat:=if 0<=i then(if i<n then some i.toNat else none) else if -(n:Int)<=i then some (i+n).toNat else none
noncomputable def iH{α:Type}(xs:List α)(i:Int):Option α:=(sN xs.length i).bind λj=>xs[j]?
theorem rP{i:Int}{j:Nat}(h:sN n i=some j):seqIndex? i n=some j/\j<n/\ -(n:Int)<=i/\i<n:=by
 unfold sN at h;by_cases h0:0<=i
 ·rw[if_pos h0] at h;by_cases h1:i<n
  ·rw[if_pos h1] at h;have e:i.toNat=j:=ag h;exact⟨by rw[seqIndex_of h0 h1,e],by omega,by omega,h1⟩
  ·rw[if_neg h1] at h;cases h
 ·rw[if_neg h0] at h;by_cases h1: -(n:Int)<=i
  ·rw[if_pos h1] at h;have e:(i+n).toNat=j:=ag h;exact⟨by rw[seqIndex_neg (by omega) h1,e],by omega,h1,by omega⟩
  ·rw[if_neg h1] at h;cases h
theorem sg{α:Type}{xs:List α}{i:Int}{v:α}(h:iH xs i=some v):∃j,seqIndex? i xs.length=some j/\xs[j]? =some v/\j<xs.length/\ -(xs.length:Int)<=i/\i<xs.length:=by
 unfold iH at h;cases e:sN xs.length i with
 |none=>rw[e] at h;cases h
 |some j=>rw[e] at h;obtain⟨h1,h2,h3,h4⟩:=rP e;exact⟨j,h1,h,h2,h3,h4⟩
noncomputable def x_(b:Expr):Prop:=∀o i,subscripted b false o i=operate [o,i] (getItem o i)
noncomputable def Dc(X:Cx)(r:R2):Prop:=
 ∀(value slice:Expr)(pins:List (Addr×Obj))(s:Shared)(σ:St)(H:Hp)(x y:V)(v u:Value)(Q:VK),Inv X pins σ H s->RelV x v->RelV y u->r x y H Q->
  subscripted slice false v u=operate [v,u] (getItem v u)->wpAny (model X.prog X.w) X.A (subscriptTail value slice v u) (EP X pins σ Q) X.xe s
noncomputable def EL(X:Cx)(id:String)(r:V->List V->Hp->VK->Prop):Prop:=
 ∀(pins:List (Addr×Obj))(s:Shared)(σ:St)(H:Hp)(x:V)(xs:List V) (v:Value) (us:List Value)(Q:VK),Inv X pins σ H s->RelV x v->bm xs us->r x xs H Q->
  wpAny (model X.prog X.w) X.A (call (.builtin id) (v::us)) (EP X pins σ Q) X.xe s
section
variable{X:Cx}{a b:Expr}{ta tb:TE}{pos:Pos}
theorem yt{r:R2}(hr:Dc X r)(ha:PE X a ta)(hb:PE X b tb)(hs:x_ b):PE X (.Subscript a b pos) (AX r ta tb):=by intro pins s σ H Q I h;exact Subscript_ (AN ha hb I h λv u s2 x y H2 I2 rx ry q=>hr a b pins s2 σ H2 x y v u Q I2 rx ry q (hs _ _))
noncomputable def DY(K:al):R2:=λx y H Q=>∃p xs i v,x=.ref p/\y=.int i/\ez K H p xs/\iH xs i=some v/\Q v H
noncomputable def DX(K:al):R2:=λx y H Q=>∃p xs i v,x=.ref p/\y=.int i/\gx K H p xs/\iH xs i=some v/\Q v H
theorem xA:Dc X (DY X.K):=by
 intro value slice pins s σ H x y v u Q I rx ry h hs;obtain⟨p,xs,i,z,rfl,rfl,hq,he,q⟩:=h;cases rx;obtain⟨t,rfl⟩:=ry;obtain⟨its,r,pl,hz⟩:=I.list hq;obtain⟨j,h1,h2,h3,h4,h5⟩:=sg he;obtain⟨w,ew,rw'⟩:=r.get h2;have hl:=r.length;have hn:=nD;have fin:EP X pins σ Q w s:=⟨z,H,I,rw',q⟩;by_cases h0:0<=i
 ·have hj:i.toNat=j:=by rw[seqIndex_of h0 h5] at h1;exact ag h1
  exact item_listR pl.isList h0 (by omega) (by rw[hj];simpa using ew) fin hs
 ·have hj:(i+(its.toArray.size:Int)).toNat=j:=by
   rw[seqIndex_neg (by omega) h4] at h1
   rw[List.size_toArray,<-hl];exact ag h1
  exact subscriptTail_builtinR (x:=w) pl.isList.typeIs slot_list_getitem.lookup
   (wpAny_getItem_list_neg (Q:=λr s'=>r=w/\EP X pins σ Q r s') pl.isList (by omega) (by rw[List.size_toArray]<;>omega) (by omega) (by rw[hj];simpa using ew) ⟨rfl,fin⟩) hs
theorem Al:Dc X (DX X.K):=by
 intro value slice pins s σ H x y v u Q I rx ry h hs;obtain⟨p,xs,i,z,rfl,rfl,hq,he,q⟩:=h;cases rx;obtain⟨t,rfl⟩:=ry;obtain⟨its,r,pl,hz⟩:=I.tuple hq;obtain⟨j,h1,h2,h3,h4,h5⟩:=sg he;obtain⟨w,ew,rw'⟩:=r.get h2;have hl:=r.length;have hn:=nD;have fin:EP X pins σ Q w s:=⟨z,H,I,rw',q⟩
 exact subscriptTail_builtinR (x:=w) pl.typeIs slot_tuple_getitem.lookup
  (getItem_tuple (j:=j) (Q:=λr s'=>r=w/\EP X pins σ Q r s') pl (by omega) (by omega) (by rw[List.size_toArray,<-hl];exact h1) (by simpa using ew) ⟨rfl,fin⟩) hs
theorem qe(its:List Value)(n j:Nat)(u:Value):Obj.mapSeq (·.setIfInBounds j u) {cls:= .type "list",data:= .seq its.toArray n}={cls:= .type "list",data:= .seq (its.set j u).toArray n}:=by simp[Obj.mapSeq]
theorem Inv.lst{σ:St}{H:Hp}{p:Addr}(I:Inv X pins σ H s)(h:H p=some (.lst xs)):
  ∃(its:List Value)(n:Nat),bm xs its/\s.heap.get? p=some {cls:= .type "list",data:= .seq its.toArray n}/\xs.length<=sizeLine:=by
 obtain⟨z,its,n,r,e⟩:=I.hok p _ h;exact⟨its,n,r,e,z⟩
theorem Inv.lstUpd{σ:St}{H:Hp}{p:Addr}{ys:List V}{n':Nat}{f:Obj->Obj}(I:Inv X pins σ H s)(h:H p=some (.lst xs))
  (ho:s.heap.get? p=some {cls:= .type "list",data:= .seq its.toArray n}) (hf:f {cls:= .type "list",data:= .seq its.toArray n}={cls:= .type "list",data:= .seq its'.toArray n'}) (r:bm ys its')(hz:ys.length<=sizeLine)(t:Nat):
  Inv X pins σ (bx H p (.lst ys)) {s with heap:=s.heap.update p f,toks:=t}:=by
 have e:(s.heap.update p f).get? p=some {cls:= .type "list",data:= .seq its'.toArray n'}:=by
  rw[Heap.get?_update_self f ho (by rw[hf]<;>rfl),hf]
 refine I.write (x:=p) (e:=p) (by rw[h];trivial) (.inl rfl) (λb u hb q=>(Heap.get?_update_other _ _ (Ne.symm hb)).trans q) ⟨_,e⟩ ?_
 exact⟨hz,its',n',r,e⟩
noncomputable def B0:V->V->V->Hp->(Hp->Prop)->Prop:=λo i v H Q=>∃p xs k j,o=.ref p/\i=.int k/\H p=some (.lst xs)/\sN xs.length k=some j/\Q (bx H p (.lst (xs.set j v)))
theorem set_list:C7 X B0:=by
 intro pins s σ H o i v ov iv u Q I ro ri rv h;obtain⟨p,xs,k,j,rfl,rfl,hp,hj,q⟩:=h;cases ro;obtain⟨t,rfl⟩:=ri;obtain⟨its,n,r,ho,hz⟩:=I.lst hp;obtain⟨h1,h2,h3,h4⟩:=rP hj;have hl:=r.length;have hn:=nD
 have I':Inv X pins σ (bx H p (.lst (xs.set j v))) {s with heap:=s.heap.update p (Obj.mapSeq (·.setIfInBounds j u))}:=
  I.lstUpd hp ho (qe its n j u) (r.set rv j) (by rw[aA];exact hz) s.toks
 by_cases h0:0<=k
 ·have hk:k.toNat=j:=by rw[seqIndex_of h0 h4] at h1;exact ag h1
  exact PySem.W.ki_setAt ho h0 (by omega) (by rw[List.size_toArray,<-hl];exact h4) (by rw[hk];exact⟨_,I',q⟩)
 ·have hk:(k+(its.toArray.size:Int)).toNat=j:=by
   rw[seqIndex_neg (by omega) h3] at h1
   rw[List.size_toArray,<-hl];exact ag h1
  exact PySem.W.ki_setBack ho (by omega) (by rw[List.size_toArray,<-hl];exact h3) (by omega) (by rw[hk];exact⟨_,I',q⟩)
theorem nh(lo hi:Option Int)(n:Nat):(sliceBounds lo hi none n).1=((HT.dJ n 0 lo:Nat):Int)/\(sliceBounds lo hi none n).2.1=((HT.dJ n n hi:Nat):Int)/\(sliceBounds lo hi none n).2.2=1:=by
 refine⟨?_,?_,rfl⟩
 ·cases lo with
  |none=>simp[sliceBounds,HT.dJ]
  |some i=>
   simp only[sliceBounds,HT.dJ,Option.getD_none,show(1:Int)>0 by decide,if_true]
   by_cases h:i<0
   ·simp only[h,if_true]<;>omega
   ·simp only[h,if_false]<;>omega
 ·cases hi with
  |none=>simp[sliceBounds,HT.dJ]
  |some i=>
   simp only[sliceBounds,HT.dJ,Option.getD_none,show(1:Int)>0 by decide,if_true]
   by_cases h:i<0
   ·simp only[h,if_true]<;>omega
   ·simp only[h,if_false]<;>omega
theorem l0(its:List Value)(lo hi:Option Int):slicePick its.toArray lo hi none=((its.drop (HT.dJ its.length 0 lo)).take (HT.dJ its.length its.length hi - HT.dJ its.length 0 lo)).toArray:=by obtain⟨h1,h2,h3⟩:=nh lo hi its.toArray.size;unfold slicePick;rw[h1,h2,h3];simp only[sliceRange_one,pick_run,List.size_toArray]<;>rfl
noncomputable def DV(K:al):V->Option Int->Option Int->Hp->VK->Prop:=λx lo hi H Q=>∃a xs,x=.ref a/\ez K H a xs/\∀p,H p=none->Q (.ref p) (bx H p (.lst (pi xs lo hi)))
theorem wK:Do X (DV X.K):=by
 intro pins s σ H x v vl vu lo hi sl Q I rx hs pl pu h;obtain⟨a,xs,rfl,hx,q⟩:=h;cases rx;obtain⟨its,r,ht,hz⟩:=I.list hx;have hlen:=r.length;refine⟨"list",_,slot_list_getitem.lookup,ht.isList.typeIs,?_⟩;refine wpAny_getItem_list_slice ht.isList hs pl pu .none (by simp) ?_ (by rw[List.size_toArray]<;>omega)
 rw[l0,<-hlen];refine⟨.ref s.heap.objs.size,_,I.laid (t':=s.toks) (o:= .lst (pi xs lo hi)) (λb ob q=>ac _ q) (ae _) ?_,rfl,q _ (I.hok.fresh (ae _))⟩;exact⟨aT (jT xs lo hi) hz,_,0,(r.drop (HT.dJ xs.length 0 lo)).take (HT.dJ xs.length xs.length hi - HT.dJ xs.length 0 lo),ak _ rfl⟩
noncomputable def dh:V->Bool
 | .non=>true
 | .bl _=>true
 | .int _=>true
 | .str _=>true
 |_=>false
noncomputable def vQ:V->V->Bool
 | .non,.non=>true
 | .bl a,.bl b=>a==b
 | .bl a,.int b=>(if a then 1 else 0)==b
 | .int a,.bl b=>a==(if b then 1 else 0)
 | .int a,.int b=>a==b
 | .str a,.str b=>a==b
 |_,_=>false
theorem Ax{A:Around}{y x:V}{u v:Value}(ry:RelV y u)(rx:RelV x v)(fy:dh y=true)(fx:dh x=true):SeqAt.EqAt A s u v (vQ y x):=by
 cases y with
 |non=>
  cases ry;cases x with
  |non=>cases rx;exact SeqAt.EqAt.same _
  |bl b=>cases rx;exact SeqAt.EqAt.none_bool b
  |int b=>obtain⟨t,rfl⟩:=rx;exact SeqAt.EqAt.none_int b t
  |str b=>obtain⟨t,rfl⟩:=rx;exact SeqAt.EqAt.none_str b t
  |_=>exact lC fx
 |bl a=>
  cases ry;cases x with
  |non=>cases rx;exact SeqAt.EqAt.bool_none a
  |bl b=>cases rx;exact SeqAt.EqAt.bool_bool a b
  |int b=>obtain⟨t,rfl⟩:=rx;exact SeqAt.EqAt.bool_int a b t
  |str b=>obtain⟨t,rfl⟩:=rx;exact SeqAt.EqAt.bool_str a b t
  |_=>exact lC fx
 |int a=>
  obtain⟨t',rfl⟩:=ry;cases x with
  |non=>cases rx;exact SeqAt.EqAt.int_none a t'
  |bl b=>cases rx;exact SeqAt.EqAt.int_bool a t' b
  |int b=>obtain⟨t,rfl⟩:=rx;exact SeqAt.EqAt.int_int a t' b t
  |str b=>obtain⟨t,rfl⟩:=rx;exact SeqAt.EqAt.int_str a t' b t
  |_=>exact lC fx
 |str a=>
  obtain⟨t',rfl⟩:=ry;cases x with
  |non=>cases rx;exact SeqAt.EqAt.str_none a t'
  |bl b=>cases rx;exact SeqAt.EqAt.str_bool a t' b
  |int b=>obtain⟨t,rfl⟩:=rx;exact SeqAt.EqAt.str_int a t' b t
  |str b=>obtain⟨t,rfl⟩:=rx;exact SeqAt.EqAt.str_str a t' b t
  |_=>exact lC fx
 |_=>exact lC fy
theorem nU:h_ X (.builtin "len") (λxs H Q=>∃p ys,xs=[.ref p]/\(ez X.K H p ys∨gx X.K H p ys)/\Q (.int ys.length) H):=by
 intro pins s σ H xs us Q I r h;obtain⟨p,ys,rfl,hq,q⟩:=h;obtain⟨u,rfl,rx⟩:=vals1 r;cases rx;have hn:=nD;rcases hq with hq|hq
 ·obtain⟨its,r',pl,hz⟩:=I.list hq;have hlen:=r'.length;exact Calls.call_len_list pl.isList (by simp only[List.size_toArray]<;>omega) ⟨.int ys.length,H,I.tok _,⟨s.toks+1,by rw[List.size_toArray,hlen]⟩,q⟩
 ·obtain⟨its,r',pl,hz⟩:=I.tuple hq;have hlen:=r'.length;exact len_tuple pl (by simp only[List.size_toArray]<;>omega) ⟨.int ys.length,H,I.tok _,⟨s.toks+1,by rw[List.size_toArray,hlen]⟩,q⟩
theorem nT:h_ X (.type "list") (λxs H Q=>∃p ys,xs=[.ref p]/\(ez X.K H p ys∨gx X.K H p ys)/\∀l,H l=none->Q (.ref l) (bx H l (.lst ys))):=by
 intro pins s σ H xs us Q I r h;obtain⟨p,ys,rfl,hq,q⟩:=h;obtain⟨u,rfl,rx⟩:=vals1 r;cases rx
 have fin:∀(its:List Value),bm ys its->ys.length<=sizeLine->∀(h':Heap)(c':Nat),(∀b o',s.heap.get? b=some o'->h'.get? b=some o')->
   h'.get? s.heap.objs.size=some {cls:= .type "list",dict:=none,data:= .seq its.toArray c',slots:= #[]}->EP X pins σ Q (.ref s.heap.objs.size) {s with heap:=h'}:=λits r' hz h' c' kp e=>
  ⟨.ref s.heap.objs.size,_,I.laid (t':=s.toks) kp (ae _) (show cN X.prog X.w _ h' _ (.lst ys) from⟨hz,its,c',r',e⟩),rfl,q _ (I.hok.fresh (ae _))⟩
 rcases hq with hq|hq
 ·obtain⟨its,r',pl,hz⟩:=I.list hq;have hlen:=r'.length;obtain⟨o,ho,hc,n,hd⟩:=pl.isList;exact call_list_seq p (.inl rfl) ho hc hd (λh' c' kp e=>fin its r' hz h' c' kp e) (by simp only[List.size_toArray]<;>omega)
 ·obtain⟨its,r',pl,hz⟩:=I.tuple hq;have hlen:=r'.length;obtain⟨o,ho,hc,n,hd⟩:=pl;exact call_list_seq p (.inr rfl) ho hc hd (λh' c' kp e=>fin its r' hz h' c' kp e) (by simp only[List.size_toArray]<;>omega)
theorem iG:h_ X (.type "tuple") (λxs H Q=>∃p ys,xs=[.ref p]/\((ez X.K H p ys/\∀l,H l=none->Q (.ref l) (bx H l (.tup ys)))∨(gx X.K H p ys/\Q (.ref p) H))):=by
 intro pins s σ H xs us Q I r h;obtain⟨p,ys,rfl,h⟩:=h;obtain⟨u,rfl,rx⟩:=vals1 r;cases rx;rcases h with⟨hq,q⟩|⟨hq,q⟩
 ·obtain⟨its,r',pl,hz⟩:=I.list hq;have hlen:=r'.length;refine call_tuple_list pl.isList (λh' kp=>?_) (by simp only[List.size_toArray]<;>omega)
  have I1:Inv X pins σ H {s with heap:=h'}:=I.kept (t':=s.toks) kp
  have I2:Inv X pins σ (bx H h'.objs.size (.tup ys)) {s with heap:=h'.push {cls:= .type "tuple",data:= .seq its.toArray}}:=
   I1.laid (t':=s.toks) (λb o e=>ac _ e) (ae _) (show cN X.prog X.w _ _ _ (.tup ys) from⟨hz,its,r',IsTup.new _ _⟩)
  exact⟨.ref h'.objs.size,_,I2,rfl,q _ (I1.hok.fresh (ae _))⟩
 ·obtain⟨its,r',pl,hz⟩:=I.tuple hq;exact call_tuple_same pl ⟨.ref p,H,I,rfl,q⟩
noncomputable def Ds(K:al)(T:String)(x:V)(H:Hp):Prop:=match x with
 | .str _=>T= "str"
 | .int _=>T= "int"
 | .ref p=>(T= "list" /\∃xs,ez K H p xs)∨(T= "tuple" /\∃o,K.lookup p=some o/\o.cls=.type "tuple" /\o.dict=none)∨
   (T= "dict" /\((∃kvs,H p=some (.dK kvs))∨∃kvs,H p=some (.dT kvs)))∨(T= "set" /\∃S n,H p=some (.set S n))
 |_=>False
theorem tP{σ:St}{H:Hp}{T:String}{x:V}{v:Value}(I:Inv X pins σ H s)(r:RelV x v)(ty:Ds X.K T x H):
  s.TypeIs v T/\∀a,v=.ref a->∃ob,s.heap.get? a=some ob/\ob.dict=none:=by
 cases x with
 |str z=>obtain⟨t,rfl⟩:=r;cases(show T= "str" from ty);exact⟨typeIs_str s z t,λ_ e=>nomatch e⟩
 |int i=>obtain⟨t,rfl⟩:=r;cases(show T= "int" from ty);exact⟨typeIs_int s i t,λ_ e=>nomatch e⟩
 |ref p=>
  cases r;rcases ty with⟨rfl,xs,hq⟩|⟨rfl,o,hk,hc,hd⟩|⟨rfl,hk⟩|⟨rfl,S,n,hk⟩
  ·obtain⟨its,_,pl,_⟩:=I.list hq;refine⟨pl.isList.typeIs,λa e=>?_⟩;cases e;obtain⟨o,n,e,c,hd,_⟩:=pl;exact⟨o,e,hd⟩
  ·refine⟨⟨o,I.kIn p o hk,hc⟩,λa e=>?_⟩;cases e;exact⟨o,I.kIn _ o hk,hd⟩
  ·have z:∃o,s.heap.get? p=some o/\o.ExactDict:=by
    rcases hk with⟨kvs,hk⟩|⟨kvs,hk⟩
    ·obtain⟨_,_,_,_,o,_,_,e,ex,_⟩:=I.hok p _ hk;exact⟨o,e,ex⟩
    ·obtain⟨_,_,_,_,o,_,_,e,ex,_⟩:=I.hok p _ hk;exact⟨o,e,ex⟩
   obtain⟨o,e,ex⟩:=z;refine⟨⟨o,e,ex.1⟩,λa e2=>?_⟩;cases e2;exact⟨o,e,ex.2.1⟩
  ·obtain⟨o,_,_,_,e,ex,_⟩:=I.hok p _ hk;refine⟨⟨o,e,ex.1⟩,λa e2=>?_⟩;cases e2;exact⟨o,e,ex.2.1⟩
 |_=>exact False.elim ty
noncomputable def DJ(K:al)(T:String)(r:V->List V->Hp->VK->Prop)(to:TE):TE:=λσ H Q=>to σ H λx H1=>Ds K T x H1/\r x [] H1 Q
noncomputable def EU(K:al)(T:String)(r:V->List V->Hp->VK->Prop)(to:TE)(t:TA):TE:=λσ H Q=>to σ H λx H1=>Ds K T x H1/\t σ H1 λxs H2=>r x xs H2 Q
variable{o e:Expr}{es:List Expr}{to:TE}{t:TA}{name:Str}{apos cpos:Pos}{T id:String}{r:V->List V->Hp->VK->Prop}
theorem uX(pa:PlainAttrs T)(slot:Slot T name id)(hty:typeOf (.builtin id)=pure (.type "method_descriptor"))(hm:EL X id r)(ho:PE X o to)
  (hbase:attributeBase o name X.env (eval o X.env)=eval o X.env:=by rfl)(hline:(apos.endLine==cpos.line)=true:=by rfl):PE X (.Call (.Attribute o name apos) [] [] cpos) (DJ X.K T r to):=by
 intro pins s σ H Q I h;refine wpAny_Call_method0_late hbase hline (bQ (ho pins s σ H _ I h) λv s1 hp=>?_);obtain⟨x,H1,I1,r1,ty,q1⟩:=hp;obtain⟨h1,h2⟩:=tP I1 r1 ty;exact⟨T,id,pa,slot,hty,h1,h2,Calls.callWith_builtin rfl (PySem.evalArgs_none (hm pins s1 σ H1 x [] v [] Q I1 r1 .nil q1))⟩
theorem yu(pa:PlainAttrs T)(slot:Slot T name id)(hty:typeOf (.builtin id)=pure (.type "method_descriptor"))(hm:EL X id r)(ho:PE X o to)(ha:PA X (e::es) t)
  (hbase:attributeBase o name X.env (eval o X.env)=eval o X.env:=by rfl)
  (hfew:((backTo cpos (starEach (e::es) X.env)).all (λx=> !x.1)&&(backToKw cpos (keywordEach [] X.env)).all (λx=>x.1.isSome)
   &&decide ((e::es).length+([]:List Keyword).length+(if([]:List Keyword).isEmpty then 0 else 1)<30))=true:=by rfl)
  (hline:(apos.endLine==cpos.line)=true:=by rfl)(hs:starEach (e::es) X.env=(false,eval e X.env)::starEach es X.env:=by rfl)(hplain:(backTo cpos (starEach es X.env)).any (·.1)=false:=by rfl):
  PE X (.Call (.Attribute o name apos) (e::es) [] cpos) (EU X.K T r to t):=by
 intro pins s σ H Q I h;refine wpAny_Call_method_late hbase hfew hline rfl (bQ (ho pins s σ H _ I h) λv s1 hp=>?_);obtain⟨x,H1,I1,r1,ty,q1⟩:=hp;obtain⟨h1,h2⟩:=tP I1 r1 ty;refine⟨T,id,pa,slot,hty,h1,h2,?_⟩;have hA:=ha cpos pins s1 σ H1 _ I1 q1;rw[hs] at hA ⊢;refine Calls.callWith_builtin (by show(false||(backTo cpos (starEach es X.env)).any (·.1))=false;rw[hplain]<;>rfl) (Calls.evalArgs_plain ?_)
 exact bQ hA λus s2 ⟨vs,H2,I2,r2,q2⟩=>hm pins s2 σ H2 x vs v us Q I2 r1 r2 q2
end
noncomputable def Da(X:Cx)(id:String)(r:V->List V->Hp->VK->Prop):Prop:=
 ∀(pins:List (Addr×Obj))(s:Shared)(σ:St)(H:Hp)(x:V)(xs:List V) (v:Value) (us:List Value)(Q:VK),Inv X pins σ H s->RelV x v->bm xs us->r x xs H Q->
  wpAny (model X.prog X.w) X.A (call (.builtin id) (v::us)) (EP X pins σ Q) X.xe s
theorem bm.one:∀{x:V}{us:List Value},bm [x] us->∃u,us=[u]/\RelV x u
 |_,_,.cons r .nil=>⟨_,rfl,r⟩
theorem bm.zero:∀{us:List Value},bm [] us->us=[]
 |_,.nil=>rfl
theorem bm.dropLast(h:bm xs us):bm xs.dropLast us.dropLast:=by
 induction h with
 |nil=>exact .nil
 |cons r t ih=>
  cases t with
  |nil=>exact .nil
  |cons q t'=>exact .cons r ih
theorem qw{α:Type}(l:List α):l.eraseIdx (l.length - 1)=l.dropLast:=by
 induction l with
 |nil=>rfl
 |cons a r ih=>
  cases r with
  |nil=>rfl
  |cons b r=>
   have e:(a::b::r).length - 1=((b::r).length - 1)+1:=by have h1:(a::b::r).length=r.length+2:=rfl;have h2:(b::r).length=r.length+1:=rfl;omega
   rw[e,List.eraseIdx_cons_succ,ih]
   all_goals rfl
section
variable{X:Cx}{pins:List (Addr×Obj)}{σ:St}{H:Hp}{s:Shared}{l:Addr}{xs ys:List V}
theorem Inv.lset{f:Array Value->Array Value}(I:Inv X pins σ H s)(hH:H l=some (.lst xs))
  (e:s.heap.get? l=some {cls:= .type "list",data:= .seq its.toArray n}) (hf:f its.toArray=its'.toArray)(hv:bm ys its')(hz:ys.length<=sizeLine):
  Inv X pins σ (bx H l (.lst ys)) {s with heap:=s.heap.update l (Obj.mapSeq f),toks:=t'}:=by
 have q:=PySem.IsL.update e f;rw[hf] at q;refine I.write (x:=l) (e:=l) (by rw[hH];exact trivial) (.inl rfl) (λb' u hb hu=>(Heap.get?_update_other s.heap (Obj.mapSeq f) (Ne.symm hb)).trans hu) ⟨_,q⟩ ?_
 exact⟨hz,its',_,hv,q⟩
theorem Inv.lnew(I:Inv X pins σ H s)(hv:bm ys its)(hz:ys.length<=sizeLine):
  Inv X pins σ (bx H s.heap.objs.size (.lst ys)) {s with heap:=s.heap.push {cls:= .type "list",data:= .seq its.toArray},toks:=t'}:=
 I.laid (λ_ _ q=>ac _ q) (ae _) ⟨hz,its,0,hv,ak _ rfl⟩
theorem Inv.fresh(I:Inv X pins σ H s):H s.heap.objs.size=none:=I.hok.fresh (ae _)
theorem Inv.lstM(I:Inv X pins σ H s)(hH:H l=some (.lst xs)):xs.length<=sizeLine/\∃(its:List Value)(n:Nat),bm xs its/\xs.length=its.length/\s.heap.get? l=some {cls:= .type "list",data:= .seq its.toArray n}:=by obtain⟨z,its,n,r,e⟩:=I.hok l _ hH;exact⟨z,its,n,r,r.length,e⟩
theorem oP(h:n<=sizeLine):Builtin.List.listTooLong n=false:=by
 unfold Builtin.List.listTooLong;exact decide_eq_false (by omega)
end
section
variable{X:Cx}
noncomputable def xb:V->List V->Hp->VK->Prop:=λx vs H Q=>∃l xs y,x=.ref l/\vs=[y]/\H l=some (.lst xs)/\xs.length<sizeLine/\Q .non (bx H l (.lst (xs++[y])))
theorem jz:Da X "list.append" xb:=by
 intro pins s σ H x vs v us Q I rx rv h;obtain⟨l,xs,y,rfl,rfl,hH,hz,q⟩:=h;cases rx;obtain⟨u,rfl,ru⟩:=rv.one;obtain⟨z,its,n,r,hl,e⟩:=I.lstM hH;refine call_meets F.slot_list_append ⟨_,e,rfl⟩ F.entry_list_append (F.args_list_append_2 _ _) (PySem.list_append l its.toArray n u (by rw[List.size_toArray];omega)) ⟨e,?_⟩
 refine⟨.non,_,I.lset (its':=its++[u]) hH e (by simp) (r.append (.cons ru .nil)) ?_,rfl,q⟩
 rw[aE,List.length_singleton];omega
noncomputable def xa:V->List V->Hp->VK->Prop:=λx vs H Q=>∃l b xs zs,x=.ref l/\vs=[.ref b]/\H l=some (.lst xs)/\H b=some (.lst zs)/\xs.length+zs.length<=sizeLine/\Q .non (bx H l (.lst (xs++zs)))
theorem sJ:Da X "list.extend" xa:=by
 intro pins s σ H x vs v us Q I rx rv h;obtain⟨l,b,xs,zs,rfl,rfl,hH,hB,hz,q⟩:=h;cases rx;obtain⟨u,rfl,ru⟩:=rv.one;cases ru;obtain⟨z,its,n,r,hl,e⟩:=I.lstM hH;obtain⟨z2,its2,n2,r2,hl2,e2⟩:=I.lstM hB;have hsz:its.toArray.size+its2.toArray.size<=sizeLine:=by rw[List.size_toArray,List.size_toArray];omega
 have hlong:¬(!its.toArray.isEmpty&&Builtin.List.listTooLong (its.toArray.size+its2.toArray.size))=true:=by rw[oP hsz,Bool.and_false];exact au
 refine call_meets F.slot_list_extend ⟨_,e,rfl⟩ F.entry_list_extend (F.args_list_extend_2 _ _)
  (AutoSeq1.list_extend_list_list_0 l its.toArray n b its2.toArray n2 hlong (by rw[List.size_toArray];omega) (by omega)) ⟨e,e2,?_⟩
 refine⟨.non,_,I.lset (its':=its++its2) hH e (by simp) (r.append r2) ?_,rfl,q⟩
 rw[aE];omega
noncomputable def DW:V->List V->Hp->VK->Prop:=λx vs H Q=>∃l xs y,x=.ref l/\vs=[]/\H l=some (.lst xs)/\xs[xs.length - 1]? =some y/\Q y (bx H l (.lst xs.dropLast))
theorem Aa:Da X "list.pop" DW:=by
 intro pins s σ H x vs v us Q I rx rv h;obtain⟨l,xs,y,rfl,rfl,hH,hy,q⟩:=h;cases rx;have hus:=rv.zero;subst hus;obtain⟨z,its,n,r,hl,e⟩:=I.lstM hH;obtain⟨u,hu,ru⟩:=r.get hy
 have hy':its.toArray[its.toArray.size - 1]? =some u:=by show its.toArray[its.length - 1]? =some u;rw[<-Array.getElem?_toList,<-hl];exact hu
 refine call_meets F.slot_list_pop ⟨_,e,rfl⟩ F.entry_list_pop (F.args_list_pop_1 _) (MeetsSeq.list_pop_last l its.toArray n u hy' (by rw[List.size_toArray];omega)) ⟨e,?_⟩
 refine⟨y,_,I.lset (its':=its.dropLast) hH e ?_ r.dropLast ?_,ru,q⟩
 ·show its.toArray.eraseIdxIfInBounds (its.toArray.size - 1)=its.dropLast.toArray;rw[List.size_toArray,List.eraseIdxIfInBounds_toArray,qw]
 ·rw[List.length_dropLast];omega
noncomputable def zF:V->List V->Hp->VK->Prop:=λx vs H Q=>∃l xs,x=.ref l/\vs=[]/\H l=some (.lst xs)/\Q .non (bx H l (.lst []))
theorem u5:Da X "list.clear" zF:=by
 intro pins s σ H x vs v us Q I rx rv h;obtain⟨l,xs,rfl,rfl,hH,q⟩:=h;cases rx;have hus:=rv.zero;subst hus;obtain⟨z,its,n,r,hl,e⟩:=I.lstM hH;refine call_meets F.slot_list_clear ⟨_,e,rfl⟩ F.entry_list_clear (F.args_list_clear_1 _) (AutoSeq1.list_clear_list_0 l its.toArray n (by rw[List.size_toArray];omega)) ⟨e,?_⟩
 exact⟨.non,_,I.lset (its':=[]) (ys:=[]) hH e rfl .nil (Nat.zero_le _),rfl,q⟩
noncomputable def DZ:R2:=λx y H Q=>∃l b xs zs,x=.ref l/\y=.ref b/\H l=some (.lst xs)/\H b=some (.lst zs)/\xs.length+zs.length<=sizeLine/\∀p,H p=none->Q (.ref p) (bx H p (.lst (xs++zs)))
theorem zX:kx X (binaryOp .Add) DZ:=by
 intro pins s σ H x y v u Q I rx ry h;obtain⟨l,b,xs,zs,rfl,rfl,hH,hB,hz,q⟩:=h;cases rx;cases ry;obtain⟨z,its,n,r,hl,e⟩:=I.lstM hH;obtain⟨z2,its2,n2,r2,hl2,e2⟩:=I.lstM hB;refine PySem.P.add_list e e2 ?_ (by rw[List.size_toArray,List.size_toArray];omega)
 have ea:its.toArray++its2.toArray=(its++its2).toArray:=by simp
 rw[ea];exact⟨.ref _,_,I.lnew (t':=s.toks) (r.append r2) (by rw[aE];omega),rfl,q _ I.fresh⟩
end
section
end
section
end
end L2
namespace Att
open PySem PySem.W PySem.Calls PyProof.Rows
theorem j0{P:Params}{h:Heap}:∀(ns:List Int)(vs:List Value),WellAll P h vs (ns.map WData.int)->IntsAre vs ns:=by
 intro ns
 induction ns with
 |nil=>intro vs w;rw[List.map_nil] at w;cases w;exact .nil
 |cons n ns ih=>
  intro vs w;rw[List.map_cons] at w;cases w with
  |cons a b=>cases a;exact .cons _ _ (ih _ b)
theorem sw{l:OpenLaw}{n:Nat}(hn:l.most=some n){P:Params}{h:Heap}{args:List WData}{vals:List Value}
  (hpre:l.row.toRowW.claim.pre args=true)(hwl:WellAll P h vals args):
  ∃a vs ns,vals=[Value.ref a]/\args=[WData.list (ns.map WData.int)]/\h.get? a=some {cls:= .type "list",data:= .seq vs.toArray}/\IntsAre vs ns/\ns.length<=n:=by
 have hsh:WShape.hasAll [] args [.list .int]=true:=(pre_splitW hpre).1;have hc:l.pre.holds [] {args:=args}=true:=(pre_splitW hpre).2;obtain⟨d,r,rfl,h1,h2⟩:=hasAllW_cons hsh;obtain rfl:=hasAllW_nil h2;obtain⟨xs,rfl,h3⟩:=hasW_list h1;obtain⟨ns,rfl⟩:=items_int h3
 have hlen:ns.length<=n:=by
  unfold OpenLaw.pre at hc
  have h4:(WTm.not (.lt (.lit (.int (n:Int))) (.len (.arg 0)))).holds [] {args:=[.list (ns.map .int)]}=true:=by have h4:=(holds_andW hc).1;rw[hn] at h4;exact h4
  have h5:=condW_of h4 (w_not (w_lt w_lit (w_len_list (w_arg rfl))));rw[List.length_map] at h5;refine Nat.le_of_not_lt λq=>?_;have q':(n:Int)<((ns.length:Nat):Int):=by omega
  first
   |(rw[decide_eq_true q'] at h5;exact absurd h5 (by decide))
   |(simp at h5;omega)
 cases hwl with
 |cons w1 w2=>
  cases w2;cases w1 with
  |list ho hall=>exact⟨_,_,ns,rfl,rfl,ho,j0 ns _ hall,hlen⟩
theorem sB(l:OpenLaw)(args:List WData):l.row.toRowW.claim.post args (.bool true) args=true:=
 postW_of (r:=l.row.toRowW) (X:=(true==true))
  (show WShape.has [] (.bool true) .bool=true by first|rfl|decide|simp[WShape.has,WShape.arms,WShape.armsAll])
  (show(WTm.eq .res (.lit (.bool true))).value [] {args:=args,res:=some (.bool true),after:=args}=some (.bool (true==true)) from w_eq_bool (w_res rfl) w_lit) rfl
theorem pA{l:OpenLaw}{n:Nat}{q:Program}{loose:List Str}{XP:(Str->Option Value)->Heap->Prop}{YP:World->Heap->Prop}{d:DefRec}
  (hn:l.most=some n)(hdf:d.params.defaults=[])
  (call:∀(w:World)(s₀ s₁:Shared)(mg mb:Str->Option Value)(fa:Addr)(o:Obj)(pm cd doc:Value)(a:Addr)(vs:List Value) (ns:List Int),
   Ground q loose [] XP w s₀ mg mb s₁.heap->YP w s₁.heap->
   s₁.heap.get? fa=some o->o.data=.func (docDef d.name d.params d.body d.scope pm cd doc)->s₁.heap.CodeRec cd d.name->mg d.name=some (.ref fa)->
   s₁.heap.get? a=some {cls:= .type "list",data:= .seq vs.toArray}->IntsAre vs ns->ns.length<=n->s₁.gens= #[]->
   codeAny (model l.prog w) callerA (.call (.ref fa) ⟨[.ref a],[]⟩) (λr s'=>r=.ok (.ret (.bool true))/\OldK s₁.heap s'.heap/\s'.os=s₁.os/\AllBare s'.gens) s₁):
  WalkO q loose XP YP l.row.toRowW d [] (λf vs=>PySem.call f vs):=by
 intro w s₀ s₁ mg mb G Y fa o pm cd doc dV kV ho hd hcd hD hmg hg args vals as hpre hlay hrd hwl hlo;obtain rfl:dV=.none:=Dflts.none hD hdf;obtain rfl:kV=.none:=Dflts.noKw hD;obtain⟨a,vs,ns,rfl,rfl,hobj,hints,hlen⟩:=sw hn hpre hwl;refine enter_call (codeAny_mono (call w s₀ s₁ mg mb fa o pm cd doc a vs ns G Y ho (fd_plain hd) hcd hmg hobj hints hlen hg) λr s' hq=>?_);obtain⟨rfl,h2,h3,h4⟩:=hq;exact⟨.inl ⟨.bool true,.bool true,[],rfl,λ_=>rfl,.bool true,sB l _,λ_=>⟨List.Pairwise.nil,λ_ hm=>(nomatch hm)⟩⟩,h2,h3,h4⟩
section
end
end Att
namespace L2
open PySem PySem.Spec PyProof.Rows
variable{qual x:Str}{a f:Addr}{w:World}{P:Program}{u:Value}{y:V}{xs:List (List Key×Addr×Value)}{kvs:List (List Key×V)}{H H':Hp}{Q:Value->Shared->Prop}
theorem mt:∀{vs:List Value}{ns:List Int},IntsAre vs ns->bm (ns.map V.int) vs
 |_,_,.nil=>.nil
 |_,_,.cons n t h=>.cons ⟨t,rfl⟩ (mt h)
noncomputable def ya(H:Hp):Prop:=∀b,H b=none∨∃o xs,H b=some (.frz o (.lst xs))
theorem va{K:al}{mg mb:Str->Option Value}{CX:v_}{k:Nat}{fa:Addr}{fd:FuncData}{sp:Sp}{s₁:Shared}{vs:List Value}{ns:List Int}
  (KX:K.In s₁.heap)(hns:s₁.heap.Ns mainGlobals mg)(hb:s₁.heap.Ns builtinsNs mb)(hbb:∀x:Str,x≠ "__name__" ->mb x=bootBuiltins x) (hlim:s₁.heap.NoLimit)(hg:s₁.gens= #[])
  (ha:s₁.heap.get? a=some {cls:= .type "list",data:= .seq vs.toArray}) (hi:IntsAre vs ns)(hl:ns.length<=sizeLine)(hr:Room k callerA)
  (F:∀base:Heap,K.In base->base.Ns mainGlobals mg->FnOk P w K mg base CX k fa fd [x] sp)(hbind:∀(s:Shared)(u:Value),BindsTo s fd ⟨[u],[]⟩ [(x,u)])
  (hsp:∀H:Hp,ya H->ez K H a (ns.map V.int)->sp [.ref a] H (λv _=>v=.bl true) λ_ _ _=>False)
  (hCX:∀H e s',CX [] H s₁ (λ_ _ _=>False) e s'->False):
  codeAny (model P w) callerA (.call (.ref fa) ⟨[.ref a],[]⟩) (λr s'=>r=.ok (.ret (.bool true))/\OldK s₁.heap s'.heap/\s'.os=s₁.os/\AllBare s'.gens) s₁:=by
 have rv:=mt hi;have lenV:=hi.length
 have core:∀H:Hp,ya H->ez K H a (ns.map V.int)->iI P w H s₁.heap->(∀b,H b≠none->b=a)->(H a≠none->K.lookup a=none)->
   codeAny (model P w) callerA (.call (.ref fa) ⟨[.ref a],[]⟩) (λr s'=>r=.ok (.ret (.bool true))/\OldK s₁.heap s'.heap/\s'.os=s₁.os/\AllBare s'.gens) s₁:=by
  intro H hO hS hok hA hK;have base_of:∀{b:Addr}{o:Obj},s₁.heap.get? b=some o->H b=none->(nK s₁.heap H).get? b=some o:=λe n=>vt e n
  have noA:∀{b:Addr}{o:Obj}{es:Array DictEntry}{ep:Nat},s₁.heap.get? b=some o->o.data=.dict es ep->H b=none:=λ{b o es ep} e d=>by
   cases q:H b with
   |none=>rfl
   |some u=>
    have e':b=a:=hA b (by rw[q];simp)
    subst e';rw[ha] at e;cases e;have d':Data.seq vs.toArray _=Data.dict es ep:=d;cases d'
  have nsK:∀{b:Addr}{m:Str->Option Value},s₁.heap.Ns b m->(nK s₁.heap H).Ns b m:=λ{b m} ⟨o,es,ep,e,d,r⟩=>⟨o,es,ep,base_of e (noA e d),d,r⟩
  have hKb:K.In (nK s₁.heap H):=λb o e=>base_of (KX b o e) (by
   cases q:H b with
   |none=>rfl
   |some u=>
    have e':b=a:=hA b (by rw[q];simp)
    subst e';rw[hK (by rw[q];simp)] at e;cases e)
  have hM:Mod K mg (nK s₁.heap H):=⟨hKb,nsK hns,⟨mb,nsK hb,hbb⟩,let⟨mc,h1,h2⟩:=hlim;⟨mc,nsK h1,h2⟩⟩;have e0:Env0 P w K mg (nK s₁.heap H) callerA [] s₁ H:=⟨rfl,hM,λb o e=>xu e,Nat.le_of_eq (sP _ _),trivial,λb hb=>absurd (show b∈([]:List Addr) from hb) (by simp),hok,.of_eq hg⟩
  refine codeAny_mono ((F _ hKb (nsK hns)).run callerA [] s₁ H ⟨[.ref a],[]⟩ [.ref a] [.ref a] _ _ hr e0 (hbind s₁ (.ref a)) (.cons rfl .nil) (hsp H hO hS)) λr s' h=>?_;cases r with
  |error e=>exact(hCX H e s' h).elim
  |ok fl=>
   cases fl with
   |next=>exact False.elim h
   |brk=>exact False.elim h
   |cont=>exact False.elim h
   |ret u=>
    obtain⟨v,H',os,bare,un,hok',r',q⟩:=h;have q':v=.bl true:=q;subst q';obtain rfl:u=Value.bool true:=r';refine⟨rfl,OldK.of_keep λb o e=>?_,os,bare⟩;cases q:H b with
    |none=>exact un.keep b o e q (by intro z;exact absurd (show b∈([]:List Addr) from z) (by simp)) (by simp)
    |some u=>
     rcases hO b with z|⟨ob,xs,z⟩
     ·rw[q] at z;cases z
     ·have z2:=un.frzs b ob _ z;obtain⟨e1,_⟩:=hok b _ z;obtain⟨e2,_⟩:=hok' b _ z2;rw[e] at e1;cases e1;exact e2
 cases hk:K.lookup a with
 |some o=>
  have e:=KX a o hk;rw[ha] at e;cases e;refine core (λ_=>none) (λ_=>.inl rfl) (.inr ⟨_,vs.toArray,_,hk,rfl,rfl,rfl,by rw[List.size_toArray,lenV];exact hl,by simpa using rv⟩) (λb u z=>by have z':(none:Option HO)=some u:=z;cases z') (λb z=>absurd rfl z) λz=>absurd rfl z
 |none=>
  refine core (λb=>if b=a then some (.frz {cls:= .type "list",data:= .seq vs.toArray} (.lst (ns.map V.int))) else none) (λb=>?_) (.inl (.inr ⟨{cls:= .type "list",data:= .seq vs.toArray},if_pos rfl⟩)) (λb u z=>?_) (λb z=>?_) λ_=>hk
  ·by_cases hb:b=a
   ·exact .inr ⟨_,_,if_pos hb⟩
   ·exact .inl (if_neg hb)
  ·by_cases hb:b=a
   ·have z':=(if_pos hb).symm.trans z;cases z';subst hb;exact⟨ha,by rw[List.length_map];exact hl,vs,_,rv,ha⟩
   ·have z':=(if_neg hb).symm.trans z;cases z'
  ·by_cases hb:b=a
   ·exact hb
   ·exact absurd (if_neg hb) z
theorem wg{l:PySem.W.OpenLaw}{n k:Nat}{q:Program}{loose:List Str}{XP:(Str->Option Value)->Heap->Prop}{YP:World->Heap->Prop}{d:DefRec}{K:Params->al}{CX:World->v_}{sp:World->Sp}
  (hn:l.most=some n)(hn2:n<=sizeLine)(hdf:d.params.defaults=[])(hr:Room k callerA)
  (hY:∀(w:World)(h:Heap),YP w h->(K w.params).In h)
  (F:∀(w:World)(mg:Str->Option Value)(fa:Addr)(h:Heap),(K w.params).In h->h.Ns mainGlobals mg->mg d.name=some (.ref fa)->
   ∃fd:FuncData,(∀(s:Shared)(u:Value),BindsTo s fd ⟨[u],[]⟩ [(x,u)])/\
    ∀base:Heap,(K w.params).In base->base.Ns mainGlobals mg->FnOk l.prog w (K w.params) mg base (CX w) k fa fd [x] (sp w))
  (hsp:∀(w:World)(H:Hp)(a:Addr)(ns:List Int),ns.length<=n->ya H->ez (K w.params) H a (ns.map V.int)->sp w [.ref a] H (λv _=>v=.bl true) λ_ _ _=>False)
  (hCX:∀(w:World)(H:Hp)(s:Shared)(e:Value)(s':Shared),CX w [] H s (λ_ _ _=>False) e s'->False):
  PySem.W.WalkO q loose XP YP l.row.toRowW d [] (λf vs=>PySem.call f vs):=by
 refine Att.pA hn hdf λw s₀ s₁ mg mb fa o pm cd doc a vs ns G Y ho hd hcd hmg hobj hints hlen hg=>?_;have KX:=hY w _ Y;obtain⟨fd,hb,hF⟩:=F w mg fa _ KX G.T.g hmg;exact va KX G.T.g G.T.b G.T.builtins G.T.nolimit hg hobj hints (aT hlen hn2) hr hF hb (λH hO hS=>hsp w H a ns hlen hO hS) λH e s'=>hCX w H s₁ e s'
noncomputable def fA(s:Stmt):Arguments:=match s with
 | .FunctionDef _ a _ _ _ _ _ _ _ _=>a
 |_=>{posonlyargs:=[],args:=[],vararg:=none,kwonlyargs:=[],kw_defaults:=[],kwarg:=none,defaults:=[]}
noncomputable def d6(s:Stmt):List Stmt:=match s with
 | .FunctionDef _ _ b _ _ _ _ _ _ _=>b
 |_=>[]
noncomputable def bT(s:Stmt):Scope:=match s with
 | .FunctionDef _ _ _ _ _ _ sc _ _ _=>sc
 |_=>{kind:= .function,names:=[],isGenerator:=false,isCoroutine:=false}
noncomputable abbrev E0:XK:=λ_ _ _=>False
structure Fun(K:al)(x qual:Str)(st:Stmt)(f:Addr)(fd:FuncData):Prop where
 ex:∃(oc:Value)(od:Option Addr)(kV doc pm:Value)(an:Option Addr)(cdv ct:Value)(osl:Array (Option Value)),
  fd=PySem.W.fnOf x qual (fA st) (d6 st) (bT st) .none kV doc pm an cdv ct/\K.lookup f=some ⟨oc,od,.func fd,osl⟩/\PySem.W.codeIn K cdv qual=true
 kp:PySem.W.keepIn K (.ref f)=true
section
variable{K:al}
theorem Fun.binds{st:Stmt}{fd:FuncData}{ps:List Str}(F:Fun K x qual st f fd)
  (h:∀(kV doc pm:Value)(an:Option Addr)(cdv ct:Value)(us:List Value),us.length=ps.length->bindArgs (PySem.W.fnOf x qual (fA st) (d6 st) (bT st) .none kV doc pm an cdv ct) ⟨us,[]⟩=pure (ps.zip us)):Binds K fd ps []:=by
 obtain⟨oc,od,kV,doc,pm,an,cdv,ct,osl,rfl,lk,hcd⟩:=F.ex;exact .all (h kV doc pm an cdv ct)
theorem Au{st:Stmt}{oc:Value}{od an:Option Addr}{osl:Array (Option Value)}{kV doc pm cdv ct:Value}(l:K.lookup f=some ⟨oc,od,.func (PySem.W.fnOf x qual (fA st) (d6 st) (bT st) .none kV doc pm an cdv ct),osl⟩)
  (c:PySem.W.codeIn K cdv qual=true)(k:PySem.W.keepIn K (.ref f)=true):Fun K x qual st f (PySem.W.fnOf x qual (fA st) (d6 st) (bT st) .none kV doc pm an cdv ct):=⟨⟨oc,od,kV,doc,pm,an,cdv,ct,osl,rfl,l,c⟩,k⟩
end
section
end
theorem D6{A B:Prop}(h:A):if true=true then A else B:=by rw[if_pos rfl];exact h
set_option maxHeartbeats 4000000
set_option linter.unusedVariables false
section
variable{κ:Type}[DecidableEq κ]
noncomputable def fM(kvs:List (κ×V))(k:κ):Option V:=(kvs.find? λkv=>decide (kv.1=k)).map (·.2)
noncomputable def putK(kvs:List (κ×V))(k:κ)(v:V):List (κ×V):=
 if(kvs.any λkv=>decide (kv.1=k))=true then kvs.map (λkv=>if kv.1=k then(kv.1,v) else kv) else kvs++[(k,v)]
theorem tM{k:κ}:fM ([]:List (κ×V)) k=none:=rfl
theorem gQ{p:κ×V}{r:List (κ×V)}{k:κ}(e:p.1=k):fM (p::r) k=some p.2:=by simp[fM,List.find?_cons,e]
theorem eW{p:κ×V}{r:List (κ×V)}{k:κ}(e:¬p.1=k):fM (p::r) k=fM r k:=by simp[fM,List.find?_cons,e]
theorem kC(k:κ):∀kvs:List (κ×V),(kvs.any λkv=>decide (kv.1=k))=(fM kvs k).isSome
 |[]=>rfl
 |p::r=>by
  rw[List.any_cons];by_cases e:p.1=k
  ·simp only[gQ e,decide_eq_true e,Bool.true_or,Option.isSome_some]
  ·rw[eW e,decide_eq_false e,Bool.false_or];exact kC k r
theorem fh(kvs:List (κ×V))(k:κ)(v:V):(putK kvs k v).length<=kvs.length+1:=by
 unfold putK;split
 ·rw[List.length_map];omega
 ·rw[aE,List.length_cons,List.length_nil];omega
theorem uF{kvs:List (κ×V)}{k:κ}(v:V)(h:fM kvs k=none):putK kvs k v=kvs++[(k,v)]:=by
 unfold putK;rw[kC,h];exact if_neg (by decide)
theorem iA.isSome_eq{o:Option V}{u:Option Value}(r:iA o u):o.isSome=u.isSome:=by
 cases o with
 |none=>cases u with
  |none=>rfl
  |some _=>exact(show False from r).elim
 |some _=>cases u with
  |none=>exact(show False from r).elim
  |some _=>rfl
theorem KV.val{kvs:List (κ×V)}{vs:List (κ×Value)}(r:KV kvs vs)(k:κ):iA (fM kvs k) (valueAt vs k):=by
 unfold KV at r
 induction r with
 |nil=>exact True.intro
 | @cons p q ps qs h t ih=>
  obtain⟨h1,h2⟩:=h;by_cases e:p.1=k
  ·have e':q.1=k:=h1.symm.trans e;have b:valueAt (q::qs) k=some q.2:=by simp[valueAt,List.find?_cons,e']
   rw[gQ e,b];exact h2
  ·have e':¬q.1=k:=λz=>e (h1.trans z);have b:valueAt (q::qs) k=valueAt qs k:=by simp[valueAt,List.find?_cons,e']
   rw[eW e,b];exact ih
theorem KV.any{kvs:List (κ×V)}{vs:List (κ×Value)}(r:KV kvs vs)(k:κ):(kvs.any λkv=>decide (kv.1=k))=vs.any λkv=>decide (kv.1=k):=by
 unfold KV at r
 induction r with
 |nil=>rfl
 |cons h t ih=>rw[List.any_cons,List.any_cons,ih,h.1]
theorem KV.repl{kvs:List (κ×V)}{vs:List (κ×Value)}(r:KV kvs vs)(k:κ)(ry:RelV y u):
  KV (kvs.map λkv=>if kv.1=k then(kv.1,y) else kv) (vs.map λkv=>if kv.1=k then(kv.1,u) else kv):=by
 unfold KV at r ⊢
 induction r with
 |nil=>exact .nil
 | @cons p q ps qs h t ih=>
  rw[List.map_cons,List.map_cons];refine .cons ?_ ih;obtain⟨h1,h2⟩:=h;by_cases e:p.1=k
  ·rw[if_pos e,if_pos (h1.symm.trans e)];exact⟨h1,ry⟩
  ·rw[if_neg e,if_neg (λz=>e (h1.trans z))];exact⟨h1,h2⟩
theorem KV.put{kvs:List (κ×V)}{vs:List (κ×Value)}(r:KV kvs vs)(k:κ)(ry:RelV y u):KV (putK kvs k y) (stored vs k u):=by
 unfold putK stored;rw[r.any k];by_cases e:(vs.any λkv=>decide (kv.1=k))=true
 ·rw[if_pos e,if_pos e];exact r.repl k ry
 ·rw[if_neg e,if_neg e];exact Paired.snoc r ⟨rfl,ry⟩
theorem KV.length{kvs:List (κ×V)}{vs:List (κ×Value)}(r:KV kvs vs):kvs.length=vs.length:=Paired.length r
end
theorem iZ{k:Key}(r:RelV (kV k) u):(b0 P w).is k u=true:=by
 cases k with
 |inl i=>obtain⟨t,e⟩:=(show ∃t,u=Value.int i t from r);subst e;exact oS P w i t
 |inr x=>obtain⟨t,e⟩:=(show ∃t,u=Value.str x t from r);subst e;exact oR P w x t
theorem mG{P:Program}{w:World}:∀{ks:List Key}{us:List Value},bm (ks.map kV) us->ItemsAre (b0 P w) ks us
 |[],_,r=>by rw[List.map_nil] at r;cases r;exact .nil
 |k::ks,_,r=>by
  rw[List.map_cons] at r;cases r with
  |cons h t=>exact .cons (iZ h) (mG t)
noncomputable abbrev KT(H:Hp):List (List Key×V)->List (List Key×Addr×Value)->Prop:=Paired λp q=>p.1=q.1/\H q.2.1=some (.tup (p.1.map kV))/\RelV p.2 q.2.2
theorem KT.val(r:KT H kvs xs)(k:List Key):iA (fM kvs k) ((atKey xs k).map (·.2)):=by
 induction r with
 |nil=>exact True.intro
 | @cons p q ps qs h t ih=>
  obtain⟨h1,_,h2⟩:=h;by_cases e:p.1=k
  ·have e':q.1=k:=h1.symm.trans e;have b:atKey (q::qs) k=some q.2:=by simp[atKey,List.find?_cons,e']
   rw[gQ e,b];exact h2
  ·have e':¬q.1=k:=λz=>e (h1.trans z);have b:atKey (q::qs) k=atKey qs k:=by simp[atKey,List.find?_cons,e']
   rw[eW e,b];exact ih
theorem KT.repl(r:KT H kvs xs)(k:List Key)(ry:RelV y u):
  KT H (kvs.map λkv=>if kv.1=k then(kv.1,y) else kv) (xs.map (putAt k u)):=by
 induction r with
 |nil=>exact .nil
 | @cons p q ps qs h t ih=>
  rw[List.map_cons,List.map_cons];refine .cons ?_ ih;obtain⟨h1,h2,h3⟩:=h;unfold putAt;by_cases e:p.1=k
  ·rw[if_pos e,if_pos (h1.symm.trans e)];exact⟨h1,h2,ry⟩
  ·rw[if_neg e,if_neg (λz=>e (h1.trans z))];exact⟨h1,h2,h3⟩
theorem KT.put(r:KT H kvs xs)(k:List Key){b:Addr}(hb:H b=some (.tup (k.map kV)))(ry:RelV y u):
  KT H (putK kvs k y) (storedH xs k b u):=by
 have e:(kvs.any λkv=>decide (kv.1=k))=(atKey xs k).isSome:=by rw[kC,(r.val k).isSome_eq,Option.isSome_map]
 unfold putK storedH;rw[e];by_cases q:(atKey xs k).isSome=true
 ·rw[if_pos q,if_pos q];exact r.repl k ry
 ·rw[if_neg q,if_neg q];exact Paired.snoc r ⟨rfl,hb,ry⟩
theorem KT.keeps(r:KT H kvs xs)(ht:∀b ys,H b=some (.tup ys)->H' b=some (.tup ys)):KT H' kvs xs:=
 Paired.mapP r λ_ _ z=>⟨z.1,ht _ _ z.2.1,z.2.2⟩
section
variable{P:Program}{w:World}{H:Hp}{h:Heap}{a:Addr}
theorem yp{u:HO}(ok:iI P w H h)(e:Rd H a u):cN P w H h a u:=e.ok ok
theorem mN{kvs:List (Key×V)}(ok:iI P w H h)(e:Rd H a (.dK kvs)):kvs.length<=sizeLine/\(a==sysModules)=false/\∃vs,KV kvs vs/\h.DictOf (b0 P w) a vs:=
 show cN P w H h a (.dK kvs) from yp ok e
theorem yI{kvs:List (Key×V)}(ok:iI P w H h)(e:H a=some (.dK kvs)):kvs.length<=sizeLine/\(a==sysModules)=false/\∃vs,KV kvs vs/\h.DictOf (b0 P w) a vs:=mN ok (.inl e)
theorem k8{ks:List Key}(ok:iI P w H h)(e:H a=some (.tup (ks.map kV))):(tupleKind (b0 P w)).is h ks a:=by
 obtain⟨_,its,r,o,h1,h2,n,h3⟩:=(show cN P w H h a (.tup (ks.map kV)) from ok a _ e);exact⟨o,its.toArray,n,h1,h2,h3,by simpa using mG r⟩
theorem pd(ok:iI P w H h)(e:Rd H a (.dT kvs)):kvs.length<=sizeLine/\(a==sysModules)=false/\
  ∃xs,KT H kvs xs/\h.DictOfH (tupleKind (b0 P w)) a xs:=by
 obtain⟨z,y,xs,r,o,es,ep,h1,h2,h3,h4,h5⟩:=(show cN P w H h a (.dT kvs) from yp ok e);refine⟨z,y,xs,r,o,es,ep,h1,h2,h3,h4,λx hx=>?_,h5⟩
 have all:∀{l:List (List Key×V)}{m:List (List Key×Addr×Value)},KT H l m->∀x∈m,(tupleKind (b0 P w)).is h x.1 x.2.1:=by
  intro l m q
  induction q with
  |nil=>intro x hx;exact nomatch hx
  | @cons p q ps qs hq t ih=>
   intro x hx;rcases List.mem_cons.mp hx with e|hx
   ·subst e;exact k8 ok (by rw[<-hq.1];exact hq.2.1)
   ·exact ih x hx
 exact all r x hx
theorem CQ(ok:iI P w H h)(e:H a=some (.dT kvs)):kvs.length<=sizeLine/\(a==sysModules)=false/\
  ∃xs,KT H kvs xs/\h.DictOfH (tupleKind (b0 P w)) a xs:=pd ok (.inl e)
end
noncomputable def mn(H:Hp)(a:Addr)(y:V)(r:Option V):Prop:=
 (∃kvs k,Rd H a (.dK kvs)/\y=kV k/\r=fM kvs k)∨∃kvs k b,Rd H a (.dT kvs)/\y=.ref b/\H b=some (.tup (k.map kV))/\r=fM kvs k
noncomputable def v8(H:Hp)(a:Addr)(y v:V)(H':Hp):Prop:=
 (∃kvs k,H a=some (.dK kvs)/\y=kV k/\kvs.length<sizeLine/\H'=bx H a (.dK (putK kvs k v)))∨
 ∃kvs k b,H a=some (.dT kvs)/\y=.ref b/\H b=some (.tup (k.map kV))/\kvs.length<sizeLine/\H'=bx H a (.dT (putK kvs k v))
theorem mn.k{H:Hp}{a:Addr}{kvs:List (Key×V)}{k:Key}(e:H a=some (.dK kvs)):mn H a (kV k) (fM kvs k):= .inl ⟨kvs,k,.inl e,rfl,rfl⟩
theorem v8.k{H:Hp}{a:Addr}{kvs:List (Key×V)}{k:Key}{v:V}(e:H a=some (.dK kvs))(hl:kvs.length<sizeLine):v8 H a (kV k) v (bx H a (.dK (putK kvs k v))):= .inl ⟨kvs,k,e,rfl,hl,rfl⟩
section
variable{X:Cx}{pins:List (Addr×Obj)}{σ:St}{H:Hp}{s:Shared}{a:Addr}{y v:V}{u r:Value}{o:Option V}{A:Around}{E:Value->Shared->Prop}
theorem Inv.big(I:Inv X pins σ H s):sysModules<s.heap.objs.size:=by
 have h:mainGlobals<s.heap.objs.size:=(I.mod.glob.keeps I.bk).lt;exact Nat.lt_trans (by decide) h
theorem sX(hu:A.units+1<cLine)(I:Inv X pins σ H s)(g:mn H a y (some v))(ry:RelV y u)(h:∀w' s',Inv X pins σ H s'->RelV v w'->Q w' s'):
  wpAny (model X.prog X.w) A (getItem (.ref a) u) Q E s:=by
 rcases g with⟨kvs,k,e,ey,l⟩|⟨kvs,k,b,e,ey,eb,l⟩
 ·subst ey;obtain⟨z,hd,vs,rel,dd⟩:=mN I.hok e;obtain⟨w',hw,rw'⟩:=iA.some_of (v:=v) (o:=valueAt vs k) (by rw[l];exact rel.val k)
  exact wpAny_getItem_of (iZ ry) dd.mapOf hw (h w' _ (I.tok _) rw')
 ·subst ey;cases(show u=Value.ref b from ry);obtain⟨z,hd,xs,rel,dd⟩:=pd I.hok e;obtain⟨w',hw,rw'⟩:=iA.some_of (v:=v) (o:=(atKey xs k).map (·.2)) (by rw[l];exact rel.val k)
  obtain⟨p,hp,hp2⟩:=Option.map_eq_some_iff.mp hw;refine wpAny_getItem_heap (tupleKind_room_in1 hu) (k8 I.hok eb) dd hp ?_;rw[hp2];exact h w' _ (I.tok _) rw'
theorem Ek(hu:A.units+1<cLine)(I:Inv X pins σ H s)(g:mn H a y o)(ry:RelV y u)(h:∀s',Inv X pins σ H s'->Q (.bool o.isSome) s'):
  wpAny (model X.prog X.w) A (compareOp .In u (.ref a)) Q E s:=by
 rcases g with⟨kvs,k,e,ey,l⟩|⟨kvs,k,b,e,ey,eb,l⟩
 ·subst ey;obtain⟨z,hd,vs,rel,dd⟩:=mN I.hok e;refine wpAny_in_of (iZ ry) hd dd.mapOf ?_;rw[<-(rel.val k).isSome_eq,<-l];exact h _ (I.tok _)
 ·subst ey;cases(show u=Value.ref b from ry);obtain⟨z,hd,xs,rel,dd⟩:=pd I.hok e;refine wpAny_in_heap (tupleKind_room_in1 hu) (k8 I.hok eb) hd dd ?_;have q:=(rel.val k).isSome_eq;rw[Option.isSome_map] at q;rw[<-q,<-l];exact h _ (I.tok _)
theorem xW(hu:A.units+1<cLine)(I:Inv X pins σ H s)(g:mn H a y o)(ry:RelV y u)(h:∀s',Inv X pins σ H s'->Q (.bool (!o.isSome)) s'):
  wpAny (model X.prog X.w) A (compareOp .NotIn u (.ref a)) Q E s:=by
 rcases g with⟨kvs,k,e,ey,l⟩|⟨kvs,k,b,e,ey,eb,l⟩
 ·subst ey;obtain⟨z,hd,vs,rel,dd⟩:=mN I.hok e;refine wpAny_notIn_of (iZ ry) hd dd.mapOf ?_;rw[<-(rel.val k).isSome_eq,<-l];exact h _ (I.tok _)
 ·subst ey;cases(show u=Value.ref b from ry);obtain⟨z,hd,xs,rel,dd⟩:=pd I.hok e;refine wpAny_notIn_heap (tupleKind_room_in1 hu) (k8 I.hok eb) hd dd ?_;have q:=(rel.val k).isSome_eq;rw[Option.isSome_map] at q;rw[<-q,<-l];exact h _ (I.tok _)
theorem nR{h':Heap}{t':Nat}{ob:HO}(I:Inv X pins σ H s)(mu:C_ (H a))(hs:Heap.SameBut a s.heap h')(he:∃q,h'.get? a=some q)(new:cN X.prog X.w (bx H a ob) h' a ob):
  Inv X pins σ (bx H a ob) {s with heap:=h',toks:=t'}:=
 I.write (x:=a) (e:=a) mu (.inl rfl) (λb q hb z=>(hs.2 b hb).trans z) he new
theorem nQ{h':Heap}{kvs:List (Key×V)}{vs:List (Key×Value)}(z:kvs.length<=sizeLine)(hd:(a==sysModules)=false)(rel:KV kvs vs)(dd:h'.DictOf (b0 P w) a vs):
  cN P w H' h' a (.dK kvs):=⟨z,hd,vs,rel,dd⟩
theorem sW{Q:Unit->Shared->Prop}(hu:A.units+1<cLine)(I:Inv X pins σ H s)(g:v8 H a y v H')(ry:RelV y u)(rv:RelV v r)(h:∀s',Inv X pins σ H' s'->Q () s'):
  wpAny (model X.prog X.w) A (setItem (.ref a) u r) Q E s:=by
 rcases g with⟨kvs,k,e,ey,l,eH⟩|⟨kvs,k,b,e,ey,eb,l,eH⟩
 ·subst ey eH;obtain⟨z,hd,vs,rel,dd⟩:=yI I.hok e;have hz:vs.length<=sizeLine:=by rw[<-rel.length];exact z
  have hl:(putK kvs k v).length<=sizeLine:=by have:=fh kvs k v;omega
  refine wpAny_setItem_pairs (hsz:=hz) (iZ ry) dd λh' dd' hs=>h _ ?_;have he:∃q,h'.get? a=some q:=let⟨q,_,_,hq,_⟩:=dd';⟨q,hq⟩;exact nR I (by rw[e];exact True.intro) hs he (nQ hl hd (rel.put k rv) dd')
 ·subst ey eH;cases(show u=Value.ref b from ry);obtain⟨z,hd,xs,rel,dd⟩:=CQ I.hok e;have hz:xs.length<=sizeLine:=by rw[<-Paired.length rel];exact z
  have hl:(putK kvs k v).length<=sizeLine:=by have:=fh kvs k v;omega
  refine wpAny_setItem_heap (hsz:=hz) (tupleKind_room_in1 hu) (k8 I.hok eb) dd λh' dd' hs=>h _ ?_;obtain⟨q,es,ep,hq,h2,h3,h4,_,h5⟩:=dd';refine nR I (by rw[e];exact True.intro) hs ⟨q,hq⟩ ⟨hl,hd,_,(rel.put k eb rv).keeps λc ys ec=>?_,q,es,ep,hq,h2,h3,h4,h5⟩
  rw[aD (fN ec e (λz=>nomatch z))];exact ec
end
section
end
theorem pf{X:Cx}{pins:List (Addr×Obj)}{σ:St}{s:Shared}{o:Option V}(I:Inv X pins σ H s)(g:mn H a y o):s.TypeIs (.ref a) "dict":=by
 rcases g with⟨kvs,k,e,_,_⟩|⟨kvs,k,b,e,_,_,_⟩
 ·obtain⟨_,_,vs,_,dd⟩:=mN I.hok e;exact dd.typeIs
 ·obtain⟨_,_,xs,_,dd⟩:=pd I.hok e;exact dd.typeIs
noncomputable def BV(td ty tv:TE):TS:=λD σ H=>tv σ H λv H1=>td σ H1 λx H2=>ty σ H2 λy H3=>∃a H4,x=.ref a/\v8 H3 a y v H4/\D.nx σ H4
section
variable{X:Cx}{o i value:Expr}{pos pos':Pos}{td ty tv:TE}
theorem xj(hu:X.A.units+1<cLine)(ho:PE X o td)(hi:PE X i ty)(hv:PE X value tv)(hs:swapsWith value (some (.Subscript o i pos')) pos.line X.env=pure false):
  PS X (.Assign [.Subscript o i pos'] value pos) (BV td ty tv):=by
 intro pins s σ H D I h;refine wpAny_Assign_Subscript (bQ (hv pins s σ H _ I h) λr s1 ⟨v,H1,I1,rv,q1⟩=>bQ (ho pins s1 σ H1 _ I1 q1) λu s2 ⟨x,H2,I2,rx,q2⟩=>bQ (hi pins s2 σ H2 _ I2 q2) λiv s3 ⟨y,H3,I3,ry,a,H4,ex,g,q3⟩=>?_) hs;subst ex;obtain rfl:u=Value.ref a:=rx;exact sW hu I3 g ry rv λs4 I4=>⟨σ,H4,I4,q3⟩
end
theorem vU(h:Heap)(hb:sysModules<h.objs.size):cN P w H (h.push {cls:= .type "dict",data:= .dict #[]}) h.objs.size (.dK []):=
 ⟨Nat.zero_le _,beq_eq_false_iff_ne.mpr (Ne.symm (aj hb)),[],.nil,Heap.DictOf.new h⟩
section
end
noncomputable def nb:List (TE×TE)->St->Hp->(List (V×V)->Hp->Prop)->Prop
 |[],_,H,Q=>Q [] H
 |(tk,tv)::r,σ,H,Q=>tk σ H λx H1=>tv σ H1 λy H2=>nb r σ H2 λps H3=>Q ((x,y)::ps) H3
noncomputable abbrev VV:List (V×V)->List (Value×Value)->Prop:=Paired λp q=>RelV p.1 q.1/\RelV p.2 q.2
noncomputable def C8(X:Cx)(pos:Pos)(keys:List (Option Expr))(values:List Expr)(trs:List (TE×TE)):Prop:=
 ∀(pins:List (Addr×Obj))(s:Shared)(σ:St)(H:Hp)(Q:List (V×V)->Hp->Prop),Inv X pins σ H s->nb trs σ H Q->
  wpAny (model X.prog X.w) X.A (evalPairs (pairTrees keys values X.env pos)) (λvs s'=>∃ps H',Inv X pins σ H' s'/\VV ps vs/\Q ps H') X.xe s
theorem xk{X:Cx}{pos:Pos}:C8 X pos [] [] []:=λpins s σ H Q I h=>pairTrees_nil_walk ⟨[],H,I,.nil,h⟩
theorem uL{X:Cx}{pos:Pos}{k v:Expr}{ks:List (Option Expr)}{vs:List Expr}{tk tv:TE}{trs:List (TE×TE)}(hk:PE X k tk)(hv:PE X v tv)(hr:C8 X pos ks vs trs):
  C8 X pos (some k::ks) (v::vs) ((tk,tv)::trs):=λpins s σ H Q I h=>
 pairTrees_cons_walk (bQ (hk pins s σ H _ I h) λu s1 ⟨x,H1,I1,rx,q1⟩=>bQ (hv pins s1 σ H1 _ I1 q1) λw2 s2 ⟨y,H2,I2,ry,q2⟩=>
  bQ (hr pins s2 σ H2 _ I2 q2) λws s3 ⟨ps,H3,I3,rel,q3⟩=>⟨(x,y)::ps,H3,I3,.cons ⟨rx,ry⟩ rel,q3⟩)
noncomputable def gV(kvs more:List (Key×V)):List (Key×V):=more.foldl (λacc kv=>putK acc kv.1 kv.2) kvs
theorem KV.merge:∀{more:List (Key×V)}{rs:List (Key×Value)}{kvs:List (Key×V)}{vs:List (Key×Value)},KV more rs->KV kvs vs->KV (gV kvs more) (merged vs rs):=by
 intro more rs kvs vs r;unfold KV at r
 induction r generalizing kvs vs with
 |nil=>intro q;exact q
 | @cons p q ps qs h t ih=>
  intro r0
  have e:KV (putK kvs p.1 p.2) (stored vs q.1 q.2):=by have:=r0.put p.1 h.2;rw[<-h.1];exact this
  exact ih e
theorem iC:∀(more kvs:List (Key×V)),(gV kvs more).length<=kvs.length+more.length
 |[],kvs=>by show kvs.length<=kvs.length+0;omega
 |p::r,kvs=>by have h1:=iC r (putK kvs p.1 p.2);have h2:=fh kvs p.1 p.2;show(gV (putK kvs p.1 p.2) r).length<=_;rw[List.length_cons];omega
theorem lN{P:Program}{w:World}:∀{kvs:List (Key×V)}{ws:List (Value×Value)},VV (kvs.map λkv=>(kV kv.1,kv.2)) ws->∃rs,Carries (b0 P w) ws rs/\KV kvs rs
 |[],_,r=>by rw[List.map_nil] at r;cases r;exact⟨[],True.intro,.nil⟩
 |p::kvs,_,r=>by
  rw[List.map_cons] at r;cases r with
  | @cons a b as bs h t=>obtain⟨rs,c,q⟩:=lN (P:=P) (w:=w) t;obtain⟨b1,b2⟩:=b;exact⟨(p.1,b2)::rs,⟨iZ h.1,rfl,c⟩,.cons ⟨rfl,h.2⟩ q⟩
noncomputable def BC(trs:List (TE×TE)):TE:=λσ H Q=>∀p,H p=none->nb trs σ (bx H p (.dK [])) λps H2=>H2 p=some (.dK [])/\∃kvs:List (Key×V),ps=kvs.map (λkv=>(kV kv.1,kv.2))/\kvs.length<=15/\Q (.ref p) (bx H2 p (.dK (gV [] kvs)))
theorem xm{X:Cx}{pos:Pos}{keys:List (Option Expr)}{values:List Expr}{trs:List (TE×TE)}(h:C8 X pos keys values trs)(hall:keys.all (·.isSome)=true)(hl:keys.length=values.length)(h0:keys≠[])
  (h15:keys.length<=15):PE X (.Dict keys values pos) (BC trs):=by
 intro pins s σ H Q I q;have hn:=I.hok.fresh (ae s.heap.objs.size);have I1:=I.laid (a:=s.heap.objs.size) (o:= .dK []) (h':=s.heap.push {cls:= .type "dict",data:= .dict #[]}) (t':=s.toks) (λ_ _ q=>ac _ q) (ae _) (vU s.heap I.big);refine wpAny_Dict_walk (knd:=b0 X.prog X.w) hall hl h0 h15 (bQ (h pins _ σ _ _ I1 (q _ hn)) λws s2 hp=>?_);obtain⟨ps,H2,I2,rel,e,kvs,ep,lk,q2⟩:=hp;subst ep;obtain⟨rs,c,rk⟩:=lN (P:=X.prog) (w:=X.w) rel;obtain⟨z,hd,vs0,r0,dd⟩:=yI I2.hok e;cases r0;refine⟨rs,c,dd,λh' dd' hs=>⟨.ref s.heap.objs.size,_,?_,rfl,q2⟩⟩
 have hz:(gV [] kvs).length<=sizeLine:=by have h1:=iC kvs [];rw[List.length_nil] at h1;rw[sizeLine_eq];omega
 have he:∃q,h'.get? s.heap.objs.size=some q:=let⟨q,_,_,hq,_⟩:=dd';⟨q,hq⟩;exact nR I2 (by rw[e];exact True.intro) hs he (nQ hz hd (rk.merge .nil) dd')
section
end
section
end
section
variable{X:Cx}{pins:List (Addr×Obj)}{σ:St}{H:Hp}{s:Shared}{a:Addr}{kvs:List (Key×V)}{A:Around}{E:Value->Shared->Prop}
theorem vW(I:Inv X pins σ H s)(e:Rd H a (.dK kvs))(h:∀p s',H p=none->Inv X pins σ (bx H p (.dK kvs)) s'->Q (.ref p) s'):wpAny (model X.prog X.w) A (call (.type "dict") [.ref a]) Q E s:=by
 obtain⟨z,hd,vs,rel,dd⟩:=mN I.hok e;refine kt_call_dict hd dd (by rw[<-rel.length];exact z) λh' dd' hs=>?_
 refine h _ _ (I.hok.fresh (ae _)) (I.laid (a:=s.heap.objs.size) (o:= .dK kvs) (t':=s.toks) (λb q hq=>?_) (ae _) (nQ z (beq_eq_false_iff_ne.mpr (Ne.symm (aj I.big))) rel dd'));exact(hs.2 b (aj (ai hq))).trans (ac _ hq)
end
section
end
end L2
namespace PySem.SeqAt
open AutoSeq1 (wpAny_loadPart')
open MeetsSeq
variable{b l:Addr}
noncomputable def v7(h:Heap)(d:Addr):Prop:=∃es ep,h.get? d=some {cls:= .type "dict",dict:=none,data:= .dict es ep,slots:= #[]}
theorem gG(l b:Addr)(es:Array DictEntry)(ep:Nat)(items:Array Value)(n:Nat)(dd:Option Addr)(sl:Array (Option Value)):
  Meets (Builtin.«dict.__eq__» ⟨[.ref l,.ref b],[]⟩) (λ_ R s=>s.heap.get? l=some {cls:= .type "dict",dict:=none,data:= .dict es ep,slots:= #[]}/\s.heap.get? b=some {cls:= .type "list",dict:=dd,data:= .seq items n,slots:=sl}/\R (.ok (.ret .notImplemented)) s):=
 .of_wp λprog w A R s h=>by obtain⟨hp,g,d,tk,os⟩:=s;obtain⟨hl,hb,h⟩:=h;have f1:=F.sub_list_dict;wp_walk using wpAny_loadPart' hl,wpAny_loadPart' hb;exact⟨_,rfl,h⟩
theorem gD(b l:Addr)(es:Array DictEntry)(ep:Nat)(items:Array Value)(n:Nat)(dd:Option Addr)(sl:Array (Option Value)):
  Meets (Builtin.«list.__eq__» ⟨[.ref b,.ref l],[]⟩) (λ_ R s=>s.heap.get? b=some {cls:= .type "list",dict:=dd,data:= .seq items n,slots:=sl}/\s.heap.get? l=some {cls:= .type "dict",dict:=none,data:= .dict es ep,slots:= #[]}/\R (.ok (.ret .notImplemented)) s):=
 .of_wp λprog w A R s h=>by obtain⟨hp,g,d,tk,os⟩:=s;obtain⟨hb,hl,h⟩:=h;have f1:=F.sub_dict_list;wp_walk using wpAny_loadPart' hl,wpAny_loadPart' hb;exact⟨_,rfl,h⟩
theorem gF(l b:Addr)(es:Array DictEntry)(ep:Nat)(items:Array Value)(n:Nat)(dd:Option Addr)(sl:Array (Option Value)):
  Meets (Builtin.«dict.__ne__» ⟨[.ref l,.ref b],[]⟩) (λ_ R s=>s.heap.get? l=some {cls:= .type "dict",dict:=none,data:= .dict es ep,slots:= #[]}/\s.heap.get? b=some {cls:= .type "list",dict:=dd,data:= .seq items n,slots:=sl}/\R (.ok (.ret .notImplemented)) s):=
 .of_wp λprog w A R s h=>by obtain⟨hp,g,d,tk,os⟩:=s;obtain⟨hl,hb,h⟩:=h;have f1:=F.sub_list_dict;wp_walk using wpAny_loadPart' hl,wpAny_loadPart' hb;exact⟨_,rfl,h⟩
theorem gC(b l:Addr)(es:Array DictEntry)(ep:Nat)(items:Array Value)(n:Nat)(dd:Option Addr)(sl:Array (Option Value)):
  Meets (Builtin.«list.__ne__» ⟨[.ref b,.ref l],[]⟩) (λ_ R s=>s.heap.get? b=some {cls:= .type "list",dict:=dd,data:= .seq items n,slots:=sl}/\s.heap.get? l=some {cls:= .type "dict",dict:=none,data:= .dict es ep,slots:= #[]}/\R (.ok (.ret .notImplemented)) s):=
 .of_wp λprog w A R s h=>by obtain⟨hp,g,d,tk,os⟩:=s;obtain⟨hb,hl,h⟩:=h;have f1:=F.sub_dict_list;wp_walk using wpAny_loadPart' hl,wpAny_loadPart' hb;exact⟨_,rfl,h⟩
section
variable{A:Around}{s:Shared}
theorem RcAt.dict_list{items:Array Value}(hl:v7 s.heap l)(hb:s.heap.IsList b items)(hu:A.units<cLine):RcAt A s (.ref l) (.ref b) false:=λprog w E Q h=>by
 obtain⟨es,ep,ho⟩:=hl;obtain⟨⟨cls,dd,data,sl⟩,ho2,hc,n,hd⟩:=id hb;simp only at hc hd;subst hc hd;have hne:l≠b:=λe=>by subst e;rw[ho] at ho2;exact absurd ho2 (by simp)
 exact rc_eq_decline_or (k:=false) ⟨_,ho,rfl⟩ ⟨_,ho2,rfl⟩ (by decide) F.sub_list_dict F.slot_dict_eq F.slot_list_eq_refl
  (λ_ hq=>call_meets F.slot_dict_eq ⟨_,ho,rfl⟩ F.entry_dict_eq (F.args_dict_eq_2 _ _) (gG l b es ep items n dd sl) ⟨ho,ho2,hq⟩)
  (λ_ hq=>call_meets F.slot_list_eq_refl ⟨_,ho2,rfl⟩ F.entry_list_eq (F.args_list_eq_2 _ _) (gD b l es ep items n dd sl) ⟨ho2,ho,hq⟩)
  (λ_ hq=>wpAny_isSame_ref_other hne ho ho2 (by simp) hq) (.inr hu) h
theorem RcNeAt.dict_list{items:Array Value}(hl:v7 s.heap l)(hb:s.heap.IsList b items)(hu:A.units<cLine):RcNeAt A s (.ref l) (.ref b) true:=λprog w E Q h=>by
 obtain⟨es,ep,ho⟩:=hl;obtain⟨⟨cls,dd,data,sl⟩,ho2,hc,n,hd⟩:=id hb;simp only at hc hd;subst hc hd;have hne:l≠b:=λe=>by subst e;rw[ho] at ho2;exact absurd ho2 (by simp)
 exact rc_ne_decline_or (k:=false) ⟨_,ho,rfl⟩ ⟨_,ho2,rfl⟩ (by decide) F.sub_list_dict F.slot_dict_ne F.slot_list_ne_refl
  (λ_ hq=>call_meets F.slot_dict_ne ⟨_,ho,rfl⟩ F.entry_dict_ne (F.args_dict_ne_2 _ _) (gF l b es ep items n dd sl) ⟨ho,ho2,hq⟩)
  (λ_ hq=>call_meets F.slot_list_ne_refl ⟨_,ho2,rfl⟩ F.entry_list_ne (F.args_list_ne_2 _ _) (gC b l es ep items n dd sl) ⟨ho2,ho,hq⟩)
  (λ_ hq=>wpAny_isSame_ref_other hne ho ho2 (by simp) hq) (.inr hu) h
end
end PySem.SeqAt
namespace L2
open PySem PySem.Spec PyProof.Rows
variable{scope:Scope}{x y:Str}{pos ppos px spos:Pos}{ifs:List Expr}{elt iter tg:Expr}{s s':Shared}{X:Cx}{H H':Hp}{σ σ':St}{pins:List (Addr×Obj)}{fp:List Addr}{h':Heap}{use:Option (Value->Sem Unit)}{te:TE}{tc:TT}{wi:TI}
noncomputable def jK(cells:List (Str×Addr)):List (Str×NameKind)->List (Str×Addr)->List (Str×Addr)
 |[],cs=>cs
 |(n,k)::r,cs=>if k== .free then jK cells r ((n,(cells.lookup n).getD 0)::cs) else jK cells r cs
theorem ji{env:Env}:∀(names:List (Str×NameKind))(cs:List (Str×Addr)),(∀x∈names,x.2=.free->∃c,env.cells.lookup x.1=some c)->
  (forIn names cs λ(x:Str×NameKind)(r:List (Str×Addr))=>(do
   if x.2==NameKind.free then
    let a <-cellOf env x.1
    pure (ForInStep.yield ((x.1,a)::r))
   else pure (ForInStep.yield r):Sem (ForInStep (List (Str×Addr)))))=(pure (jK env.cells names cs):Sem (List (Str×Addr)))
 |[],cs,_=>rfl
 |(n,k)::r,cs,h=>by
  have ih:=λcs=>ji (env:=env) r cs λx hx=>h x (List.mem_cons_of_mem _ hx);rw[List.forIn_cons];cases hk:(k==NameKind.free) with
  |true=>
   obtain⟨c,hc⟩:=h (n,k) List.mem_cons_self (by simpa using hk)
   have hc':env.cells.lookup n=some c:=hc;simp only[jK,hk,if_true,cellOf,hc',Option.getD_some,pure_bind];exact ih _
  |false=>simp only[jK,hk,Bool.false_eq_true,if_false,pure_bind];exact ih _
theorem gt{env:Env}(h:∀x∈scope.names,x.2=.free->∃c,env.cells.lookup x.1=some c):closureFor scope env=pure (jK env.cells scope.names []):=by rw[<-ji scope.names [] h];unfold closureFor;simp only[bind_pure]
theorem nS{cells:List (Str×Addr)}{y:Str}{c:Addr}:∀{names:List (Str×NameKind)}{cs:List (Str×Addr)},(jK cells names cs).lookup y=some c->((y,NameKind.free)∈names/\c=(cells.lookup y).getD 0)∨cs.lookup y=some c
 |[],cs,h=>.inr h
 |(n,k)::r,cs,h=>by
  unfold jK at h;cases hk:(k==NameKind.free) with
  |true=>
   have hk':k=.free:=by simpa using hk
   subst hk';rw[if_pos (by rfl)] at h
   rcases nS h with⟨a,b⟩|q
   ·exact .inl ⟨List.mem_cons_of_mem _ a,b⟩
   ·cases hy:y==n with
    |true=>
     rw[List.lookup_cons,hy] at q;have:y=n:=by simpa using hy
     subst this;exact .inl ⟨List.mem_cons_self,(ag q).symm⟩
    |false=>rw[List.lookup_cons,hy] at q;exact .inr q
  |false=>
   rw[hk] at h;rcases nS (by simpa using h) with⟨a,b⟩|q
   ·exact .inl ⟨List.mem_cons_of_mem _ a,b⟩
   ·exact .inr q
theorem hW{cells:List (Str×Addr)}{y:Str}:∀{names:List (Str×NameKind)}{cs:List (Str×Addr)},(∀c,cs.lookup y=some c->c=(cells.lookup y).getD 0)->((y,NameKind.free)∈names∨cs.lookup y=some ((cells.lookup y).getD 0))->
  (jK cells names cs).lookup y=some ((cells.lookup y).getD 0)
 |[],cs,_,h=>by
  rcases h with h|h
  ·simp at h
  ·exact h
 |(n,k)::r,cs,hc,h=>by
  unfold jK;cases hk:(k==NameKind.free) with
  |true=>
   have hk':k=.free:=by simpa using hk
   subst hk';rw[if_pos (by rfl)]
   cases hy:y==n with
   |true=>
    have:y=n:=by simpa using hy
    subst this;refine hW (λc e=>?_) (.inr ?_)
    ·rw[List.lookup_cons,hy] at e;exact(ag e).symm
    ·rw[List.lookup_cons,hy]
   |false=>
    refine hW (λc e=>?_) ?_
    ·rw[List.lookup_cons,hy] at e;exact hc c e
    ·rcases h with h|h
     ·rcases List.mem_cons.mp h with e|e
      ·injection e with e1 _;rw[e1] at hy;simp at hy
      ·exact .inl e
     ·right;rw[List.lookup_cons,hy];exact h
  |false=>
   have h':(y,NameKind.free)∈r∨List.lookup y cs=some ((List.lookup y cells).getD 0):=by
    rcases h with h|h
    ·rcases List.mem_cons.mp h with e|e
     ·injection e with _ e2;rw[<-e2] at hk;simp at hk
     ·exact .inl e
    ·exact .inr h
   have q:=hW (names:=r) (cs:=cs) hc h';simpa using q
theorem cv{env:Env}{names:List (Str×NameKind)}{k:NameKind}:(names.map λ(n,k)=>if(k==NameKind.free&&env.scope.kind== .function&&env.kindOf n==some .cell) then(n,NameKind.cell) else(n,k)).lookup x=some k->
  names.lookup x=some k∨(k=.cell/\names.lookup x=some .free):=by
 induction names with
 |nil=>intro h;simp at h
 |cons p r ih=>
  obtain⟨n,k'⟩:=p;intro h;have h:List.lookup x ((if(k'==NameKind.free&&env.scope.kind== .function&&env.kindOf n==some .cell)=true then(n,NameKind.cell) else(n,k'))::_)=some k:=h
  cases hx:x==n with
  |true=>
   by_cases hc:(k'==NameKind.free&&env.scope.kind== .function&&env.kindOf n==some .cell)=true
   ·rw[if_pos hc] at h;simp only[List.lookup_cons,hx] at h;cases h;refine .inr ⟨rfl,?_⟩;simp only[List.lookup_cons,hx];simp only[Bool.and_eq_true] at hc;have:k'=.free:=by simpa using hc.1.1
    rw[this]
   ·rw[if_neg hc] at h;simp only[List.lookup_cons,hx] at h ⊢;exact .inl h
  |false=>
   have h':List.lookup x (r.map λ(n,k)=>if(k==NameKind.free&&env.scope.kind== .function&&env.kindOf n==some .cell) then(n,NameKind.cell) else(n,k))=some k:=by
    by_cases hc:(k'==NameKind.free&&env.scope.kind== .function&&env.kindOf n==some .cell)=true
    ·rw[if_pos hc] at h;simpa only[List.lookup_cons,hx] using h
    ·rw[if_neg hc] at h;simpa only[List.lookup_cons,hx] using h
   simp only[List.lookup_cons,hx];exact ih h'
theorem jU{prog:Program}{w:World}{A:Around}{R:Result->Shared->Prop}{target:Expr}{it acc:Value}{env:Env}(I:Nat->Shared->Prop)
  (turn:∀n s,I n s->wpAny (model prog w) A (pyNext it) (λr s₁=>match r with
   |none=>R (.ok .next) s₁
   |some v=>wpAny (model prog w) A (letOwnedTupleGo target it v) (λ_ s₁'=>wpAny (model prog w) A (assign target env v) (λ_ s₂=>
     wpAny (model prog w) A (forIn ifs true λc r=>if r=true then do let ok <-isTrue c env (eval c env);pure (ForInStep.yield ok) else pure (ForInStep.yield r)) (λok s₃=>
      if ok=true then wpAny (model prog w) A (eval elt env) (λx s₄=>
       wpAny (model prog w) A (call (.builtin "list.append") [acc,x]) (λ_ s₅=>∃m,m<n/\I m s₅) (notedBy (model prog w) A env λe s'=>R (.error e) s') s₄) (notedBy (model prog w) A env λe s'=>R (.error e) s') s₃
      else ∃m,m<n/\I m s₃) (notedBy (model prog w) A env λe s'=>R (.error e) s') s₂) (notedBy (model prog w) A env λe s'=>R (.error e) s') s₁') (notedBy (model prog w) A env λe s'=>R (.error e) s') s₁) (notedBy (model prog w) A env λe s'=>R (.error e) s') s)
  (n:Nat)(h:I n s):
  codeAny (model prog w) A (.compLoop (.ListComp elt [⟨target,iter,ifs,0⟩] scope pos) 0 it acc env) R s:=by
 refine codeAny_loop rfl I (λn s hI=>?_) n h;show wpAny _ A ((compTurn (.ListComp elt [⟨target,iter,ifs,0⟩] scope pos) 0 it acc env).onRaise (λx=>do noteFrame x env;theTreesLotGoes x)) _ _ s
 refine wpAny_noted ?_;rw[compTurn_list];refine aa (wpAny_standAt (aa (aP (turn n s hI) (λr s₁ h₁=>?_) λ_ _ h'=>h')));cases r with
 |none=>exact af h₁
 |some v=>
  refine aa (aP h₁ (λ_ s₁' h₁'=>?_) λ_ _ h'=>h');refine aa (aP h₁' (λ_ s₂ h₂=>aa (aP h₂ (λok s₃ h₃=>?_) λ_ _ h'=>h')) λ_ _ h'=>h');cases ok with
  |false=>exact af ⟨rfl,h₃⟩
  |true=>exact aa (aa (aP h₃ (λx s₄ h₄=>aa (aP h₄ (λ_ s₅ h₅=>af (af ⟨rfl,h₅⟩)) λ_ _ h'=>h')) λ_ _ h'=>h'))
noncomputable def bF(X:Cx)(x:Str)(scope:Scope)(fp:List Addr)(s:Shared)(H:Hp):Cx where
 prog:=X.prog
 w:=X.w
 K:=X.K
 mg:=X.mg
 base:=X.base
 A:=X.A
 N:=x::X.N
 s₀:=s
 H₀:=H
 env:=compEnvC scope (jK X.env.cells scope.names []) s.heap.objs.size X.env
 outer:=X.stack
 stack:=X.stack
 ex:=fp
 calm:=X.calm
 fn:=λ_=>false
 pn:=X.pn
 xe:=λ_ _=>False
structure CompScope(X:Cx)(x:Str)(scope:Scope):Prop where
 kind:scope.kind=.function
 nocell:∀y∈scope.names,y.2≠ .cell
 locs:∀y∈scope.names,y.2=.local->scope.names.lookup y.1=some .local
 own:scope.names.lookup x=some .local
 frees:∀y∈scope.names,y.2=.free->X.env.kindOf y.1=some .cell∨X.env.kindOf y.1=some .free
 apart:∀y∈scope.names,y.2=.local->y.1∉X.N
theorem CompScope.cells(C:CompScope X x scope)(ok:X.Ok):∀y∈scope.names,y.2=.free->∃c,X.env.cells.lookup y.1=some c:=λy hy hf=>ok.has y.1 (C.frees y hy hf)
theorem CompScope.cell_of{c:Addr}(C:CompScope X x scope)(ok:X.Ok)(h:(jK X.env.cells scope.names []).lookup y=some c):(y,NameKind.free)∈scope.names/\X.env.cells.lookup y=some c:=by
 rcases nS h with⟨a,b⟩|q
 ·obtain⟨c',e⟩:=C.cells ok _ a rfl;have e':X.env.cells.lookup y=some c':=e;rw[e',Option.getD_some] at b;exact⟨a,by rw[b];exact e'⟩
 ·simp at q
theorem io(I:Inv X pins σ H s)(C:CompScope X x scope)(hf:∀b∈fp,fI X pins H b)(ho:∀b∈fp,∃o,s.heap.get? b=some o):
  (bF X x scope fp s H).Ok where
 mod:=I.ok.mod
 kind:=C.kind
 glob:=I.ok.glob
 blt:=I.ok.blt
 above:=ae _
 inj:=λy z c h1 h2=>I.ok.inj y z c (C.cell_of I.ok h1).2 (C.cell_of I.ok h2).2
 has:=λy hy=>by
  have hy:(relabel scope X.env).names.lookup y=some .cell∨(relabel scope X.env).names.lookup y=some .free:=hy
  have hfr:scope.names.lookup y=some .free:=by
   rcases hy with hy|hy
   ·rcases cv hy with q|⟨_,q⟩
    ·exact absurd rfl (C.nocell _ (az q))
    ·exact q
   ·rcases cv hy with q|⟨z,_⟩
    ·exact q
    ·cases z
  exact⟨_,hW (λc e=>by simp at e) (.inl (az hfr))⟩
 cab:=λy c h _=>nomatch h
 hd:=I.ok.hd
 frames:=I.ok.frames
 stk:= .inl rfl
 exf:=λb hb=>by obtain⟨o,e⟩:=ho b hb;obtain⟨f0,f1,f2,f3,f4,f5⟩:=hf b hb;exact⟨aj (ai e),λy c h=>f4 y c (C.cell_of I.ok h).2⟩
 bs:=I.bs
 bsz:=aT I.ok.bsz I.sz
 noex:=λb o e hb=>by
  obtain⟨f0,f1,f2,f3,f4,f5⟩:=hf b hb;rcases f3 with z|z
  ·exact I.ok.noex b o e z
  ·exact absurd (ao (ai (I.ok.bs b o e).1) z) (bz _)
 exfs:=λb hb hs=>by
  obtain⟨f0,f1,f2,f3,f4,f5⟩:=hf b hb;rcases List.mem_cons.mp (I.stkSub b hs) with z|z
  ·exact f1 z
  ·exact f2 z
 funs:=I.stack
 frf:=I.stkFree
theorem pp{tk:Nat}{m:Str->Option Value}(I:Inv X pins σ H s)(C:CompScope X x scope)(hf:∀b∈fp,fI X pins H b)(ho:∀b∈fp,∃o,s.heap.get? b=some o)
  (hx:x∉X.N)(hn:h'.Ns s.heap.objs.size m)(k:∀b o,s.heap.get? b=some o->h'.get? b=some o):Inv (bF X x scope fp s H) pins (none::σ) H {s with heap:=h',toks:=tk}:=by
 refine⟨io I C hf ho,rfl,I.bare,Un.kept k,⟨m,hn,λi y v h1 h2 h3=>?_⟩,λy c h=>?_,I.hok.fresh (ae _),λy c h=>I.freeC y c (C.cell_of I.ok h).2,λp hp=>?_,I.hok.kept k,?_⟩
 ·cases i with
  |zero=>simp at h2
  |succ i=>
   have h1:X.N[i]? =some y:=by simpa[bF] using h1
   have h2:σ[i]? =some (some v):=by simpa using h2
   have h3:(relabel scope X.env).names.lookup y=some .local∨(relabel scope X.env).names.lookup y=some .cell∨(relabel scope X.env).names.lookup y=some .free:=h3
   have hfr:scope.names.lookup y=some .free:=by
    rcases h3 with q|q|q
    ·rcases cv q with q|⟨z,_⟩
     ·exact absurd (aH h1) (C.apart _ (az q) rfl)
     ·cases z
    ·rcases cv q with q|⟨_,q⟩
     ·exact absurd rfl (C.nocell _ (az q))
     ·exact q
    ·rcases cv q with q|⟨z,_⟩
     ·exact q
     ·cases z
   have hmem:=az hfr;obtain⟨m0,hn0,hl0⟩:=I.loc
   have hvis:C5 X.env.scope y:=by
    rcases C.frees _ hmem rfl with q|q
    ·exact .inr (.inl q)
    ·exact .inr (.inr q)
   obtain⟨u,r,l⟩:=hl0 i y v h1 h2 hvis;refine⟨u,r,.inr ⟨?_,?_⟩⟩
   ·rcases h3 with q|q|q
    ·rcases cv q with q|⟨z,_⟩
     ·rw[hfr] at q;cases q
     ·cases z
    ·exact .inl q
    ·exact .inr q
   ·rcases l with⟨lk,_⟩|⟨_,c,hc,hcell⟩
    ·rcases C.frees _ hmem rfl with q|q
     ·rw[lk] at q;cases q
     ·rw[lk] at q;cases q
    ·refine⟨c,?_,?_⟩
     ·show(jK X.env.cells scope.names []).lookup y=some c;have q:=hW (cells:=X.env.cells) (y:=y) (names:=scope.names) (cs:=[]) (λc e=>by simp at e) (.inl hmem)
      rw[hc,Option.getD_some] at q;exact q
     ·obtain⟨o,e,d⟩:=hcell;exact⟨o,k _ _ e,d⟩
 ·obtain⟨v,o,e,d⟩:=I.cell y c (C.cell_of I.ok h).2;exact⟨v,o,k _ _ e,d⟩
 ·obtain⟨e,n,ne,nf,d⟩:=I.pin p hp;refine⟨k _ _ e,n,aj (ai e),λz=>?_,d⟩;rcases List.mem_cons.mp (I.stkSub _ z) with q|q
  ·exact ne q
  ·exact nf q
 ·show(none::σ).length=(x::X.N).length;rw[List.length_cons,List.length_cons,I.len]
noncomputable def wB:TT:=λ_ H Q=>Q true H
noncomputable def wf(X:Cx)(ifs:List Expr)(t:TT):Prop:=
 ∀(pins:List (Addr×Obj))(s:Shared)(σ:St)(H:Hp)(Q:Bool->Hp->Prop),Inv X pins σ H s->t σ H Q->
  wpAny (model X.prog X.w) X.A (forIn ifs true λc r=>if r=true then do let ok <-isTrue c X.env (eval c X.env);pure (ForInStep.yield ok) else pure (ForInStep.yield r)) (TP X pins σ Q) X.xe s
theorem ie:wf X [] wB:=λ_ _ _ H _ I h=>wpAny_tests_nil ⟨H,I,h⟩
noncomputable def qS(wi:TI)(tc:TT)(te:TE):TE:=λσ H Q=>wi σ H λJ H1=>∀D,H1 D=none->∃W:Nat->Nat->List V->Hp->Prop,(∃m,W 0 m [] (bx H1 D (.lst [])))/\∀i m ys H2,W i m ys H2->
 (J.stop i H2/\Q (.ref D) H2)∨(J.go i H2/\∃N:List V->Hp->Prop,(∀ys' H',N ys' H'->∃m',m'<m/\W (i+1) m' ys' H')/\
  ∀x H',J.yld i H2 x H'->tc (some x::σ) H' λb H3=>if b=true then te (some x::σ) H3 λy H4=>H4 D=some (.lst ys)/\ys.length<sizeLine/\N (ys++[y]) (bx H4 D (.lst (ys++[y]))) else N ys H3)
theorem pj(I:Inv X pins σ H s)(hf:∀b∈fp,fI X pins H b)(J:Inv (bF X x scope fp s H) pins σ' H' s')
  (sb:Heap.SameBut s.heap.objs.size s'.heap h'):Inv X pins σ H' {s' with heap:=h'}:=by
 have hC:H' s.heap.objs.size=none:=J.free;have ne:∀b o,s.heap.get? b=some o->b≠s.heap.objs.size:=λb o e=>aj (ai e)
 have u:Un (sS X.stack) fp H H' s.heap h':=
  ⟨λb o e n hb hx=>(sb.2 b (ne b o e)).trans (J.base.keep b o e n hb hx),λb o e n hb hx=>by
    obtain⟨sl,q⟩:=J.base.slot b o e n hb hx;exact⟨sl,(sb.2 b (ne b o e)).trans q⟩,J.base.free,λb o e hx=>by
    obtain⟨o',q⟩:=J.base.there b o e hx;exact⟨o',(sb.2 b (ne b o e)).trans q⟩,J.base.tups,J.base.frzs,J.base.tbls⟩
 have hok:iI X.prog X.w H' h':=λb ob e=>by
  refine(J.hok b ob e).stay (λc w' hc q=>(sb.2 c ?_).trans q) (λ_ q=>q) λ_ _ q=>q;intro z;rcases hc with y|y
  ·rw[z] at y;rw[<-y,hC] at e;cases e
  ·rw[z,hC] at y;cases y
 exact I.call' (s':={s' with heap:=h'}) J.os u hok J.bare λb hb=>⟨(hf b hb).2.2.2.1,(hf b hb).2.1,(hf b hb).2.2.2.2.1,(hf b hb).2.2.2.2.2⟩
theorem mQ(hc:X.calm=true)(C:CompScope X x scope)(hx:x∉X.N)(hN:X.N.Nodup)
  (hi:PI X (.Name x px) iter wi)(ht:∀fp s H,wf (bF X x scope fp s H) ifs tc)(he:∀fp s H,PE (bF X x scope fp s H) elt te)
  (hs:∀x,foldedSetIterable iter X.env x=pure x){Q:VK}(I:Inv X pins σ H s)(h:qS wi tc te σ H Q){QQ:Value->Shared->Prop}
  (fin:∀{fp:List Addr}{s3 s5:Shared}{H3 H4:Hp}{D:Addr}{o:Option V},Inv X pins σ H3 s3->(∀b∈fp,fI X pins H3 b)->Inv (bF X x scope fp s3 H3) pins (o::σ) H4 s5->Q (.ref D) H4->compPost (model X.prog X.w) X.A X.xe use QQ (.ref D) s3.heap.objs.size (.ok .next) s5):
  wpAny (model X.prog X.w) X.A (comprehension (.ListComp elt [⟨.Name x px,iter,ifs,0⟩] scope pos) scope X.env ppos (newList []) false (eval iter X.env) use) QQ X.xe s:=by
 refine wpAny_comprehension_free rfl hs (gt (C.cells I.ok)) C.kind C.locs (bQ (hi pins s σ H _ I h) λv s1 h1=>bQ h1 λitv s2 h2=>?_);obtain⟨it,fp,tn,J,H2,e,I2,T,st2,f2,R⟩:=h2;subst e;have hD:H2 s2.heap.objs.size=none:=I2.hok.fresh (ae _);obtain⟨W,⟨m0,w0⟩,turn⟩:=R _ hD;refine wpAny_newObj_type (wpAny_newFunctionEnv C.nocell (by intro y hy;simp at hy) (λh₁ hns₁ hsb₁=>?_) C.kind)
 dsimp only at hns₁ hsb₁ ⊢
 have I3:Inv X pins σ (bx H2 s2.heap.objs.size (.lst [])) {s2 with heap:=s2.heap.push {cls:= .type "list",dict:=none,data:= .seq ([]:List Value).toArray}}:=
  I2.laid (t':=s2.toks) (o:= .lst []) (λb ob q=>ac _ q) (ae _) ⟨Nat.zero_le _,[],0,.nil,ak _ rfl⟩
 have f3:∀b∈fp,fI X pins (bx H2 s2.heap.objs.size (.lst [])) b:=λb hb=>by
  obtain⟨o,e,_⟩:=T.obj _ _ st2 b hb;obtain⟨g0,g⟩:=f2 b hb;exact⟨by rw[aD (aj (ai e))];exact g0,g⟩
 have o3:∀b∈fp,∃o,(s2.heap.push {cls:= .type "list",dict:=none,data:= .seq ([]:List Value).toArray}).get? b=some o:=λb hb=>by obtain⟨o,e,_⟩:=T.obj _ _ st2 b hb;exact⟨o,ac _ e⟩
 have old:∀b o,(s2.heap.push {cls:= .type "list",dict:=none,data:= .seq ([]:List Value).toArray}).get? b=some o->h₁.get? b=some o:=λb o e=>
  hsb₁.extBut b o (aj (ai e)) (ac _ e)
 have K0:=pp (x:=x) (scope:=scope) (fp:=fp) (h':=h₁) (tk:=s2.toks) I3 C f3 o3 hx hns₁ old;have st3:tn 0 h₁:=T.keep _ _ _ st2 λb _ o e=>old b o (ac _ e);generalize hs3:({s2 with heap:=s2.heap.push {cls:= .type "list",dict:=none,data:= .seq ([]:List Value).toArray}}:Shared)=s3 at I3 K0;have es3:s2.heap.push {cls:= .type "list",dict:=none,data:= .seq ([]:List Value).toArray}=s3.heap:=by rw[<-hs3]
 generalize hH3:bx H2 s2.heap.objs.size (.lst [])=H3 at I3 K0 f3 w0
 have stat:∀{H':Hp},(∀b∈fp,H' b=none)->∀b∈fp,fI (bF X x scope fp s3 H3) pins H' b:=λ{H'} hn b hb=>by
  obtain⟨o,e⟩:=o3 b hb;rw[es3] at e;obtain⟨g0,g1,g2,g3,g4,g5⟩:=f3 b hb;refine⟨hn b hb,aj (ai e),λz=>?_,.inl hb,λy c h=>g4 y c (C.cell_of I.ok h).2,g5⟩;rcases List.mem_cons.mp (I3.stkSub _ z) with q|q
  ·exact g1 q
  ·exact g2 q
 have nd':(x::X.N).Nodup:=List.nodup_cons.mpr ⟨hx,hN⟩;have lx:(relabel scope X.env).names.lookup x=some .local:=lookup_relabel_local C.own
 have loop:codeAny (model X.prog X.w) X.A (.compLoop (.ListComp elt [⟨.Name x px,iter,ifs,0⟩] scope pos) 0 (.ref it) (.ref s2.heap.objs.size) (bF X x scope fp s3 H3).env)
   (compPost (model X.prog X.w) X.A X.xe use QQ (Value.ref s2.heap.objs.size) s3.heap.objs.size) {s3 with heap:=h₁,toks:=s2.toks}:=by
  refine jU (λn s'=>∃i o ys H',Inv (bF X x scope fp s3 H3) pins (o::σ) H' s'/\tn i s'.heap/\(∀b∈fp,H' b=none)/\W i n ys H') ?_ m0 ⟨0,none,[],H3,K0,st3,λb hb=>(f3 b hb).1,w0⟩;rintro n s4 ⟨i,o,ys,H4,I4,st4,fr4,w4⟩;rcases turn i n ys H4 w4 with⟨stop,qn⟩|⟨go,N,hNN,step⟩
  ·refine bQ (T.done (bF X x scope fp s3 H3) rfl rfl rfl hc i pins s4 (o::σ) H4 _ I4 (stat fr4) st4 stop) λr s5 ⟨hr,I5⟩=>?_;subst hr;exact fin I3 f3 I5 qn
  ·refine bQ (T.item (bF X x scope fp s3 H3) rfl rfl rfl hc i pins s4 (o::σ) H4 _ I4 (stat fr4) st4 go) λr s5 hp=>?_;obtain⟨u,hr,h5⟩:=hp;subst hr;refine bQ h5 λ_ s6 hp=>?_;obtain⟨y,H6,I6,r6,y6,st6,fr6⟩:=hp;have I6':=I6.pinned (stat fr6) (T.obj _ _ st6);refine wpAny_assign_Name (iT (i:=0) I6' nd' rfl (.inl lx) r6 (λs7 I7=>?_) (.inr lx))
   have keepS:∀{o':Option V}{H':Hp}{s':Shared},Inv (bF X x scope fp s3 H3) (pins++jw fp s6.heap) (o'::σ) H' s'->tn (i+1) s'.heap/\∀b∈fp,H' b=none:=λ{o' H' s'} I'=>by refine⟨T.keep _ _ _ st6 λb hb o e=>(I'.pin (b,o) (aB _ (aB _ (dQ hb e)))).1,λb hb=>?_⟩;obtain⟨o,e,d⟩:=T.obj _ _ st6 b hb;exact(I'.pin (b,o) (aB _ (aB _ (dQ hb e)))).2.1
   refine aP (ht fp s3 H3 _ s7 (some y::σ) H6 _ I7 (step y H6 y6)) (λb s8 ⟨H8,I8,q8⟩=>?_) λ_ _ z=>False.elim z;cases b with
   |false=>rw[if_neg au] at q8 ⊢;obtain⟨m',hm,w8⟩:=hNN ys H8 q8;obtain⟨a1,a2⟩:=keepS I8;exact⟨m',hm,i+1,some y,ys,H8,I8.unpinned,a1,a2,w8⟩
   |true=>rw[if_pos rfl] at q8 ⊢;refine aP (he fp s3 H3 _ s8 (some y::σ) H8 _ I8 q8) (λv9 s9 ⟨y9,H9,I9,r9,hacc,hsz,q9⟩=>?_) λ_ _ z=>False.elim z;refine aP (jz (X:=bF X x scope fp s3 H3) _ s9 (some y::σ) H9 (.ref s2.heap.objs.size) [y9] _ [v9] (λ_ H'=>N (ys++[y9]) H') I9 rfl (.cons r9 .nil) ⟨_,_,_,rfl,rfl,hacc,hsz,q9⟩) (λ_ s10 ⟨_,H10,I10,_,q10⟩=>?_) λ_ _ z=>False.elim z;obtain⟨m',hm,w10⟩:=hNN _ H10 q10;obtain⟨a1,a2⟩:=keepS I10;exact⟨m',hm,i+1,some y,_,H10,I10.unpinned,a1,a2,w10⟩
 have eC:(s2.heap.push {cls:= .type "list",dict:=none,data:= .seq ([]:List Value).toArray}).objs.size=s3.heap.objs.size:=by rw[es3]
 rw[eC];have es4:({heap:=h₁,gens:=s2.gens,drawn:=s2.drawn,toks:=s2.toks+([]:List (Str×Value)).length,os:=s2.os}:Shared)={s3 with heap:=h₁,toks:=s2.toks}:=by rw[<-hs3];rfl
 rw[es4];exact codeAny_compStart_list loop (T.self _ 0 _ _ _ st3 loop)
theorem rF(hc:X.calm=true)(C:CompScope X x scope)(hx:x∉X.N)(hN:X.N.Nodup)
  (hi:PI X (.Name x px) iter wi)(ht:∀fp s H,wf (bF X x scope fp s H) ifs tc)(he:∀fp s H,PE (bF X x scope fp s H) elt te)
  (hs:∀x,foldedSetIterable iter X.env x=pure x:=by intro _;rfl):PE X (.ListComp elt [⟨.Name x px,iter,ifs,0⟩] scope pos) (qS wi tc te):=by
 intro pins s σ H Q I h;rw[eval_ListComp];refine mQ (use:=none) hc C hx hN hi ht he hs I h λI3 f3 I5 qn=>?_;obtain⟨m5,hn5,_⟩:=id I5.loc;exact⟨m5,hn5,λh' sb=>⟨.ref _,_,pj I3 f3 I5 sb,rfl,qn⟩⟩
theorem p9{py:Pos}{i:Nat}(hc:X.calm=true)(C:CompScope X x scope)(hx:x∉X.N)(hN:X.N.Nodup)
  (hi:PI X (.Name x px) iter wi)(ht:∀fp s H,wf (bF X x scope fp s H) ifs tc)(he:∀fp s H,PE (bF X x scope fp s H) elt te)
  (hs:∀x,foldedSetIterable iter X.env x=pure x)(hy:X.N[i]? =some y)(hl:Loc X.env.scope y)(hf:X.fn y=true∨X.env.scope.names.lookup y=some .local):
  PS X (.Assign [.Name y py] (.ListComp elt [⟨.Name x px,iter,ifs,0⟩] scope pos) spos) (pS (qS wi tc te) (d_ i)):=by
 have hb:∃b,swapsWith (.ListComp elt [⟨.Name x px,iter,ifs,0⟩] scope pos) (some (.Name y py)) spos.line X.env=pure b:=⟨_,rfl⟩;obtain⟨b,hb⟩:=hb;cases b with
 |false=>exact p_ hN hy hl (rF hc C hx hN hi ht he hs) hb hf
 |true=>
  intro pins s σ H D I h;rw[exec_Assign_Name_used _ _ _ _ hb];refine aa (wpAny_standAt (aa ?_));show wpAny _ X.A (do let _ <-comprehension (.ListComp elt [⟨.Name x px,iter,ifs,0⟩] scope pos) scope X.env _ (newList []) false (eval iter X.env) (some (assign (.Name y py) X.env))) _ _ s
  refine aa (aP (mQ (use:=some (assign (.Name y py) X.env)) (QQ:=λ_ s'=>SP X pins D .next s') hc C hx hN hi ht he hs I h λ{fp s3 s5 H3 H4 Dd o} I3 f3 I5 qn=>?_) (λ_ s' hq=>af (af hq)) λ_ _ e=>e)
  have I6:Inv X pins σ H4 s5:=by have:=pj I3 f3 I5 (Heap.SameBut.refl _ _);exact this
  obtain⟨m5,hn5,_⟩:=id I5.loc;have hC0:H4 s3.heap.objs.size=none:=I5.free;have hCL:X.env.locals≠s3.heap.objs.size:=aj I3.lt;show wpAny _ X.A (assign (.Name y py) X.env (.ref Dd)) _ _ _;refine wpAny_assign_Name (jq (v:= .ref Dd) I6 hN hy hl rfl (λs7 I7 hch=>?_) hf);obtain⟨a,sb,ha⟩:=hch
  have hCa:s3.heap.objs.size≠a:=by
   rcases ha with rfl|ha
   ·exact hCL.symm
   ·obtain⟨v,q⟩:=I3.cell y a ha;exact(aj q.lt).symm
  refine⟨m5,hn5.sameBut sb hCa,λh' sb'=>⟨_,H4,?_,qn⟩⟩;refine I7.turned (t':=s7.toks) (it:=s3.heap.objs.size) (λb o hb e=>(sb'.2 b hb).trans e) hC0 hCL.symm (.inr I3.sz) (λz c e=>?_) λp hp=>?_
  ·obtain⟨v,q⟩:=I3.cell z c e;exact aj q.lt
  ·exact aj (ai (I3.pin p hp).1)
theorem Inv.turnLaid{t':Nat}{p:Addr}{xs:List V}(I:Inv X pins σ H s)(hf:∀b∈fp,fI X pins H b)
  (k:∀b o,b∉fp->s.heap.get? b=some o->h'.get? b=some o)(hp:s.heap.objs.size<=p)(new:cN X.prog X.w (bx H p (.tup xs)) h' p (.tup xs)):Inv X pins σ (bx H p (.tup xs)) {s with heap:=h',toks:=t'}:=by
 have hn:H p=none:=I.hok.fresh hp;have nit:∀b u,H b=some u->b∉fp:=λb u e z=>by rw[(hf b z).1] at e;cases e
 have nep:∀{b:Addr}{o:Obj},s.heap.get? b=some o->b≠p:=λe=>aj (ao (ai e) hp)
 refine I.step (g':=s.gens) (d':=s.drawn) (ch:=fp) (λb hb=>?_) (λb o _ _ hc e _=>k b o hc e) (λb o _ _ hc e _=>⟨o.slots,k b o hc e⟩) (λb o _ e n=>by rw[aD (nep e)];exact n)
  (λb o hc e=>⟨o,k b o hc e⟩) (λb ys e=>by rw[aD (aw e hn)];exact e) (λb o u e=>by rw[aD (aw e hn)];exact e) (λb ps e=>⟨#[],by rw[aD (aw e hn),e];simp⟩) (λm hm=>?_) (λb u e=>?_) I.bare
 ·obtain⟨f0,f1,f2,f3,f4,f5⟩:=hf b hb;exact⟨f3,f1,f4,f5⟩
 ·obtain⟨o,es,ep,ho,r⟩:=hm;exact⟨o,es,ep,k _ o (λz=>(hf _ z).2.1 rfl) ho,r⟩
 ·by_cases hb:b=p
  ·subst hb;rw[bw] at e;cases e;exact new
  ·rw[aD hb] at e;refine(I.hok b u e).stay (λc v hc q=>k c v ?_ q) (λc q=>by rw[aD (aw q hn)];exact q) λc ys q=>by rw[aD (aw q hn)];exact q
   rcases hc with z|z
   ·rw[z];exact nit b u e
   ·exact nit c _ z
noncomputable def Ew(K:al)(a:Addr):It:=
 ⟨λi H=>∃xs x,ez K H a xs/\xs[i]? =some x,
  λi H v H'=>∃p x,v=.ref p/\H p=none/\H'=bx H p (.tup [.int (i:Int),x])/\∀xs,ez K H a xs->xs[i]? =some x,
  λi H=>∃xs,ez K H a xs/\xs.length<=i⟩
noncomputable def Ed(e it a:Addr)(i:Nat)(h:Heap):Prop:=(∃old,IsEnum h e it (i:Int) old)/\h.IsListIter it a i
theorem sm{P:Program}{w:World}{K:al}{elts:List Expr}{k:Nat}(a e it:Addr)(hne:e≠it):Turn P w K (.Tuple elts k pos) (Ew K a) [e,it] e (Ed e it a) where
 mem:=by simp
 obj:=λi h st b hb=>by
  obtain⟨⟨old,he⟩,o,ho,c,d⟩:=st;rcases List.mem_cons.mp hb with rfl|hb
  ·exact⟨_,he,λv z=>by have z':Data.fields _=Data.cell v:=z;cases z'⟩
  ·have:b=it:=by simpa using hb
   subst this;exact⟨o,ho,λv z=>by rw[d] at z;cases z⟩
 keep:=λi h h' ⟨⟨old,he⟩,st⟩ kk=>⟨⟨old,kk e (by simp) _ he⟩,st.at λo q=>kk it (by simp) o q⟩
 item:=by
  intro X hP hw hK hc i pins s σ H E I hf st hg;subst hP hw hK;obtain⟨⟨old,he⟩,hit⟩:=st;obtain⟨xs,x,hq,hx⟩:=hg;obtain⟨its,rv,p,hz⟩:=I.list hq;obtain⟨u,hu,ru⟩:=rv.get hx;refine wpAny_pyNext_enum_item he hit p.isList (x:=u) (by simpa using hu) hne λh1 heo hit1 ht1 hz1 hk1=>?_
  refine⟨_,rfl,wpAny_letOwnedTupleGo_enum heo λh2 he2 hs2=>?_⟩
  replace hs2:Heap.SameBut e h1 h2:=hs2
  have lt:=ai he;have ht2:h2.get? s.heap.objs.size=some {cls:= .type "tuple",data:= .seq #[.int i s.toks,u]}:=(hs2.2 _ (bp lt)).trans ht1;have hn:H s.heap.objs.size=none:=I.hok.fresh (ae _)
  have I2:Inv X pins σ (bx H s.heap.objs.size (.tup [.int (i:Int),x])) {s with heap:=h2,toks:=s.toks+1}:=by
   refine I.turnLaid (fp:=[e,it]) hf (λb o hb q=>?_) (ae _) ⟨(by show 2<=sizeLine;decide),[.int i s.toks,u],.cons ⟨_,rfl⟩ (.cons ru .nil),?_⟩
   ·have hbe:b≠e:=λz=>hb (by simp[z])
    have hbi:b≠it:=λz=>hb (by simp[z])
    exact(hs2.2 b hbe).trans (hk1 b o hbe hbi q)
   ·exact⟨_,ht2,rfl,_,rfl⟩
  refine⟨.ref s.heap.objs.size,_,I2,rfl,⟨_,x,rfl,hn,rfl,λys hy=>by rw[I.list_inj hy hq];exact hx⟩,⟨⟨u,?_⟩,?_⟩,λb hb=>?_⟩
  ·have:((i+1:Nat):Int)=(i:Int)+1:=by omega
   rw[this];exact he2
  ·exact hit1.at λo q=>(hs2.2 it (Ne.symm hne)).trans q
  ·obtain⟨f0,_⟩:=hf b hb
   have:b≠s.heap.objs.size:=by
    rcases List.mem_cons.mp hb with rfl|hb
    ·exact aj lt
    ·have:b=it:=by simpa using hb
     subst this;obtain⟨o,ho,_⟩:=hit;exact aj (ai ho)
   rw[aD this];exact f0
 done:=by
  intro X hP hw hK hc i pins s σ H E I hf st hg;subst hP hw hK;obtain⟨⟨old,he⟩,hit⟩:=st;obtain⟨xs,hq,hx⟩:=hg;obtain⟨its,rv,p,hz⟩:=I.list hq;obtain⟨f0,f1,f2,f3,f4,f5⟩:=hf it (by simp)
  have hl:=rv.length;exact wpAny_pyNext_enum_end (I.ok.hd hc) he hit p.isList (by simp;omega) λh' eb=>⟨rfl,I.turned (t':=s.toks) (λb o hb e=>eb b o hb e) f0 f1 f3 f4 f5⟩
 self:=λ_ _ _ _ _ st h=>wpAny_pyIter_enum st.1.choose_spec h
noncomputable def bj(X:Cx)(x y:Str)(scope:Scope)(fp:List Addr)(s:Shared)(H:Hp):Cx:={bF X x scope fp s H with N:=x::y::X.N}
theorem vX(I:Inv X pins σ H s)(C:CompScope X x scope)(hf:∀b∈fp,fI X pins H b)(ho:∀b∈fp,∃o,s.heap.get? b=some o):
  (bj X x y scope fp s H).Ok:=by
 have h:=io I C hf ho;exact⟨h.mod,h.kind,h.glob,h.blt,h.above,h.inj,h.has,h.cab,h.hd,h.frames,h.stk,h.exf,h.bs,h.bsz,h.noex,h.exfs,h.funs,h.frf⟩
theorem sY{tk:Nat}{m:Str->Option Value}(I:Inv X pins σ H s)(C:CompScope X x scope)(hf:∀b∈fp,fI X pins H b)(ho:∀b∈fp,∃o,s.heap.get? b=some o)
  (hx:x∉X.N)(hn:h'.Ns s.heap.objs.size m)(k:∀b o,s.heap.get? b=some o->h'.get? b=some o):Inv (bj X x y scope fp s H) pins (none::none::σ) H {s with heap:=h',toks:=tk}:=by
 have J:=pp (x:=x) (scope:=scope) (fp:=fp) (h':=h') (tk:=tk) I C hf ho hx hn k;refine⟨vX I C hf ho,J.os,J.bare,J.base,?_,J.cell,J.free,J.freeC,J.pin,J.hok,?_⟩
 ·obtain⟨m',hn',hl⟩:=J.loc;refine⟨m',hn',λi z v h1 h2 h3=>?_⟩;cases i with
  |zero=>simp at h2
  |succ i=>
   cases i with
   |zero=>simp at h2
   |succ i=>exact hl (i+1) z v (by simpa[bF,bj] using h1) (by simpa using h2) h3
 ·show(none::none::σ).length=(x::y::X.N).length;rw[List.length_cons,List.length_cons,List.length_cons,List.length_cons,I.len]
theorem mP(I:Inv X pins σ H s)(hf:∀b∈fp,fI X pins H b)(J:Inv (bj X x y scope fp s H) pins σ' H' s')
  (sb:Heap.SameBut s.heap.objs.size s'.heap h'):Inv X pins σ H' {s' with heap:=h'}:=by
 have hC:H' s.heap.objs.size=none:=J.free;have ne:∀b o,s.heap.get? b=some o->b≠s.heap.objs.size:=λb o e=>aj (ai e)
 have u:Un (sS X.stack) fp H H' s.heap h':=
  ⟨λb o e n hb hx=>(sb.2 b (ne b o e)).trans (J.base.keep b o e n hb hx),λb o e n hb hx=>by
    obtain⟨sl,q⟩:=J.base.slot b o e n hb hx;exact⟨sl,(sb.2 b (ne b o e)).trans q⟩,J.base.free,λb o e hx=>by
    obtain⟨o',q⟩:=J.base.there b o e hx;exact⟨o',(sb.2 b (ne b o e)).trans q⟩,J.base.tups,J.base.frzs,J.base.tbls⟩
 have hok:iI X.prog X.w H' h':=λb ob e=>by
  refine(J.hok b ob e).stay (λc w' hc q=>(sb.2 c ?_).trans q) (λ_ q=>q) λ_ _ q=>q;intro z;rcases hc with y|y
  ·rw[z] at y;rw[<-y,hC] at e;cases e
  ·rw[z,hC] at y;cases y
 exact I.call' (s':={s' with heap:=h'}) J.os u hok J.bare λb hb=>⟨(hf b hb).2.2.2.1,(hf b hb).2.1,(hf b hb).2.2.2.2.1,(hf b hb).2.2.2.2.2⟩
noncomputable def j6(wi:TI)(g:TG)(tc:TT)(te:TE):TE:=λσ H Q=>wi σ H λJ H1=>∀D,H1 D=none->∃W:Nat->Nat->List V->Hp->Prop,(∃m,W 0 m [] (bx H1 D (.lst [])))/\∀i m ys H2,W i m ys H2->
 (J.stop i H2/\Q (.ref D) H2)∨(J.go i H2/\∃N:List V->Hp->Prop,(∀ys' H',N ys' H'->∃m',m'<m/\W (i+1) m' ys' H')/\
  ∀x H',J.yld i H2 x H'->∀o1 o2,g x (o1::o2::σ) H' λσ2 H3=>(∃p1 p2,σ2=p1::p2::σ)/\tc σ2 H3 λb H5=>if b=true then te σ2 H5 λy H4=>H4 D=some (.lst ys)/\ys.length<sizeLine/\N (ys++[y]) (bx H4 D (.lst (ys++[y]))) else N ys H5)
theorem lM{g:TG}(hc:X.calm=true)(C:CompScope X x scope)(hx:x∉X.N)
  (hi:PI X tg iter wi)(hg:∀fp s H,PG (bj X x y scope fp s H) tg g)(ht:∀fp s H,wf (bj X x y scope fp s H) ifs tc)(he:∀fp s H,PE (bj X x y scope fp s H) elt te)
  (hs:∀x,foldedSetIterable iter X.env x=pure x){Q:VK}(I:Inv X pins σ H s)(h:j6 wi g tc te σ H Q){QQ:Value->Shared->Prop}
  (fin:∀{fp:List Addr}{s3 s5:Shared}{H3 H4:Hp}{D:Addr}{o1 o2:Option V},Inv X pins σ H3 s3->(∀b∈fp,fI X pins H3 b)->Inv (bj X x y scope fp s3 H3) pins (o1::o2::σ) H4 s5->Q (.ref D) H4->compPost (model X.prog X.w) X.A X.xe use QQ (.ref D) s3.heap.objs.size (.ok .next) s5):
  wpAny (model X.prog X.w) X.A (comprehension (.ListComp elt [⟨tg,iter,ifs,0⟩] scope pos) scope X.env ppos (newList []) false (eval iter X.env) use) QQ X.xe s:=by
 refine wpAny_comprehension_free rfl hs (gt (C.cells I.ok)) C.kind C.locs (bQ (hi pins s σ H _ I h) λv s1 h1=>bQ h1 λitv s2 h2=>?_);obtain⟨it,fp,tn,J,H2,e,I2,T,st2,f2,R⟩:=h2;subst e;have hD:H2 s2.heap.objs.size=none:=I2.hok.fresh (ae _);obtain⟨W,⟨m0,w0⟩,turn⟩:=R _ hD;refine wpAny_newObj_type (wpAny_newFunctionEnv C.nocell (by intro y hy;simp at hy) (λh₁ hns₁ hsb₁=>?_) C.kind)
 dsimp only at hns₁ hsb₁ ⊢
 have I3:Inv X pins σ (bx H2 s2.heap.objs.size (.lst [])) {s2 with heap:=s2.heap.push {cls:= .type "list",dict:=none,data:= .seq ([]:List Value).toArray}}:=
  I2.laid (t':=s2.toks) (o:= .lst []) (λb ob q=>ac _ q) (ae _) ⟨Nat.zero_le _,[],0,.nil,ak _ rfl⟩
 have f3:∀b∈fp,fI X pins (bx H2 s2.heap.objs.size (.lst [])) b:=λb hb=>by
  obtain⟨o,e,_⟩:=T.obj _ _ st2 b hb;obtain⟨g0,g⟩:=f2 b hb;exact⟨by rw[aD (aj (ai e))];exact g0,g⟩
 have o3:∀b∈fp,∃o,(s2.heap.push {cls:= .type "list",dict:=none,data:= .seq ([]:List Value).toArray}).get? b=some o:=λb hb=>by obtain⟨o,e,_⟩:=T.obj _ _ st2 b hb;exact⟨o,ac _ e⟩
 have old:∀b o,(s2.heap.push {cls:= .type "list",dict:=none,data:= .seq ([]:List Value).toArray}).get? b=some o->h₁.get? b=some o:=λb o e=>
  hsb₁.extBut b o (aj (ai e)) (ac _ e)
 have K0:=sY (x:=x) (y:=y) (scope:=scope) (fp:=fp) (h':=h₁) (tk:=s2.toks) I3 C f3 o3 hx hns₁ old;have st3:tn 0 h₁:=T.keep _ _ _ st2 λb _ o e=>old b o (ac _ e);generalize hs3:({s2 with heap:=s2.heap.push {cls:= .type "list",dict:=none,data:= .seq ([]:List Value).toArray}}:Shared)=s3 at I3 K0;have es3:s2.heap.push {cls:= .type "list",dict:=none,data:= .seq ([]:List Value).toArray}=s3.heap:=by rw[<-hs3]
 generalize hH3:bx H2 s2.heap.objs.size (.lst [])=H3 at I3 K0 f3 w0
 have stat:∀{H':Hp},(∀b∈fp,H' b=none)->∀b∈fp,fI (bj X x y scope fp s3 H3) pins H' b:=λ{H'} hn b hb=>by
  obtain⟨o,e⟩:=o3 b hb;rw[es3] at e;obtain⟨g0,g1,g2,g3,g4,g5⟩:=f3 b hb;refine⟨hn b hb,aj (ai e),λz=>?_,.inl hb,λy c h=>g4 y c (C.cell_of I.ok h).2,g5⟩;rcases List.mem_cons.mp (I3.stkSub _ z) with q|q
  ·exact g1 q
  ·exact g2 q
 have loop:codeAny (model X.prog X.w) X.A (.compLoop (.ListComp elt [⟨tg,iter,ifs,0⟩] scope pos) 0 (.ref it) (.ref s2.heap.objs.size) (bj X x y scope fp s3 H3).env)
   (compPost (model X.prog X.w) X.A X.xe use QQ (Value.ref s2.heap.objs.size) s3.heap.objs.size) {s3 with heap:=h₁,toks:=s2.toks}:=by
  refine jU (λn s'=>∃i o1 o2 ys H',Inv (bj X x y scope fp s3 H3) pins (o1::o2::σ) H' s'/\tn i s'.heap/\(∀b∈fp,H' b=none)/\W i n ys H') ?_ m0 ⟨0,none,none,[],H3,K0,st3,λb hb=>(f3 b hb).1,w0⟩;rintro n s4 ⟨i,o1,o2,ys,H4,I4,st4,fr4,w4⟩;rcases turn i n ys H4 w4 with⟨stop,qn⟩|⟨go,N,hNN,step⟩
  ·refine bQ (T.done (bj X x y scope fp s3 H3) rfl rfl rfl hc i pins s4 (o1::o2::σ) H4 _ I4 (stat fr4) st4 stop) λr s5 ⟨hr,I5⟩=>?_;subst hr;exact fin I3 f3 I5 qn
  ·refine bQ (T.item (bj X x y scope fp s3 H3) rfl rfl rfl hc i pins s4 (o1::o2::σ) H4 _ I4 (stat fr4) st4 go) λr s5 hp=>?_;obtain⟨u,hr,h5⟩:=hp;subst hr;refine bQ h5 λ_ s6 hp=>?_;obtain⟨yv,H6,I6,r6,y6,st6,fr6⟩:=hp;have I6':=I6.pinned (stat fr6) (T.obj _ _ st6)
   have keepS:∀{q1 q2:Option V}{H':Hp}{s':Shared},Inv (bj X x y scope fp s3 H3) (pins++jw fp s6.heap) (q1::q2::σ) H' s'->tn (i+1) s'.heap/\∀b∈fp,H' b=none:=λ{q1 q2 H' s'} I'=>by refine⟨T.keep _ _ _ st6 λb hb o e=>(I'.pin (b,o) (aB _ (aB _ (dQ hb e)))).1,λb hb=>?_⟩;obtain⟨o,e,d⟩:=T.obj _ _ st6 b hb;exact(I'.pin (b,o) (aB _ (aB _ (dQ hb e)))).2.1
   refine aP (hg fp s3 H3 _ s6 (o1::o2::σ) H6 yv u _ I6' r6 (step yv H6 y6 o1 o2)) (λ_ s7 ⟨σ7,H7,I7,⟨p1,p2,hσ⟩,q7⟩=>?_) λ_ _ z=>False.elim z;subst hσ;refine aP (ht fp s3 H3 _ s7 (p1::p2::σ) H7 _ I7 q7) (λbb s8 ⟨H8,I8,q8⟩=>?_) λ_ _ z=>False.elim z;cases bb with
   |false=>rw[if_neg au] at q8 ⊢;obtain⟨m',hm,w8⟩:=hNN ys H8 q8;obtain⟨a1,a2⟩:=keepS I8;exact⟨m',hm,i+1,p1,p2,ys,H8,I8.unpinned,a1,a2,w8⟩
   |true=>
   rw[if_pos rfl] at q8 ⊢;refine aP (he fp s3 H3 _ s8 (p1::p2::σ) H8 _ I8 q8) (λv9 s9 ⟨y9,H9,I9,r9,hacc,hsz,q9⟩=>?_) λ_ _ z=>False.elim z;refine aP (jz (X:=bj X x y scope fp s3 H3) _ s9 (p1::p2::σ) H9 (.ref s2.heap.objs.size) [y9] _ [v9] (λ_ H'=>N (ys++[y9]) H') I9 rfl (.cons r9 .nil) ⟨_,_,_,rfl,rfl,hacc,hsz,q9⟩) (λ_ s10 ⟨_,H10,I10,_,q10⟩=>?_) λ_ _ z=>False.elim z;obtain⟨m',hm,w10⟩:=hNN _ H10 q10;obtain⟨a1,a2⟩:=keepS I10;exact⟨m',hm,i+1,p1,p2,_,H10,I10.unpinned,a1,a2,w10⟩
 have eC:(s2.heap.push {cls:= .type "list",dict:=none,data:= .seq ([]:List Value).toArray}).objs.size=s3.heap.objs.size:=by rw[es3]
 rw[eC];have es4:({heap:=h₁,gens:=s2.gens,drawn:=s2.drawn,toks:=s2.toks+([]:List (Str×Value)).length,os:=s2.os}:Shared)={s3 with heap:=h₁,toks:=s2.toks}:=by rw[<-hs3];rfl
 rw[es4];exact codeAny_compStart_list loop (T.self _ 0 _ _ _ st3 loop)
theorem mz{g:TG}(hc:X.calm=true)(C:CompScope X x scope)(hx:x∉X.N)
  (hi:PI X tg iter wi)(hg:∀fp s H,PG (bj X x y scope fp s H) tg g)(ht:∀fp s H,wf (bj X x y scope fp s H) ifs tc)(he:∀fp s H,PE (bj X x y scope fp s H) elt te)
  (hs:∀x,foldedSetIterable iter X.env x=pure x):PE X (.ListComp elt [⟨tg,iter,ifs,0⟩] scope pos) (j6 wi g tc te):=by
 intro pins s σ H Q I h;rw[eval_ListComp];refine lM (use:=none) hc C hx hi hg ht he hs I h λI3 f3 I5 qn=>?_;obtain⟨m5,hn5,_⟩:=id I5.loc;exact⟨m5,hn5,λh' sb=>⟨.ref _,_,mP I3 f3 I5 sb,rfl,qn⟩⟩
theorem oK{z:Str}{p1 p2 p3 pz:Pos}{k:Nat}{g:TG}{i:Nat}(hc:X.calm=true)(C:CompScope X x scope)(hx:x∉X.N)(hN:X.N.Nodup)
  (hi:PI X (.Tuple [.Name x p1,.Name y p2] k p3) iter wi)(hg:∀fp s H,PG (bj X x y scope fp s H) (.Tuple [.Name x p1,.Name y p2] k p3) g)(ht:∀fp s H,wf (bj X x y scope fp s H) ifs tc)(he:∀fp s H,PE (bj X x y scope fp s H) elt te)
  (hs:∀x,foldedSetIterable iter X.env x=pure x)(hy:X.N[i]? =some z)(hl:Loc X.env.scope z)(hf:X.fn z=true∨X.env.scope.names.lookup z=some .local):
  PS X (.Assign [.Name z pz] (.ListComp elt [⟨.Tuple [.Name x p1,.Name y p2] k p3,iter,ifs,0⟩] scope pos) spos) (pS (j6 wi g tc te) (d_ i)):=by
 have hb:∃b,swapsWith (.ListComp elt [⟨.Tuple [.Name x p1,.Name y p2] k p3,iter,ifs,0⟩] scope pos) (some (.Name z pz)) spos.line X.env=pure b:=⟨_,rfl⟩;obtain⟨b,hb⟩:=hb;cases b with
 |false=>exact p_ hN hy hl (mz hc C hx hi hg ht he hs) hb hf
 |true=>
  intro pins s σ H D I h;rw[exec_Assign_Name_used _ _ _ _ hb];refine aa (wpAny_standAt (aa ?_));show wpAny _ X.A (do let _ <-comprehension (.ListComp elt [⟨.Tuple [.Name x p1,.Name y p2] k p3,iter,ifs,0⟩] scope pos) scope X.env _ (newList []) false (eval iter X.env) (some (assign (.Name z pz) X.env))) _ _ s
  refine aa (aP (lM (use:=some (assign (.Name z pz) X.env)) (QQ:=λ_ s'=>SP X pins D .next s') hc C hx hi hg ht he hs I h λ{fp s3 s5 H3 H4 Dd o1 o2} I3 f3 I5 qn=>?_) (λ_ s' hq=>af (af hq)) λ_ _ e=>e)
  have I6:Inv X pins σ H4 s5:=by have:=mP I3 f3 I5 (Heap.SameBut.refl _ _);exact this
  obtain⟨m5,hn5,_⟩:=id I5.loc;have hC0:H4 s3.heap.objs.size=none:=I5.free;have hCL:X.env.locals≠s3.heap.objs.size:=aj I3.lt;show wpAny _ X.A (assign (.Name z pz) X.env (.ref Dd)) _ _ _;refine wpAny_assign_Name (jq (v:= .ref Dd) I6 hN hy hl rfl (λs7 I7 hch=>?_) hf);obtain⟨a,sb,ha⟩:=hch
  have hCa:s3.heap.objs.size≠a:=by
   rcases ha with rfl|ha
   ·exact hCL.symm
   ·obtain⟨v,q⟩:=I3.cell z a ha;exact(aj q.lt).symm
  refine⟨m5,hn5.sameBut sb hCa,λh' sb'=>⟨_,H4,?_,qn⟩⟩;refine I7.turned (t':=s7.toks) (it:=s3.heap.objs.size) (λb o hb e=>(sb'.2 b hb).trans e) hC0 hCL.symm (.inr I3.sz) (λz c e=>?_) λp hp=>?_
  ·obtain⟨v,q⟩:=I3.cell z c e;exact aj q.lt
  ·exact aj (ai (I3.pin p hp).1)
end L2
namespace PySem
open Sem (wp)
open AutoSeq1 (wpAny_loadPart')
variable{a t:Addr}{h h':Heap}{prog:Program}
section
variable{prog:Program}{w:World}{A:Around}{E:Value->Shared->Prop}{s:Shared}{it t:Addr}{i:Nat}{items:Array Value}{Q:Value->Shared->Prop}
theorem oi{x:Value}(hit:s.heap.IsTupleIter it t i)(ht:s.heap.IsTuple t items)(hx:items[i]? =some x)(hQ:∀h',h'.IsTupleIter it t (i+1)->Heap.SameBut it s.heap h'->Q x {s with heap:=h'}):
  wpAny (model prog w) A (Builtin.SmallTypes.nextOf (.ref it)) Q E s:=by
 obtain⟨o,ho,hc,hd⟩:=id hit;obtain⟨ol,hol,_,nl,hdl⟩:=ht;unfold Builtin.SmallTypes.nextOf;refine aa (wpAny_callSpecial?_slot (name:=Str.ofString "__next__") hit.typeIs F.slot_tuple_iterator_next (wpAny_call_entry F.slot_tuple_iterator_next hit.typeIs F.entry_tuple_iterator_next ?_ (F.args_tuple_iterator_next_1 _)));refine aa (m:=field (.ref it) 0) (aJ ho hd (x:= .ref t) rfl ?_);refine aa (m:=field (.ref it) 1) (aJ ho hd (x:= .int i 0) rfl ?_);refine aa (m:=seqItems? (.ref t)) (wpAny_seqItems hol hdl ?_);simp only[Int.toNat_natCast,hx];refine aa (wpAny_setField ho hd (by simp) (af ⟨x,rfl,af (hQ _ ⟨_,Heap.get?_update_self _ ho (Obj.isFreed_of_fields (Obj.data_mapFields hd _)),(Obj.cls_mapFields ..).trans hc,?_⟩ (Heap.SameBut.update ..))⟩))
 rw[Obj.data_mapFields hd];simp[rawInt]
theorem m9(hh:A.handled=none)(hit:s.heap.IsTupleIter it t i)(ht:s.heap.IsTuple t items)(hx:items[i]? =none)
  (hE:∀h' e,Heap.ExtBut it s.heap h'->(∃o,h'.get? e=some o/\o.cls=.type "StopIteration")->E (.ref e) {s with heap:=h'}):wpAny (model prog w) A (Builtin.SmallTypes.nextOf (.ref it)) Q E s:=by
 obtain⟨o,ho,hc,hd⟩:=id hit;obtain⟨ol,hol,_,nl,hdl⟩:=ht;unfold Builtin.SmallTypes.nextOf;refine aa (wpAny_callSpecial?_slot (name:=Str.ofString "__next__") hit.typeIs F.slot_tuple_iterator_next (wpAny_call_entry F.slot_tuple_iterator_next hit.typeIs F.entry_tuple_iterator_next ?_ (F.args_tuple_iterator_next_1 _)));refine aa (m:=field (.ref it) 0) (aJ ho hd (x:= .ref t) rfl ?_);refine aa (m:=field (.ref it) 1) (aJ ho hd (x:= .int i 0) rfl ?_);refine aa (m:=seqItems? (.ref t)) (wpAny_seqItems hol hdl ?_);simp only[Int.toNat_natCast,hx];refine aa (wpAny_rule (aa (wpAny_setField ho hd (by simp) (aa (m:=newExc (.type "StopIteration") []) ?_))))
 unfold newExc newTuple;refine aa (wpAny_newObj_type (aa (m:=firstArgMember _ _) (wpAny_of_eq (a:=Value.none) (by first|rfl|(simp only[firstArgMember];rfl)) (wpAny_newObj_type ?_ (by size_fits)))) (by size_fits))
 unfold raiseNew;refine aa (wpAny_handled ?_);rw[show A.in1.handled=none from hh];exact aa (af (wpAny_throw (hE _ _ (((Heap.SameBut.update ..).extBut.push _).push _) ⟨_,ak _ rfl,rfl⟩)))
theorem iQ(x:h.IsTuple a items)(k:∀o,h.get? a=some o->h'.get? a=some o):h'.IsTuple a items:=let⟨o,ho,r⟩:=x;⟨o,k o ho,r⟩
theorem cW{b:Addr}(x:h.IsTupleIter a b i)(k:∀o,h.get? a=some o->h'.get? a=some o):h'.IsTupleIter a b i:=let⟨o,ho,r⟩:=x;⟨o,k o ho,r⟩
end
theorem Draws.tup{w:World}{A:Around}(hh:A.handled=none)(it t:Addr)(hne:t≠it)(items:Array Value):
  Draws prog w A it [it,t] items.size (λi v=>items[i]? =some v) (λi h=>h.IsTupleIter it t i/\h.IsTuple t items) where
 live:=λ_ _ st=>let⟨o,ho,_⟩:=st.1;⟨o,ho⟩
 frame:=λ_ _ _ st hk=>⟨cW st.1 λo e=>hk it (by simp) o e,iQ st.2 λo e=>hk t (by simp) o e⟩
 item:=λi s Q E hi st hQ=>oi st.1 st.2 (x:=items[i]) (by simp[hi]) λh' hit' hs'=>hQ _ h' s.toks (by simp[hi]) ⟨hit',st.2.extBut hs'.extBut hne⟩ hs'
 done:=λs Q E st hE=>m9 hh st.1 st.2 (by simp) hE
noncomputable def fQ(h:Heap)(t:Addr):Heap:=(h.push {cls:= .type "tuple_iterator",data:= .fields #[.ref t,.int 0 0]}).push {cls:= .type "enumerate",data:= .fields #[.none,.bool false,.ref h.objs.size,rawInt 0,.none,.none]}
set_option maxHeartbeats 4000000 in
theorem oT(t:Addr)(items:Array Value)(n:Nat)(dct:Option Addr)(sl:Array (Option Value)):
  Meets (Builtin.«enumerate.__new__» ⟨[.type "enumerate",.ref t],[]⟩) (λ_ R s=>s.heap.get? t=some {cls:= .type "tuple",dict:=dct,data:= .seq items n,slots:=sl}/\
   R (.ok (.ret (.ref (s.heap.push {cls:= .type "tuple_iterator",data:= .fields #[.ref t,.int 0 0]}).objs.size))) {s with heap:=fQ s.heap t}):=
 .of_wp λprog w A R s h=>by
  obtain⟨hp,g,d,tk,os⟩:=s;obtain⟨hl,h⟩:=h;have hsub:=sub_enumerate;have hT:Heap.IsTuple (Shared.heap ⟨hp,g,d,tk,os⟩) t items:=⟨_,hl,rfl,n,rfl⟩
  wp_walk using wpAny_loadPart' hl
  refine wpAny_stack_any λst=>af ?_;split
  ·rename_i c _ _ _ _ _;cases(c==Value.type "enumerate")<;>(wp_walk using wpAny_loadPart' hl,wpAny_pyIter_tuple hT;exact⟨_,rfl,h⟩)
  ·wp_walk using wpAny_loadPart' hl,wpAny_pyIter_tuple hT
   exact⟨_,rfl,h⟩
theorem qA{w:World}{A:Around}{E:Value->Shared->Prop}{s:Shared}{items:Array Value}{Q:Value->Shared->Prop}(hT:s.heap.IsTuple t items)
  (h:IsEnum (fQ s.heap t) (s.heap.objs.size+1) s.heap.objs.size 0 .none->(fQ s.heap t).IsTupleIter s.heap.objs.size t 0->(∀b o,s.heap.get? b=some o->(fQ s.heap t).get? b=some o)->Q (.ref (s.heap.objs.size+1)) {s with heap:=fQ s.heap t}):
  wpAny (model prog w) A (call (.type "enumerate") [.ref t]) Q E s:=by
 obtain⟨⟨c,dct,dt,sl⟩,hl,hc,n,hd⟩:=hT
 replace hc:c=.type "tuple":=hc
 replace hd:dt=.seq items n:=hd
 subst hc hd;refine callType_new F.called_enumerate (by decide) (F.typeCall_enumerate_1 _) (F.newCall_enumerate_1 _) (λobj=>F.args_object_init_2 obj _) F.entry_enumerate_new (oT t items n dct sl) ⟨hl,?_⟩
 have hz:(s.heap.push {cls:= .type "tuple_iterator",data:= .fields #[.ref t,.int 0 0]}).objs.size=s.heap.objs.size+1:=Heap.size_push ..
 have he:IsEnum (fQ s.heap t) (s.heap.objs.size+1) s.heap.objs.size 0 .none:=by rw[<-hz];exact ak _ rfl
 show _/\_;rw[hz];exact⟨⟨_,he,rfl⟩,h he ⟨_,ac _ (ak _ rfl),rfl,rfl⟩ λb o x=>ac _ (ac _ x)⟩
theorem sU{w:World}{A:Around}{E:Value->Shared->Prop}{s:Shared}{e it:Addr}{i:Nat}{items:Array Value}{old:Value}{Q:Option Value->Shared->Prop}(hh:A.handled=none)
  (he:IsEnum s.heap e it i old)(hit:s.heap.IsTupleIter it t i)(ht:s.heap.IsTuple t items)(hx:items[i]? =none)(hQ:∀h',Heap.ExtBut it s.heap h'->Q none {s with heap:=h'}):wpAny (model prog w) A (pyNext (.ref e)) Q E s:=by
 have D:Draws prog w A.in1 it [it,t] 0 (λ_ _=>True) (λ_ h=>h.IsTupleIter it t i/\h.IsTuple t items):=by
  refine⟨λ_ _ st=>?_,λ_ h h' st hk=>?_,λj s' Q' E' hj=>absurd hj (Nat.not_lt_zero _),λs' Q' E' st hE=>m9 hh st.1 st.2 hx hE⟩
  ·obtain⟨o,ho,_⟩:=st.1;exact⟨o,ho⟩
  ·exact⟨cW st.1 λo e=>hk it (by simp) o e,iQ st.2 λo e=>hk t (by simp) o e⟩
 exact wpAny_pyNext_enum_endD D he ⟨hit,ht⟩ hQ
end PySem
namespace L2
open PySem PySem.Spec PyProof.Rows
noncomputable def AU(K:al)(a:Addr):It:=
 ⟨λi H=>∃xs x,gx K H a xs/\xs[i]? =some x,
  λi H v H'=>∃p x,v=.ref p/\H p=none/\H'=bx H p (.tup [.int (i:Int),x])/\∀xs,gx K H a xs->xs[i]? =some x,
  λi H=>∃xs,gx K H a xs/\xs.length<=i⟩
noncomputable def CA(e it a:Addr)(i:Nat)(h:Heap):Prop:=(∃old,IsEnum h e it (i:Int) old)/\h.IsTupleIter it a i
theorem pO{P:Program}{w:World}{K:al}{elts:List Expr}{k:Nat}{pos:Pos}(a e it:Addr)(hne:e≠it):Turn P w K (.Tuple elts k pos) (AU K a) [e,it] e (CA e it a) where
 mem:=by simp
 obj:=λi h st b hb=>by
  obtain⟨⟨old,he⟩,o,ho,c,d⟩:=st;rcases List.mem_cons.mp hb with rfl|hb
  ·exact⟨_,he,λv z=>by have z':Data.fields _=Data.cell v:=z;cases z'⟩
  ·have:b=it:=by simpa using hb
   subst this;exact⟨o,ho,λv z=>by rw[d] at z;cases z⟩
 keep:=λi h h' ⟨⟨old,he⟩,st⟩ kk=>⟨⟨old,kk e (by simp) _ he⟩,cW st λo q=>kk it (by simp) o q⟩
 item:=by
  intro X hP hw hK hc i pins s σ H E I hf st hg;subst hP hw hK;obtain⟨⟨old,he⟩,hit⟩:=st;obtain⟨xs,x,hq,hx⟩:=hg;obtain⟨its,rv,p,hz⟩:=I.tuple hq;obtain⟨u,hu,ru⟩:=rv.get hx;have pt:s.heap.IsTuple a its.toArray:=p
  have nea:e≠a:=by
   obtain⟨o,ho,hc,_⟩:=pt;intro z;rw[<-z,he] at ho;cases ho;have hc:Value.type "enumerate"=Value.type "tuple":=hc;exact absurd hc (by decide)
  have nia:a≠it:=by
   obtain⟨o,ho,hc,_⟩:=pt;obtain⟨o2,ho2,hc2,_⟩:=hit;intro z;rw[<-z,ho] at ho2;cases ho2;rw[hc] at hc2;exact absurd hc2 (by decide)
  refine wpAny_pyNext_enum_itemD (Draws.tup (A:=X.A.in1) (I.ok.hd hc) it a nia its.toArray) he ⟨hit,pt⟩ (by have:=(aL hu).1;simpa using this) hne (by simp[hne,nea]) λu' h1 tk hP heo hst ht1 hz1 hk1=>?_
  have eu:u'=u:=by
   have:its[i]? =some u':=by simpa using hP
   rw[hu] at this;exact(ag this).symm
  subst eu;refine⟨_,rfl,wpAny_letOwnedTupleGo_enum heo λh2 he2 hs2=>?_⟩
  replace hs2:Heap.SameBut e h1 h2:=hs2
  have lt:=ai he;have ht2:h2.get? s.heap.objs.size=some {cls:= .type "tuple",data:= .seq #[.int i tk,u']}:=(hs2.2 _ (bp lt)).trans ht1;have hn:H s.heap.objs.size=none:=I.hok.fresh (ae _)
  have I2:Inv X pins σ (bx H s.heap.objs.size (.tup [.int (i:Int),x])) {s with heap:=h2,toks:=tk+1}:=by
   refine I.turnLaid (fp:=[e,it]) hf (λb o hb q=>?_) (ae _) ⟨(by show 2<=sizeLine;decide),[.int i tk,u'],.cons ⟨_,rfl⟩ (.cons ru .nil),?_⟩
   ·have hbe:b≠e:=λz=>hb (by simp[z])
    have hbi:b≠it:=λz=>hb (by simp[z])
    exact(hs2.2 b hbe).trans (hk1 b o hbe hbi q)
   ·exact⟨_,ht2,rfl,_,rfl⟩
  refine⟨.ref s.heap.objs.size,_,I2,rfl,⟨_,x,rfl,hn,rfl,λys hy=>by rw[I.tuple_inj hy hq];exact hx⟩,⟨⟨u',?_⟩,?_⟩,λb hb=>?_⟩
  ·have:((i+1:Nat):Int)=(i:Int)+1:=by omega
   rw[this];exact he2
  ·exact cW hst.1 λo q=>(hs2.2 it (Ne.symm hne)).trans q
  ·obtain⟨f0,_⟩:=hf b hb
   have:b≠s.heap.objs.size:=by
    rcases List.mem_cons.mp hb with rfl|hb
    ·exact aj lt
    ·have:b=it:=by simpa using hb
     subst this;obtain⟨o,ho,_⟩:=hit;exact aj (ai ho)
   rw[aD this];exact f0
 done:=by
  intro X hP hw hK hc i pins s σ H E I hf st hg;subst hP hw hK;obtain⟨⟨old,he⟩,hit⟩:=st;obtain⟨xs,hq,hx⟩:=hg;obtain⟨its,rv,p,hz⟩:=I.tuple hq;obtain⟨f0,f1,f2,f3,f4,f5⟩:=hf it (by simp)
  have hl:=rv.length;exact sU (I.ok.hd hc) he hit (show s.heap.IsTuple a its.toArray from p) (by simp;omega) λh' eb=>⟨rfl,I.turned (t':=s.toks) (λb o hb e=>eb b o hb e) f0 f1 f3 f4 f5⟩
 self:=λ_ _ _ _ _ st h=>wpAny_pyIter_enum st.1.choose_spec h
noncomputable def vq(K:al)(tl:TA):TI:=λσ H R=>tl σ H λvs H1=>∃a,vs=[.ref a]/\(((∃xs,ez K H1 a xs)/\R (Ew K a) H1)∨((∃xs,gx K H1 a xs)/\R (AU K a) H1))
theorem oN{X:Cx}{elts:List Expr}{k:Nat}{tp:Pos}{a:Expr}{ta:TA}{p pos:Pos}(hg:Gl X "enumerate")(hm:X.mg "enumerate"=none)(ha:PA X [a] ta)(hs:starEach [a] X.env=[(false,eval a X.env)]):
  PI X (.Tuple elts k tp) (.Call (.Name "enumerate" p) [a] [] pos) (vq X.K ta):=by
 intro pins s σ H R I h;refine Call_ (fY I hg hm boot_enumerate (aS (bQ (ha pos pins s σ H _ I h) λus s1 ⟨vs,H1,I1,r1,q1⟩=>?_) hs rfl));obtain⟨a,e,q⟩:=q1;subst e;cases r1 with
 |cons r rr=>
  cases rr;cases r
  have new:∀b∈[s1.heap.objs.size+1,s1.heap.objs.size],fI X pins H1 b:=λb hb=>by
   have hb':s1.heap.objs.size<=b:=by
    rcases List.mem_cons.mp hb with rfl|hb
    ·exact Nat.le_succ _
    ·have:b=s1.heap.objs.size:=by simpa using hb
     rw[this];exact ae _
   exact I1.fpOk hb' (I1.hok.fresh hb')
  rcases q with⟨⟨xs,hq⟩,q⟩|⟨⟨xs,hq⟩,q⟩
  ·obtain⟨its,rv,pl,hz⟩:=I1.list hq;refine call_enumerate_list pl.isList λh' he hit hsz hk=>?_;refine wpAny_pyIter_enum he ?_;exact⟨_,[s1.heap.objs.size+1,s1.heap.objs.size],_,_,H1,rfl,I1.kept (t':=s1.toks) hk,sm a _ _ (bp (aI _)),⟨⟨_,he⟩,hit⟩,new,q⟩
  ·obtain⟨its,rv,pl,hz⟩:=I1.tuple hq;refine qA (show s1.heap.IsTuple a its.toArray from pl) λhe hit hk=>?_;refine wpAny_pyIter_enum he ?_;exact⟨_,[s1.heap.objs.size+1,s1.heap.objs.size],_,_,H1,rfl,I1.kept (t':=s1.toks) hk,pO a _ _ (bp (aI _)),⟨⟨_,he⟩,hit⟩,new,q⟩
end L2
namespace PySem
open Sem (wp)
open AutoSeq1 (wpAny_loadPart')
variable{i i1 i2 it l t z:Addr}{h h':Heap}{c c1 c2:Bool}{Q:Value->Shared->Prop}{d x y:Value}{qs:Array Value}
noncomputable def dj:Bool->Heap->Addr->Addr->Nat->Prop
 |true,h,i,l,k=>h.IsListIter i l k
 |false,h,i,l,k=>h.IsTupleIter i l k
noncomputable def eA:Bool->Heap->Addr->Array Value->Prop
 |true,h,l,ps=>h.IsList l ps
 |false,h,l,ps=>h.IsTuple l ps
noncomputable def oV:Bool->String
 |true=> "list_iterator"
 |false=> "tuple_iterator"
theorem dj.at{k:Nat}(j:dj c h i l k)(f:∀o,h.get? i=some o->h'.get? i=some o):dj c h' i l k:=by
 cases c
 ·exact cW j f
 ·exact Heap.IsListIter.at j f
theorem eA.at{ps:Array Value}(j:eA c h l ps)(f:∀o,h.get? l=some o->h'.get? l=some o):eA c h' l ps:=by
 cases c
 ·exact iQ j f
 ·exact Heap.IsList.at j f
theorem dj.obj{k:Nat}(j:dj c h i l k):∃o,h.get? i=some o/\∀v,o.data≠ .cell v:=by
 cases c<;>obtain⟨o,q,_,d⟩:=j<;>exact⟨o,q,λv z=>by rw[d] at z;cases z⟩
theorem eA.lt{ps:Array Value}(j:eA c h l ps):l<h.objs.size:=by cases c<;>obtain⟨o,e,_⟩:=j<;>exact ai e
section
variable{prog:Program}{w:World}{A:Around}{E:Value->Shared->Prop}{s:Shared}
theorem nF{i:Nat}{items:Array Value}(hit:dj c s.heap it l i)(hl:eA c s.heap l items)(hx:items[i]? =some x)(hQ:∀h',dj c h' it l (i+1)->Heap.SameBut it s.heap h'->Q x {s with heap:=h'}):
  wpAny (model prog w) A (Builtin.SmallTypes.nextOf (.ref it)) Q E s:=by
 cases c
 ·exact oi hit hl hx hQ
 ·exact wpAny_nextOf_list_item hit hl hx hQ
theorem vf{i:Nat}{items:Array Value}(hh:A.handled=none)(hit:dj c s.heap it l i)(hl:eA c s.heap l items)(hx:items[i]? =none)
  (hE:∀h' e,Heap.ExtBut it s.heap h'->(∃o,h'.get? e=some o/\o.cls=.type "StopIteration")->E (.ref e) {s with heap:=h'}):wpAny (model prog w) A (Builtin.SmallTypes.nextOf (.ref it)) Q E s:=by
 cases c
 ·exact m9 hh hit hl hx hE
 ·exact wpAny_nextOf_list_end hh hit hl hx hE
theorem rQ{items:Array Value}(hl:eA c s.heap l items)
  (hQ:Q (.ref s.heap.objs.size) {s with heap:=s.heap.push {cls:= .type (oV c),data:= .fields #[.ref l,.int 0 0]}}):wpAny (model prog w) A (pyIter (.ref l)) Q E s:=by
 cases c
 ·exact wpAny_pyIter_tuple hl hQ
 ·exact wpAny_pyIter_list hl hQ
theorem dj.new(e:h.get? i=some {cls:= .type (oV c),data:= .fields #[.ref l,.int 0 0]}):dj c h i l 0:=by cases c<;>exact⟨_,e,rfl,rfl⟩
end
section
variable{prog:Program}{w:World}{A:Around}{E:Value->Shared->Prop}{s:Shared}
theorem tz{TI TO:Addr}{k:Nat}{ps:Array Value}{c:Value}(Z:ZipApart z TI TO i1 i2 t l)
  (gz:IsZip s.heap z TI TO .none)(gI:IsPair s.heap TI (.ref i1) (.ref i2))(gO:IsPair s.heap TO c d)(j1:dj c1 s.heap i1 t k)(j2:dj c2 s.heap i2 l k)(m1:eA c1 s.heap t ps)(m2:eA c2 s.heap l qs)(hx:ps[k]? =some x)(hy:qs[k]? =some y)
  (fin:∀g,IsZip g z TI TO (rawInt s.heap.objs.size)->IsPair g TO x y->dj c1 g i1 t (k+1)->dj c2 g i2 l (k+1)->IsPair g s.heap.objs.size x y->g.objs.size=s.heap.objs.size+1->
   (∀b o,b≠z->b≠TO->b≠i1->b≠i2->s.heap.get? b=some o->g.get? b=some o)->Q (.ref s.heap.objs.size) {s with heap:=g}):
  wpAny (model prog w) A (Builtin.«zip.__next__» ⟨[.ref z],[]⟩) (λr u=>∃v,r=.done (.ret v)/\Q v u) E s:=by
 show wpAny _ _ (field (.ref z) 2>>=_) _ _ _;refine aa (aJ gz rfl (x:= .bool false) rfl ?_);show wpAny _ _ (field (.ref z) 3>>=_) _ _ _;refine aa (aJ gz rfl (x:= .ref TI) rfl ?_);refine aa (wpAny_seqItems gI rfl ?_);show wpAny _ _ (Builtin.SmallTypes.ownedTupleIsFree (.ref z)>>=_) _ _ _;refine aa ?_;unfold Builtin.SmallTypes.ownedTupleIsFree;refine aa (aJ gz rfl (x:= .none) rfl (af ?_));simp only[if_true];refine aa (wpAny_rule (aa (aJ gz rfl (x:= .ref TO) rfl ?_)));refine aa (a_ gz (by simp) λg1 z1 b1=>?_)
 replace z1:IsZip g1 z TI TO .ellipsis:=z1
 refine aa ?_;simp only[List.zipIdx_cons,List.zipIdx_nil,List.forIn_cons,List.forIn_nil];refine aa (aa (wpAny_onRaise ?_));show wpAny _ _ (Builtin.SmallTypes.nextOf (.ref i1)>>=_) _ _ _;have j1':dj c1 g1 i1 t k:=j1.at λo e=>b1.extBut _ _ Z.i1z e;have m1':eA c1 g1 t ps:=m1.at λo e=>b1.extBut _ _ Z.l1z e;refine aa (nF (s:={s with heap:=g1}) j1' m1' hx λg2 j12 b2=>af ?_)
 replace b2:Heap.SameBut i1 g1 g2:=b2
 have o2:IsPair g2 TO c d:=b2.extBut _ _ Z.TOi1 (b1.extBut _ _ Z.TOz gO);refine aa (wpAny_seqItems o2 rfl ?_);refine aa (wpAny_updateSeq_pair o2 λg3 o3 b3=>?_)
 replace o3:IsPair g3 TO x d:=o3
 replace b3:Heap.SameBut TO g2 g3:=b3
 refine aa (wpAny_letGo (af (aa (aa (wpAny_onRaise ?_)))));show wpAny _ _ (Builtin.SmallTypes.nextOf (.ref i2)>>=_) _ _ _;have up3:∀b o,b≠z->b≠i1->b≠TO->s.heap.get? b=some o->g3.get? b=some o:=λb o n1 n2 n3 e=>b3.extBut _ _ n3 (b2.extBut _ _ n2 (b1.extBut _ _ n1 e));refine aa (nF (s:={s with heap:=g3}) (j2.at λo e=>up3 i2 o Z.i2z Z.i12.symm Z.TOi2.symm e) (m2.at λo e=>up3 l o Z.l2z Z.l2i1 Z.l2TO e) hy λg4 j24 b4=>af ?_)
 replace b4:Heap.SameBut i2 g3 g4:=b4
 have o4:IsPair g4 TO x d:=b4.extBut _ _ Z.TOi2 o3;refine aa (wpAny_seqItems o4 rfl ?_);refine aa (wpAny_updateSeq_pair o4 λg5 o5 b5=>?_)
 replace o5:IsPair g5 TO x y:=o5
 replace b5:Heap.SameBut TO g4 g5:=b5
 refine aa (wpAny_letGo (af (af (aa (wpAny_seqItems o5 rfl (aa (wpAny_newTuple ?_)))))));have sz5:g5.objs.size=s.heap.objs.size:=by rw[b5.1,b4.1,b3.1,b2.1,b1.1]
 have z5:IsZip g5 z TI TO .ellipsis:=b5.extBut _ _ Z.TOz.symm (b4.extBut _ _ Z.i2z.symm (b3.extBut _ _ Z.TOz.symm (b2.extBut _ _ Z.i1z.symm z1)));have up5:∀b o,b≠z->b≠TO->b≠i1->b≠i2->s.heap.get? b=some o->g5.get? b=some o:=λb o n1 n2 n3 n4 e=>b5.extBut _ _ n2 (b4.extBut _ _ n4 (up3 b o n1 n3 n2 e));have j15:dj c1 g5 i1 t (k+1):=j12.at λo e=>b5.extBut _ _ Z.TOi1.symm (b4.extBut _ _ Z.i12 (b3.extBut _ _ Z.TOi1.symm e));have j25:dj c2 g5 i2 l (k+1):=j24.at λo e=>b5.extBut _ _ Z.TOi2.symm e;have ltz:z<g5.objs.size:=ai z5;show wpAny _ _ (Builtin.SmallTypes.ownedTupleHandOut (.ref z) (.ref g5.objs.size)>>=_) _ _ _;refine aa ?_;unfold Builtin.SmallTypes.ownedTupleHandOut;have z6:IsZip (g5.push {cls:= .type "tuple",data:= .seq #[x,y]}) z TI TO .ellipsis:=ac _ z5;refine aa (a_ z6 (by simp) λg7 z7 b7=>?_)
 replace z7:IsZip g7 z TI TO (rawInt g5.objs.size):=z7
 refine a_ z7 (by simp) λg8 z8 b8=>?_
 replace z8:IsZip g8 z TI TO (rawInt g5.objs.size):=z8
 have up8:∀b o,b≠z->g5.get? b=some o->g8.get? b=some o:=λb o n e=>b8.extBut _ _ n (b7.extBut _ _ n (ac _ e));have t8:IsPair g8 g5.objs.size x y:=b8.extBut _ _ (bp ltz) (b7.extBut _ _ (bp ltz) (ak _ rfl));have sz8:g8.objs.size=g5.objs.size+1:=by rw[b8.1,b7.1,Heap.size_push]
 rw[sz5] at z8 t8 sz8;refine af ⟨_,rfl,?_⟩;show Q (.ref g5.objs.size) _;rw[sz5];exact fin g8 z8 (up8 _ _ Z.TOz o5) (j15.at λo e=>up8 _ o Z.i1z e) (j25.at λo e=>up8 _ o Z.i2z e) t8 sz8 λb o n1 n2 n3 n4 e=>up8 b o n1 (up5 b o n1 n2 n3 n4 e)
theorem tw{TI TO:Addr}{k:Nat}{ps:Array Value}{c:Value}{Q:Fin->Shared->Prop}(hh:A.handled=none)(Z:ZipApart z TI TO i1 i2 t l)
  (gz:IsZip s.heap z TI TO .none)(gI:IsPair s.heap TI (.ref i1) (.ref i2))(gO:IsPair s.heap TO c d)(j1:dj c1 s.heap i1 t k)(j2:dj c2 s.heap i2 l k)(m1:eA c1 s.heap t ps)(m2:eA c2 s.heap l qs)(hend:ps[k]? =none∨qs[k]? =none)
  (fin:∀g e,(∀b o,b≠z->b≠TO->b≠i1->b≠i2->s.heap.get? b=some o->g.get? b=some o)->(∃o,g.get? e=some o/\o.cls=.type "StopIteration")->E (.ref e) {s with heap:=g}):
  wpAny (model prog w) A (Builtin.«zip.__next__» ⟨[.ref z],[]⟩) Q E s:=by
 show wpAny _ _ (field (.ref z) 2>>=_) _ _ _;refine aa (aJ gz rfl (x:= .bool false) rfl ?_);show wpAny _ _ (field (.ref z) 3>>=_) _ _ _;refine aa (aJ gz rfl (x:= .ref TI) rfl ?_);refine aa (wpAny_seqItems gI rfl ?_);show wpAny _ _ (Builtin.SmallTypes.ownedTupleIsFree (.ref z)>>=_) _ _ _;refine aa ?_;unfold Builtin.SmallTypes.ownedTupleIsFree;refine aa (aJ gz rfl (x:= .none) rfl (af ?_));simp only[if_true];refine aa (wpAny_rule (aa (aJ gz rfl (x:= .ref TO) rfl ?_)));refine aa (a_ gz (by simp) λg1 z1 b1=>?_)
 replace z1:IsZip g1 z TI TO .ellipsis:=z1
 refine aa ?_;simp only[List.zipIdx_cons,List.zipIdx_nil,List.forIn_cons,List.forIn_nil];refine aa (aa (wpAny_onRaise ?_));show wpAny _ _ (Builtin.SmallTypes.nextOf (.ref i1)>>=_) _ _ _;have j1':dj c1 g1 i1 t k:=j1.at λo e=>b1.extBut _ _ Z.i1z e;have m1':eA c1 g1 t ps:=m1.at λo e=>b1.extBut _ _ Z.l1z e;cases hx:ps[k]? with
 |none=>
  refine aa (vf (s:={s with heap:=g1}) hh j1' m1' hx λg2 e b2 he=>?_)
  replace b2:Heap.ExtBut i1 g1 g2:=b2
  obtain⟨oe,he1,he2⟩:=he;have z2:IsZip g2 z TI TO .ellipsis:=b2 _ _ Z.i1z.symm z1;have ne:e≠z:=λq=>by subst q;rw[z2] at he1;cases he1;simp at he2
  exact a_ z2 (by simp) λg3 _ b3=>fin g3 e (λb o n1 _ n3 _ q=>b3.extBut _ _ n1 (b2 _ _ n3 (b1.extBut _ _ n1 q))) ⟨oe,b3.extBut _ _ ne he1,he2⟩
 |some x=>
  have hy:qs[k]? =none:=by
   rcases hend with q|q
   ·rw[hx] at q;cases q
   ·exact q
  refine aa (nF (s:={s with heap:=g1}) j1' m1' hx λg2 j12 b2=>af ?_)
  replace b2:Heap.SameBut i1 g1 g2:=b2
  have o2:IsPair g2 TO c d:=b2.extBut _ _ Z.TOi1 (b1.extBut _ _ Z.TOz gO);refine aa (wpAny_seqItems o2 rfl ?_);refine aa (wpAny_updateSeq_pair o2 λg3 o3 b3=>?_)
  replace b3:Heap.SameBut TO g2 g3:=b3
  refine aa (wpAny_letGo (af (aa (aa (wpAny_onRaise ?_)))));show wpAny _ _ (Builtin.SmallTypes.nextOf (.ref i2)>>=_) _ _ _;have up3:∀b o,b≠z->b≠i1->b≠TO->s.heap.get? b=some o->g3.get? b=some o:=λb o n1 n2 n3 e=>b3.extBut _ _ n3 (b2.extBut _ _ n2 (b1.extBut _ _ n1 e));refine aa (vf (s:={s with heap:=g3}) hh (j2.at λo e=>up3 i2 o Z.i2z Z.i12.symm Z.TOi2.symm e) (m2.at λo e=>up3 l o Z.l2z Z.l2i1 Z.l2TO e) hy λg4 e b4 he=>?_)
  replace b4:Heap.ExtBut i2 g3 g4:=b4
  obtain⟨oe,he1,he2⟩:=he;have z4:IsZip g4 z TI TO .ellipsis:=b4 _ _ Z.i2z.symm (b3.extBut _ _ Z.TOz.symm (b2.extBut _ _ Z.i1z.symm z1));have ne:e≠z:=λq=>by subst q;rw[z4] at he1;cases he1;simp at he2
  exact a_ z4 (by simp) λg5 _ b5=>fin g5 e (λb o n1 n2 n3 n4 q=>b5.extBut _ _ n1 (b4 _ _ n4 (up3 b o n1 n3 n2 q))) ⟨oe,b5.extBut _ _ ne he1,he2⟩
theorem tx{TI TO:Addr}{k:Nat}{ps:Array Value}{c:Value}{Q:Option Value->Shared->Prop}(Z:ZipApart z TI TO i1 i2 t l)
  (gz:IsZip s.heap z TI TO .none)(gI:IsPair s.heap TI (.ref i1) (.ref i2))(gO:IsPair s.heap TO c d)(j1:dj c1 s.heap i1 t k)(j2:dj c2 s.heap i2 l k)(m1:eA c1 s.heap t ps)(m2:eA c2 s.heap l qs)(hx:ps[k]? =some x)(hy:qs[k]? =some y)
  (fin:∀g,IsZip g z TI TO (rawInt s.heap.objs.size)->IsPair g TO x y->dj c1 g i1 t (k+1)->dj c2 g i2 l (k+1)->IsPair g s.heap.objs.size x y->g.objs.size=s.heap.objs.size+1->
   (∀b o,b≠z->b≠TO->b≠i1->b≠i2->s.heap.get? b=some o->g.get? b=some o)->Q (some (.ref s.heap.objs.size)) {s with heap:=g}):wpAny (model prog w) A (pyNext (.ref z)) Q E s:=by
 have ty:s.TypeIs (.ref z) "zip":=⟨_,gz,rfl⟩;unfold pyNext
 exact aa (wpAny_attempt (wpAny_callSpecial?_slot (name:=Str.ofString "__next__") ty F.slot_zip_next (wpAny_call_entry F.slot_zip_next ty F.entry_zip_next
  (tz Z gz gI gO j1 j2 m1 m2 hx hy λg a1 a2 a3 a4 a5 a6 a7=>af (fin g a1 a2 a3 a4 a5 a6 a7)) (F.args_zip_next_1 _))))
theorem tD{TI TO:Addr}{k:Nat}{ps:Array Value}{c:Value}{Q:Option Value->Shared->Prop}(hh:A.handled=none)(Z:ZipApart z TI TO i1 i2 t l)
  (gz:IsZip s.heap z TI TO .none)(gI:IsPair s.heap TI (.ref i1) (.ref i2))(gO:IsPair s.heap TO c d)(j1:dj c1 s.heap i1 t k)(j2:dj c2 s.heap i2 l k)(m1:eA c1 s.heap t ps)(m2:eA c2 s.heap l qs)(hend:ps[k]? =none∨qs[k]? =none)
  (fin:∀g,(∀b o,b≠z->b≠TO->b≠i1->b≠i2->s.heap.get? b=some o->g.get? b=some o)->Q none {s with heap:=g}):wpAny (model prog w) A (pyNext (.ref z)) Q E s:=by
 have ty:s.TypeIs (.ref z) "zip":=⟨_,gz,rfl⟩;unfold pyNext;refine aa (wpAny_attempt (wpAny_callSpecial?_slot (name:=Str.ofString "__next__") ty F.slot_zip_next (wpAny_call_entry F.slot_zip_next ty F.entry_zip_next (tw hh Z gz gI gO j1 j2 m1 m2 hend λg e hk he=>?_) (F.args_zip_next_1 _))));obtain⟨o,h1,h2⟩:=he;exact aa (wpAny_isInstance (T:= "StopIteration") (b:=true) ⟨o,h1,h2⟩ isSubtype_stop (af (fin _ hk)))
end
noncomputable abbrev zA(c1:Bool)(h:Heap)(t:Addr):Heap:=h.push {cls:= .type (oV c1),data:= .fields #[.ref t,.int 0 0]}
noncomputable abbrev zB(c1 c2:Bool)(h:Heap)(t l:Addr):Heap:=(zA c1 h t).push {cls:= .type (oV c2),data:= .fields #[.ref l,.int 0 0]}
noncomputable abbrev zC(c1 c2:Bool)(h:Heap)(t l:Addr):Heap:=(zB c1 c2 h t l).push {cls:= .type "tuple",data:= .seq #[.ref h.objs.size,.ref (zA c1 h t).objs.size]}
noncomputable abbrev zD(c1 c2:Bool)(h:Heap)(t l:Addr):Heap:=(zC c1 c2 h t l).push {cls:= .type "tuple",data:= .seq #[.none,.none]}
noncomputable abbrev zE(c1 c2:Bool)(h:Heap)(t l:Addr):Heap:=(zD c1 c2 h t l).push {cls:= .type "zip",data:= .fields #[.none,.bool false,.bool false,.ref (zB c1 c2 h t l).objs.size,.ref (zC c1 c2 h t l).objs.size]}
theorem sK(c1 c2:Bool)(t l:Addr)(ps qs:Array Value):Meets (Builtin.«zip.__new__» ⟨[.type "zip",.ref t,.ref l],[]⟩) (λ_ R s=>eA c1 s.heap t ps/\eA c2 s.heap l qs/\R (.ok (.ret (.ref (zD c1 c2 s.heap t l).objs.size))) {s with heap:=zE c1 c2 s.heap t l}):=
 .of_wp λprog w A R s h=>by
  obtain⟨hp,g,d,tk,os⟩:=s;obtain⟨ht,hl,h⟩:=h;have hsub:=sub_zip;have hT:eA c1 (Shared.heap ⟨hp,g,d,tk,os⟩) t ps:=ht;have hL:eA c2 (Shared.heap ⟨hp.push {cls:= .type (oV c1),data:= .fields #[.ref t,.int 0 0]},g,d,tk,os⟩) l qs:=hl.at λo e=>ac _ e
  wp_walk using rQ hT,rQ hL
  exact⟨_,rfl,h⟩
theorem v0{prog:Program}{w:World}{A:Around}{E:Value->Shared->Prop}{s:Shared}{ps:Array Value}(ht:eA c1 s.heap t ps)(hl:eA c2 s.heap l qs)
  (fin:∀g,IsZip g (s.heap.objs.size+4) (s.heap.objs.size+2) (s.heap.objs.size+3) .none->IsPair g (s.heap.objs.size+2) (.ref s.heap.objs.size) (.ref (s.heap.objs.size+1))->IsPair g (s.heap.objs.size+3) .none .none->
   dj c1 g s.heap.objs.size t 0->dj c2 g (s.heap.objs.size+1) l 0->(∀b o,s.heap.get? b=some o->g.get? b=some o)->Q (.ref (s.heap.objs.size+4)) {s with heap:=g}):
  wpAny (model prog w) A (call (.type "zip") [.ref t,.ref l]) Q E s:=by
 refine callType_new F.called_zip (by decide) (F.typeCall_zip_2 _ _) (F.newCall_zip_2 _ _) (λobj=>F.args_object_init_3 obj _ _) F.entry_zip_new (sK c1 c2 t l ps qs) ⟨ht,hl,?_⟩
 have n1:(zA c1 s.heap t).objs.size=s.heap.objs.size+1:=Heap.size_push ..;have n2:(zB c1 c2 s.heap t l).objs.size=s.heap.objs.size+2:=by rw[Heap.size_push,n1]
 have n3:(zC c1 c2 s.heap t l).objs.size=s.heap.objs.size+3:=by rw[Heap.size_push,n2]
 have n4:(zD c1 c2 s.heap t l).objs.size=s.heap.objs.size+4:=by rw[Heap.size_push,n3]
 have c5:(zE c1 c2 s.heap t l).get? (zD c1 c2 s.heap t l).objs.size=some _:=ak _ rfl;have c4:(zE c1 c2 s.heap t l).get? (zC c1 c2 s.heap t l).objs.size=some _:=ac _ (ak _ rfl);have c3:(zE c1 c2 s.heap t l).get? (zB c1 c2 s.heap t l).objs.size=some _:=ac _ (ac _ (ak _ rfl));have d2:(zE c1 c2 s.heap t l).get? (zA c1 s.heap t).objs.size=some _:=ac _ (ac _ (ac _ (ak _ rfl)));have d1:(zE c1 c2 s.heap t l).get? s.heap.objs.size=some _:=ac _ (ac _ (ac _ (ac _ (ak _ rfl))));show _/\_;rw[n2,n3,n4] at c5;rw[n1,n2] at c3;rw[n3] at c4;rw[n1] at d2;rw[n4]
 exact⟨⟨_,c5,rfl⟩,fin _ c5 c3 c4 (.new d1) (.new d2) λb o q=>
  ac _ (ac _ (ac _ (ac _ (ac _ q))))⟩
end PySem
namespace L2
open PySem PySem.Spec PyProof.Rows
variable{pins:List (Addr×Obj)}{a b i1 i2 t z:Addr}{c c1 c2:Bool}{elts:List Expr}
theorem Inv.turns{X:Cx}{σ:St}{H:Hp}{s:Shared}{h':Heap}{t':Nat}{fp:List Addr}(I:Inv X pins σ H s)(hf:∀b∈fp,fI X pins H b)
  (k:∀b o,b∉fp->s.heap.get? b=some o->h'.get? b=some o):Inv X pins σ H {s with heap:=h',toks:=t'}:=by
 have nit:∀b u,H b=some u->b∉fp:=λb u e z=>by rw[(hf b z).1] at e;cases e
 refine I.step (g':=s.gens) (d':=s.drawn) (ch:=fp) (λb hb=>?_) (λb o _ _ hc e _=>k b o hc e) (λb o _ _ hc e _=>⟨o.slots,k b o hc e⟩) (λb o _ e n=>n)
  (λb o hc e=>⟨o,k b o hc e⟩) (λb ys e=>e) (λb o u e=>e) (λb ps e=>⟨#[],by rw[e];simp⟩) (λm hm=>?_) (λb u e=>?_) I.bare
 ·obtain⟨f0,f1,f2,f3,f4,f5⟩:=hf b hb;exact⟨f3,f1,f4,f5⟩
 ·obtain⟨o,es,ep,ho,r⟩:=hm;exact⟨o,es,ep,k _ o (λz=>(hf _ z).2.1 rfl) ho,r⟩
 ·refine(I.hok b u e).stay (λc v hc q=>k c v ?_ q) (λc q=>q) λc ys q=>q;rcases hc with z|z
  ·rw[z];exact nit b u e
  ·exact nit c _ z
noncomputable def lX(K:al):Bool->Hp->Addr->List V->Prop
 |true,H,a,xs=>ez K H a xs
 |false,H,a,xs=>gx K H a xs
theorem lX.inv{X:Cx}{σ:St}{H:Hp}{s:Shared}{xs:List V}(I:Inv X pins σ H s)(h:lX X.K c H a xs):∃its:List Value,bm xs its/\eA c s.heap a its.toArray:=by
 cases c
 ·obtain⟨its,rv,p,_⟩:=I.tuple h;exact⟨its,rv,(show s.heap.IsTuple a its.toArray from p)⟩
 ·obtain⟨its,rv,p,_⟩:=I.list h;exact⟨its,rv,p.isList⟩
theorem lX.inj{X:Cx}{σ:St}{H:Hp}{s:Shared}{xs ys:List V}(I:Inv X pins σ H s)(h:lX X.K c H a xs)(h':lX X.K c H a ys):xs=ys:=by
 cases c
 ·exact I.tuple_inj h h'
 ·exact I.list_inj h h'
noncomputable def Et(K:al)(c1 c2:Bool)(a b:Addr):It:=
 ⟨λi H=>∃xs ys x y,lX K c1 H a xs/\lX K c2 H b ys/\xs[i]? =some x/\ys[i]? =some y,
  λi H v H'=>∃p x y,v=.ref p/\H p=none/\H'=bx H p (.tup [x,y])/\(∀xs,lX K c1 H a xs->xs[i]? =some x)/\∀ys,lX K c2 H b ys->ys[i]? =some y,
  λi H=>∃xs ys,lX K c1 H a xs/\lX K c2 H b ys/\(xs.length<=i∨ys.length<=i)⟩
noncomputable def A6(c1 c2:Bool)(z TI TO i1 i2 a b:Addr)(i:Nat)(h:Heap):Prop:=IsZip h z TI TO .none/\IsPair h TI (.ref i1) (.ref i2)/\(∃c d,IsPair h TO c d)/\dj c1 h i1 a i/\dj c2 h i2 b i
theorem qG{TI TO:Addr}{i:Nat}{h:Heap}(q:A6 c1 c2 z TI TO i1 i2 a b i h):∀x∈[z,TI,TO,i1,i2],∃o,h.get? x=some o/\∀v,o.data≠ .cell v:=by
 obtain⟨q1,q2,⟨c,d,q3⟩,q4,q5⟩:=q;intro x hx;simp only[List.mem_cons,List.not_mem_nil,or_false] at hx;rcases hx with rfl|rfl|rfl|rfl|rfl
 ·exact⟨_,q1,λv z=>by have z':Data.fields _=Data.cell v:=z;cases z'⟩
 ·exact⟨_,q2,λv z=>by have z':Data.seq _ _=Data.cell v:=z;cases z'⟩
 ·exact⟨_,q3,λv z=>by have z':Data.seq _ _=Data.cell v:=z;cases z'⟩
 ·exact q4.obj
 ·exact q5.obj
theorem tQ{P:Program}{w:World}{K:al}{k:Nat}{pos:Pos}{TI TO:Addr}(Z:ZipApart z TI TO i1 i2 a b):Turn P w K (.Tuple elts k pos) (Et K c1 c2 a b) [z,TI,TO,i1,i2] z (A6 c1 c2 z TI TO i1 i2 a b) where
 mem:=by simp
 obj:=λi h st x hx=>qG st x hx
 keep:=λi h h' ⟨q1,q2,⟨c,d,q3⟩,q4,q5⟩ kk=>⟨kk z (by simp) _ q1,kk TI (by simp) _ q2,⟨c,d,kk TO (by simp) _ q3⟩,q4.at λo q=>kk i1 (by simp) o q,q5.at λo q=>kk i2 (by simp) o q⟩
 item:=by
  intro X hP hw hK hc i pins s σ H E I hf st hg;subst hP hw hK;have live:=qG st;obtain⟨q1,q2,⟨c,d,q3⟩,q4,q5⟩:=st;obtain⟨xs,ys,x,y,hq,hr,hx,hy⟩:=hg;obtain⟨its,rv,p⟩:=lX.inv I hq;obtain⟨jts,rw',p'⟩:=lX.inv I hr;obtain⟨u,hu,ru⟩:=rv.get hx;obtain⟨v,hv,rv'⟩:=rw'.get hy;refine tx Z q1 q2 q3 q4 q5 p p' (x:=u) (y:=v) (by simpa using hu) (by simpa using hv) λg a1 a2 a3 a4 a5 a6 a7=>?_
  refine⟨_,rfl,wpAny_letOwnedTupleGo_zip a1 λh2 b1 b2=>?_⟩
  replace b2:Heap.SameBut z g h2:=b2
  have lt:∀{x:Addr},x∈[z,TI,TO,i1,i2]->x<s.heap.objs.size:=λhx=>by obtain⟨o,e,_⟩:=live _ hx;exact ai e
  have ltz:z<s.heap.objs.size:=lt (by simp)
  have hn:H s.heap.objs.size=none:=I.hok.fresh (ae _);have t2:IsPair h2 s.heap.objs.size u v:=b2.extBut _ _ (bp ltz) a5
  have I2:Inv X pins σ (bx H s.heap.objs.size (.tup [x,y])) {s with heap:=h2,toks:=s.toks}:=by
   refine I.turnLaid (fp:=[z,TI,TO,i1,i2]) hf (λe o he q=>?_) (ae _) ⟨(by show 2<=sizeLine;decide),[u,v],.cons ru (.cons rv' .nil),?_⟩
   ·simp only[List.mem_cons,List.not_mem_nil,or_false,not_or] at he;exact b2.extBut _ _ he.1 (a7 e o he.1 he.2.2.1 he.2.2.2.1 he.2.2.2.2 q)
   ·exact⟨_,t2,rfl,_,rfl⟩
  refine⟨.ref s.heap.objs.size,_,I2,rfl,⟨_,x,y,rfl,hn,rfl,λys hy=>by rw[lX.inj I hy hq];exact hx,λys' hy'=>by rw[lX.inj I hy' hr];exact hy⟩,⟨b1,b2.extBut _ _ Z.TIz (a7 _ _ Z.TIz Z.TITO Z.TIi1 Z.TIi2 q2),⟨u,v,b2.extBut _ _ Z.TOz a2⟩,a3.at λo q=>b2.extBut _ _ Z.i1z q,a4.at λo q=>b2.extBut _ _ Z.i2z q⟩,λe he=>?_⟩
  rw[aD (aj (lt he))];exact(hf e he).1
 done:=by
  intro X hP hw hK hc i pins s σ H E I hf st hg;subst hP hw hK;obtain⟨q1,q2,⟨c,d,q3⟩,q4,q5⟩:=st;obtain⟨xs,ys,hq,hr,hx⟩:=hg;obtain⟨its,rv,p⟩:=lX.inv I hq;obtain⟨jts,rw',p'⟩:=lX.inv I hr;have l1:=rv.length;have l2:=rw'.length;refine tD (I.ok.hd hc) Z q1 q2 q3 q4 q5 p p' (hx.imp (λq=>by simp;omega) λq=>by simp;omega) λg hk=>⟨rfl,I.turns (t':=s.toks) (fp:=[z,TI,TO,i1,i2]) hf λe o he q=>?_⟩
  simp only[List.mem_cons,List.not_mem_nil,or_false,not_or] at he;exact hk e o he.1 he.2.2.1 he.2.2.2.1 he.2.2.2.2 q
 self:=λ_ _ _ _ _ st h=>wpAny_pyIter_zip st.1 h
noncomputable def D_(K:al)(tl:TA):TI:=λσ H R=>tl σ H λvs H1=>∃c1 c2 a b,vs=[.ref a,.ref b]/\(∃xs,lX K c1 H1 a xs)/\(∃ys,lX K c2 H1 b ys)/\R (Et K c1 c2 a b) H1
theorem uO{X:Cx}{k:Nat}{tp:Pos}{a b:Expr}{ta:TA}{p pos:Pos}(hg:Gl X "zip")(hm:X.mg "zip"=none)(ha:PA X [a,b] ta)(hs:starEach [a,b] X.env=(false,eval a X.env)::starEach [b] X.env)(hs2:starEach [b] X.env=[(false,eval b X.env)]):
  PI X (.Tuple elts k tp) (.Call (.Name "zip" p) [a,b] [] pos) (D_ X.K ta):=by
 intro pins s σ H R I h;refine Call_ (fY I hg hm boot_zip (aS (bQ (ha pos pins s σ H _ I h) λus s1 ⟨vs,H1,I1,r1,q1⟩=>?_) hs (by rw[hs2];rfl)))
 obtain⟨c1,c2,a,b,e,⟨xs,hq⟩,⟨ys,hr⟩,q⟩:=q1;subst e;cases r1 with
 |cons r rr=>
  cases rr with
  |cons r' rr=>
   cases rr;cases r;cases r';obtain⟨its,rv,pt⟩:=lX.inv I1 hq;obtain⟨jts,rw',pl⟩:=lX.inv I1 hr;refine v0 pt pl λg d1 d2 c3 c4 c5 hk=>?_;refine wpAny_pyIter_zip d1 ?_;have la:=pt.lt;have lb:=pl.lt;refine⟨_,[s1.heap.objs.size+4,s1.heap.objs.size+2,s1.heap.objs.size+3,s1.heap.objs.size,s1.heap.objs.size+1],_,_,H1,rfl,I1.kept (t':=s1.toks) hk,tQ (PyProof.Rows.zipApart_new la lb),⟨d1,d2,⟨_,_,c3⟩,c4,c5⟩,λe he=>?_,q⟩
   have he':s1.heap.objs.size<=e:=by simp only[List.mem_cons,List.not_mem_nil,or_false] at he;rcases he with rfl|rfl|rfl|rfl|rfl<;>omega
   exact I1.fpOk he' (I1.hok.fresh he')
section
variable{prog:Program}{w:World}{A:Around}{E:Value->Shared->Prop}{s:Shared}
theorem mM{it t:Addr}{items:Array Value}(hne:t≠it):∀(n i:Nat)(s:Shared)(Q:List Value->Shared->Prop),s.heap.IsListIter it t i->s.heap.IsList t items->i+n<=items.size->
  (∀h',h'.IsListIter it t (i+n)->Heap.SameBut it s.heap h'->Q ((items.toList.drop i).take n) {s with heap:=h'})->wpAny (model prog w) A (draw (.ref it) n) Q E s
 |0,i,s,Q,hit,_,_,hQ=>by
  show wpAny _ _ (pure []) Q E s;exact af (by simpa using hQ s.heap hit (Heap.SameBut.refl ..))
 |n+1,i,s,Q,hit,ht,hle,hQ=>by
  have hlt:i<items.size:=by omega
  show wpAny _ _ (pyNext (.ref it)>>=_) Q E s;refine aa (wpAny_pyNext_list_item hit ht (x:=items[i]) (by simp[hlt]) λh₁ hit₁ hs₁=>?_)
  replace hs₁:Heap.SameBut it s.heap h₁:=hs₁
  refine aa (wpAny_holding (mM hne n (i+1) _ _ hit₁ (ht.at λo e=>(hs₁.2 t hne).trans e) (by omega) λh₂ hit₂ hs₂=>af ?_))
  have hd:items.toList.drop i=items[i]::items.toList.drop (i+1):=by simp[List.drop_eq_getElem_cons,hlt]
  have:=hQ h₂ (by rw[show i+(n+1)=i+1+n by omega];exact hit₂) (hs₁.trans hs₂)
  rw[hd,List.take_succ_cons] at this;exact this
theorem jp{items:Array Value}{Q:List Value->Shared->Prop}(hh:A.handled=none)(ht:s.heap.IsList t items)
  (hQ:∀h',Heap.ExtBut s.heap.objs.size s.heap h'->Q items.toList {s with heap:=h'}):wpAny (model prog w) A (unpackItems (.ref t) items.size none) Q E s:=by
 have hlt:t≠s.heap.objs.size:=by obtain⟨o,ho,_⟩:=ht;exact aj (ai ho)
 unfold unpackItems;refine aa ?_
 ·unfold notIterableAtAll;refine aa (wpAny_specialOf ht.typeIs slot_list_iter.lookup ?_);refine af ?_;simp only[Bool.false_eq_true,if_false];refine aa (wpAny_holding (wpAny_pyIter_list ht ?_));refine aa (wpAny_holding (mM hlt items.size 0 _ _ ⟨_,ak _ rfl,rfl,rfl⟩ (ht.at λo e=>ac _ e) (by omega) λh₁ hit₁ hs₁=>?_))
  have hall:List.take items.size (List.drop 0 items.toList)=items.toList:=by
   rw[List.drop_zero];exact List.take_of_length_le (by simp)
  rw[hall];rw[if_neg (by simp)]
  have ht₁:h₁.IsList t items:=ht.at λo e=>(hs₁.2 t hlt).trans (ac _ e);refine aa (wpAny_holding (wpAny_pyNext_list_end hh hit₁ ht₁ (by simp) λh₂ he₂=>?_))
  simp only[Option.isSome_none,Bool.false_eq_true,if_false];refine af (hQ h₂ λb o hb e=>he₂ b o hb (hs₁.extBut b o hb (ac _ e)))
theorem jl{env:Env}{x1}{pos:Pos}{items:Array Value}{Q:Unit->Shared->Prop}(hh:A.handled=none)(ht:s.heap.IsList t items)
  (hn:(assignEach elts env).length=items.size)(hstar:(assignEach elts env).findIdx? (·.1)=none)
  (h:∀h',Heap.ExtBut s.heap.objs.size s.heap h'->wpAny (model prog w) A (assignInOrder ((assignEach elts env).map (·.2)) items.toList) Q E {s with heap:=h'}):
  wpAny (model prog w) A (assign (.Tuple elts x1 pos) env (.ref t)) Q E s:=by
 rw[assign_Tuple];refine aa (wpAny_standAt ?_);unfold unpack;rw[hn,hstar];exact aa (wpAny_holding (jp hh ht h))
end
section
variable{X:Cx}{pos:Pos}
noncomputable def Cu(K:al)(n:Nat)(t:wd):TG:=λv σ H Q=>∃a xs,v=.ref a/\(ez K H a xs∨gx K H a xs)/\xs.length=n/\t xs σ H Q
theorem ny{es:List Expr}{k:Nat}{t:wd}{n:Nat}(hc:X.calm=true)(h:A3 X es t)
  (hn:(assignEach es X.env).length=n)(hst:(assignEach es X.env).findIdx? (·.1)=none):PG X (.Tuple es k pos) (Cu X.K n t):=by
 intro pins s σ H v u Q I r hw;obtain⟨a,xs,e1,hq,hl,hw⟩:=hw;subst e1;cases r;rcases hq with hq|hq
 ·obtain⟨its,rv,ht,hz⟩:=I.list hq;refine jl (I.ok.hd hc) ht.isList (by simp[hn,<-hl,rv.length]) hst λh' hx=>?_
  have I1:Inv X pins σ H {s with heap:=h'}:=I.kept (t':=s.toks) λb o e=>hx b o (aj (ai e)) e;exact h pins _ σ H xs _ Q I1 (by simpa using rv) hw
 ·obtain⟨its,rv,ht,hz⟩:=I.tuple hq;refine assign_Tuple_tuple (I.ok.hd hc) ht (by simp[hn,<-hl,rv.length]) hst λh' hx=>?_
  have I1:Inv X pins σ H {s with heap:=h'}:=I.kept (t':=s.toks) λb o e=>hx b o (aj (ai e)) e;exact h pins _ σ H xs _ Q I1 (by simpa using rv) hw
end
theorem n9{k:Key}:∀{xs:List (Key×V)}{p:Key×V},fM xs k=none->¬p.1=k->fM (xs++[p]) k=none
 |[],p,_,h=>by rw[List.nil_append,eW h];rfl
 |q::xs,p,h,hp=>by
  by_cases e:q.1=k
  ·rw[gQ e] at h;cases h
  ·rw[eW e] at h;rw[List.cons_append,eW e];exact n9 h hp
theorem jQ:∀(more kvs:List (Key×V)),(more.map (·.1)).Nodup->(∀k∈more.map (·.1),fM kvs k=none)->gV kvs more=kvs++more
 |[],kvs,_,_=>by show kvs=kvs++[];simp
 |p::r,kvs,hn,hd=>by
  rw[List.map_cons,List.nodup_cons] at hn;show gV (putK kvs p.1 p.2) r=_;rw[uF p.2 (hd p.1 (by simp)),jQ r (kvs++[(p.1,p.2)]) hn.2 λk hk=>?_]
  ·simp
  ·refine n9 (hd k (by simp[List.mem_map] at hk ⊢;exact .inr hk)) λe=>hn.1 (by rw[show p.1=k from e];exact hk)
end L2
namespace PySem
open Sem (wp)
open AutoSeq1 (wpAny_loadPart')
section
end
end PySem
namespace L2
open PySem PySem.Spec PyProof.Rows
theorem sx{items acc:Array Value}(h:ItemsOf (λi v=>items[items.size - 1 - i]? =some v) acc items.size):acc.toList=items.toList.reverse:=by
 obtain⟨h1,h2⟩:=h;refine List.ext_getElem? λj=>?_;by_cases hj:j<acc.size
 ·have e:acc[j]? =some acc[j]:=by simp[hj]
  have q:=h2 j _ e;rw[List.getElem?_reverse (by simpa[<-h1] using hj)]
  rw[Array.getElem?_toList,e,Array.getElem?_toList,Array.length_toList,q]
 ·rw[List.getElem?_eq_none (by simpa using hj),List.getElem?_eq_none (by simp;omega)]
theorem bm.rev:∀{xs:List V}{us:List Value},bm xs us->bm xs.reverse us.reverse
 |_,_,.nil=>.nil
 |_,_,.cons r t=>by rw[List.reverse_cons,List.reverse_cons];exact(bm.rev t).append (.cons r .nil)
end L2
namespace PySem
open Sem (wp)
open AutoSeq1 (wpAny_loadPart')
variable{Q:Value->Shared->Prop}{it l t:Addr}
namespace F
theorem slot_rvo_next:Slot "reversed" "__next__" "reversed.__next__":=
 .of (owner:= "reversed") (n:= "__next__") (by rw[typeLookup_type,builtinLookup_eq_fast];kernel_rfl) (by decide+kernel) (by decide+kernel) (by decide+kernel)
  (by first|exact .inl (by decide+kernel)|exact .inr (by decide+kernel)) (by rw[isSubtype_type];kernel_rfl)
theorem iB:Slot "reversed" "__iter__" "reversed.__iter__":=
 .of (owner:= "reversed") (n:= "__iter__") (by rw[typeLookup_type,builtinLookup_eq_fast];kernel_rfl) (by decide+kernel) (by decide+kernel) (by decide+kernel)
  (by first|exact .inl (by decide+kernel)|exact .inr (by decide+kernel)) (by rw[isSubtype_type];kernel_rfl)
theorem slot_rvo_hint:Slot "reversed" "__length_hint__" "reversed.__length_hint__":=
 .of (owner:= "reversed") (n:= "__length_hint__") (by rw[typeLookup_type,builtinLookup_eq_fast];kernel_rfl) (by decide+kernel) (by decide+kernel) (by decide+kernel)
  (by first|exact .inl (by decide+kernel)|exact .inr (by decide+kernel)) (by rw[isSubtype_type];kernel_rfl)
theorem lZ:Slot "reversed" "__init__" "object.__init__":=
 .of (owner:= "object") (n:= "__init__") (by rw[typeLookup_type,builtinLookup_eq_fast];kernel_rfl) (by decide+kernel) (by decide+kernel) (by decide+kernel)
  (by first|exact .inl (by decide+kernel)|exact .inr (by decide+kernel)) (by rw[isSubtype_type];kernel_rfl)
theorem hV:entryFor table "reversed.__next__"=some Builtin.«reversed.__next__»:=entryFor_of_tree (by kernel_rfl)
theorem lH:entryFor table "reversed.__length_hint__"=some Builtin.«reversed.__length_hint__»:=entryFor_of_tree (by kernel_rfl)
theorem lG:entryFor table "reversed.__iter__"=some Builtin.«dict_keyiterator.__iter__»:=
 entryFor_alias (id':= "dict_keyiterator.__iter__") (by kernel_rfl) (by first|rfl|decide+kernel|(unfold String.splitOn;simp+decide [String.splitOnAux])) (by decide+kernel) (by kernel_rfl)
theorem gw(a:Value):argsOk "reversed.__next__" ⟨[a],[]⟩:=by unfold argsOk;kernel_rfl
theorem j4(a:Value):argsOk "reversed.__iter__" ⟨[a],[]⟩:=by unfold argsOk;kernel_rfl
theorem j5(a:Value):argsOk "reversed.__length_hint__" ⟨[a],[]⟩:=by unfold argsOk;kernel_rfl
theorem k6:typeLookup (.type "reversed") "__len__"=pure none:=by rw[typeLookup_type,builtinLookup_eq_fast];kernel_rfl
theorem jB:typeLookup (.type "tuple") "__reversed__"=pure none:=by rw[typeLookup_type,builtinLookup_eq_fast];kernel_rfl
theorem j3:TypeCalled "reversed" "reversed.__new__" "object.__init__":=
 ⟨by decide+kernel,create_reversed,⟨_,_,mro_reversed⟩,made_reversed,plain_reversed_new,sub_reversed_self,lZ⟩
end F
theorem _root_.PyProof.Rows.IsTup.at_{h h':Heap}{a:Addr}{items:Array Value}(x:PyProof.Rows.IsTup h a items)(e:∀o,h.get? a=some o->h'.get? a=some o):PyProof.Rows.IsTup h' a items:=let⟨o,ho,r⟩:=x;⟨o,e o ho,r⟩
noncomputable abbrev hX(h:Heap)(a t:Addr)(i:Int):Prop:=h.get? a=some {cls:= .type "reversed",dict:=none,data:= .fields #[.ref t,rawInt i],slots:= #[]}
theorem iw(t:Addr)(items:Array Value)(hf:(items.size:Int)<2^63):
  Meets (Builtin.«reversed.__new__» ⟨[.type "reversed",.ref t],[]⟩) (λ_ R s=>PyProof.Rows.IsTup s.heap t items/\
   R (.ok (.ret (.ref s.heap.objs.size))) {s with heap:=s.heap.push {cls:= .type "reversed",data:= .fields #[.ref t,rawInt ((items.size:Int) - 1)]},toks:=s.toks+1+1}):=
 .of_wp λprog w A R s h=>by
  obtain⟨ht,h⟩:=h;have hT:s.TypeIs (.ref t) "tuple":=ht.typeIs;unfold Builtin.«reversed.__new__»;refine aa (wpAny_of_eq (newClass_reversed _) ?_)
  try dsimp only
  refine aa (wpAny_of_eq (a:=()) (by first|rfl|kernel_rfl) ?_)
  refine aa (wpAny_of_eq (a:=()) (by first|rfl|kernel_rfl) ?_)
  try dsimp only
  refine aa (wpAny_specialOf hT F.jB ?_)
  try dsimp only
  refine aa ?_;show wpAny _ _ (isInstance (.ref t) (.type "dict")>>=_) _ _ _;refine aa (wpAny_isInstance (T:= "tuple") (b:=false) hT (by rw[isSubtype_type];kernel_rfl) ?_)
  try dsimp only
  rw[if_neg au];refine aa (wpAny_specialOf hT F.slot_tuple_getitem.lookup ?_)
  try dsimp only
  rw[if_pos (by decide+kernel)]
  refine af ?_
  try dsimp only
  rw[if_neg (by decide)]
  refine aa (PyProof.Rows.len_tuple ht hf ?_);refine aa (m:=asInt? _) (af ?_)
  try dsimp only
  show wpAny _ _ (newObj (.type "reversed") (.fields #[.ref t,rawInt ((items.size:Int) - 1)])>>=_) _ _ _;exact aa (wpAny_newObj_type (af ⟨_,rfl,h⟩))
section
variable{prog:Program}{w:World}{A:Around}{E:Value->Shared->Prop}{s:Shared}
theorem jj{items:Array Value}(ht:PyProof.Rows.IsTup s.heap t items)(hf:(items.size:Int)<2^63)
  (h:Q (.ref s.heap.objs.size) {s with heap:=s.heap.push {cls:= .type "reversed",data:= .fields #[.ref t,rawInt ((items.size:Int) - 1)]},toks:=s.toks+1+1}):wpAny (model prog w) A (call (.type "reversed") [.ref t]) Q E s:=
 callType_new F.j3 (by decide) (F.typeCall_reversed_1 _) (F.newCall_reversed_1 _) (λobj=>F.args_object_init_2 obj _) F.entry_reversed_new (iw t items hf) ⟨ht,⟨_,ak _ rfl,rfl⟩,h⟩
theorem gA{i:Nat}{items:Array Value}{x:Value}{Q:Option Value->Shared->Prop}(hit:hX s.heap it t (i:Int))(ht:PyProof.Rows.IsTup s.heap t items)(hf:(items.size:Int)<2^63)(hx:items[i]? =some x)
  (hQ:∀h' tk,hX h' it t ((i:Int) - 1)->Heap.SameBut it s.heap h'->Q (some x) {s with heap:=h',toks:=tk}):wpAny (model prog w) A (pyNext (.ref it)) Q E s:=by
 have hT:s.TypeIs (.ref it) "reversed":=⟨_,hit,rfl⟩
 have hi:i<items.size:=by
  rcases Nat.lt_or_ge i items.size with h|h
  ·exact h
  ·rw[Array.getElem?_eq_none h] at hx;cases hx
 unfold pyNext;refine aa (wpAny_attempt (wpAny_callSpecial?_slot (name:=Str.ofString "__next__") hT F.slot_rvo_next (wpAny_call_entry F.slot_rvo_next hT F.hV ?_ (F.gw _))));unfold Builtin.«reversed.__next__»;refine aa (wpAny_of_eq (a:=(Value.ref it,[])) rfl ?_)
 try dsimp only
 refine aa (aJ hit rfl (x:= .ref t) rfl ?_);refine aa (aJ hit rfl (x:=rawInt (i:Int)) rfl ?_);show wpAny _ _ (if(i:Int)<0 then _ else _) _ _ s
 rw[if_neg (by omega)]
 refine aa (wpAny_specialOf ht.typeIs F.slot_tuple_getitem.lookup ?_)
 try dsimp only
 rw[if_neg (by decide)]
 refine aa (wpAny_mkInt ?_);refine aa (wpAny_attempt (PyProof.Rows.getItem_tuple (s:={s with toks:=s.toks+1}) (j:=i) (x:=x) ht (by omega) (by omega) (by unfold seqIndex?;simp;omega) hx ?_))
 try dsimp only
 refine aa (aJ (s:={s with toks:=s.toks+1}) hit rfl (x:=rawInt (i:Int)) rfl ?_);refine aa (a_ (s:={s with toks:=s.toks+1}) hit (by simp) λh₂ he₂ hs₂=>?_)
 exact af ⟨x,rfl,af (hQ h₂ _ he₂ hs₂)⟩
theorem gK{Q:Option Value->Shared->Prop}(hh:A.handled=none)(hit:hX s.heap it t (-1))
  (hQ:∀h',Heap.ExtBut it s.heap h'->Q none {s with heap:=h'}):wpAny (model prog w) A (pyNext (.ref it)) Q E s:=by
 have hT:s.TypeIs (.ref it) "reversed":=⟨_,hit,rfl⟩;unfold pyNext;refine aa (wpAny_attempt (wpAny_callSpecial?_slot (name:=Str.ofString "__next__") hT F.slot_rvo_next (wpAny_call_entry F.slot_rvo_next hT F.hV ?_ (F.gw _))));unfold Builtin.«reversed.__next__»;refine aa (wpAny_of_eq (a:=(Value.ref it,[])) rfl ?_)
 try dsimp only
 refine aa (aJ hit rfl (x:= .ref t) rfl ?_);refine aa (aJ hit rfl (x:=rawInt (-1)) rfl ?_);show wpAny _ _ (if(-1:Int)<0 then _ else _) _ _ s
 rw[if_pos (by decide)]
 refine aa (wpAny_rule ?_);refine aa ?_;show wpAny _ _ (setField (.ref it) 1 (rawInt (-1))>>=λ_=>setField (.ref it) 0 .none) _ _ s;refine aa (a_ hit (by simp) λh₁ he₁ hs₁=>?_)
 refine a_ (s:={s with heap:=h₁}) he₁ (by simp) λh₂ he₂ hs₂=>?_
 first
 |show wpAny _ _ (newExc (.type "StopIteration") []>>=_) _ _ _
 |(refine aa ?_;show wpAny _ _ (newExc (.type "StopIteration") []>>=_) _ _ _)
 refine aa ?_;simp only[newExc,newTuple];refine aa (wpAny_newObj_type ?_ (by size_fits))
 refine aa (m:=firstArgMember _ _) (wpAny_of_eq (a:=Value.none) (by first|rfl|(simp only[firstArgMember];rfl)) ?_)
 refine wpAny_newObj_type ?_ (by size_fits)
 simp only[raiseNew];refine aa (wpAny_handled ?_)
 first|rw[show A.in1.handled=none from hh]|rw[hh]
 refine aa (af (wpAny_throw ?_));refine aa (wpAny_isInstance (T:= "StopIteration") (b:=true) ⟨_,ak _ rfl,rfl⟩ isSubtype_stop ?_);refine af (hQ _ ?_);have e1:Heap.ExtBut it s.heap h₂:=λb o hb e=>hs₂.extBut b o hb (hs₁.extBut b o hb e);exact(e1.push _).push _
theorem fK{i:Int}(hit:hX s.heap it t i)(h:Q (.ref it) s):wpAny (model prog w) A (pyIter (.ref it)) Q E s:=by have hT:s.TypeIs (.ref it) "reversed":=⟨_,hit,rfl⟩;refine wpAny_pyIter_slot hT F.iB (wpAny_call_entry F.iB hT F.lG ?_ (F.j4 _));show wpAny _ _ (ret (.ref it)) _ _ s;exact af ⟨_,rfl,"reversed",_,hT,F.slot_rvo_next.lookup,h⟩
end
theorem Walks.tupRev{prog:Program}{w:World}{A:Around}(hh:A.handled=none)(I l:Addr)(hne:l≠I)(items:Array Value)(hf:(items.size:Int)<2^63):
  Walks prog w A I [I,l] [I] items.size (λi v=>items[items.size - 1 - i]? =some v) (λi h=>i<=items.size/\hX h I l ((items.size:Int) - 1 - (i:Int))/\PyProof.Rows.IsTup h l items) where
 sub:=λb hb=>by simp at hb;simp[hb]
 frame:=λ_ _ _ x hk=>⟨x.1,hk I (by simp) _ x.2.1,x.2.2.at_ λo e=>hk l (by simp) o e⟩
 item:=λi s Q E hi x hQ=>by
  have e:(items.size:Int) - 1 - (i:Int)=((items.size - 1 - i:Nat):Int):=by omega
  have hit:=x.2.1;rw[e] at hit;have hx:items[items.size - 1 - i]? =some (items[items.size - 1 - i]'(by omega)):=Array.getElem?_eq_getElem (by omega)
  refine gA hit x.2.2 hf hx λh' tk hit' hs'=>?_;have e2:((items.size - 1 - i:Nat):Int) - 1=(items.size:Int) - 1 - ((i+1:Nat):Int):=by omega
  rw[e2] at hit';exact hQ _ h' tk hx ⟨hi,hit',x.2.2.at_ λo e=>(hs'.2 l hne).trans e⟩ λb o hb eo=>hs'.extBut b o (λh=>hb (by simp[h])) eo
 done:=λs Q E x hQ=>by
  have e:(items.size:Int) - 1 - (items.size:Int)= -1:=by omega
  have hit:=x.2.1;rw[e] at hit;exact gK hh hit λh' he'=>hQ h' s.toks λb o hb eo=>he' b o (λh=>hb (by simp[h])) eo
 self:=λ_ _ _ _ x hQ=>fK x.2.1 hQ
section
variable{prog:Program}{w:World}{A:Around}{E:Value->Shared->Prop}{s:Shared}
theorem ky{items:Array Value}{Q:Bool->Shared->Prop}(hit:hX s.heap it t ((items.size:Int) - 1))(ht:PyProof.Rows.IsTup s.heap t items)(hf:items.size<=2^24)(h:∀b tk,Q b {s with toks:=tk}):wpAny (model prog w) A (Builtin.List.listLengthHint (.ref it)) Q E s:=by
 have hT:s.TypeIs (.ref it) "reversed":=⟨_,hit,rfl⟩;have sz:=sizeLine_eq;unfold Builtin.List.listLengthHint;refine aa (wpAny_specialOf hT F.k6 ?_);dsimp only;refine wpAny_ite_split (λhab=>absurd hab (by decide)) (λ_=>?_)
 refine wpAny_ite_split (λhab=>absurd hab (by decide)) (λ_=>?_)
 refine aa (wpAny_specialOf hT F.slot_rvo_hint.lookup ?_);dsimp only;rw[show splitId "reversed.__length_hint__"=some ("reversed","__length_hint__") from by decide+kernel]
 dsimp only;refine aa (wpAny_isInstance (T:= "reversed") (b:=true) hT (by rw[isSubtype_type];kernel_rfl) ?_)
 refine wpAny_ite_split (λhab=>absurd hab (by decide)) (λ_=>?_)
 refine wpAny_ite_split (λhab=>absurd hab (by decide+kernel)) (λ_=>?_)
 refine aa (wpAny_rule ?_);refine aa (wpAny_of_eq (F.slot_rvo_hint.bind _) ?_);dsimp only;refine aa (wpAny_attempt (wpAny_call_entry F.slot_rvo_hint hT F.lH ?_ (F.j5 _)));unfold Builtin.«reversed.__length_hint__»;refine aa (wpAny_of_eq (a:=Value.ref it) rfl ?_);refine aa (aJ hit rfl (x:= .ref t) rfl ?_);show wpAny _ _ (if(Value.ref t==Value.none)=true then _ else _) _ _ s
 rw[if_neg (show ¬((Value.ref t==Value.none)=true) from au)];refine aa (PyProof.Rows.len_tuple ht (by omega) ?_)
 refine aa (m:=asInt? _) (af ?_);dsimp only;refine aa (aJ (s:={s with toks:=s.toks+1+1}) hit rfl (x:=rawInt ((items.size:Int) - 1)) rfl ?_);show wpAny _ _ (if(items.size:Int)<(items.size:Int) - 1+1 then _ else _) _ _ _
 rw[if_neg (by omega)]
 refine aa (wpAny_mkInt (af ⟨_,rfl,?_⟩));dsimp only;refine aa (m:=asInt? _) (af ?_);dsimp only;rw[if_neg (by simp[Builtin.List.listFitsIndex];omega)]
 rw[if_neg (by omega)]
 rw[if_neg (by simp[Builtin.List.listTooLong];omega)]
 exact af (h _ _)
theorem jo{R:Result->Shared->Prop}{items:Array Value}(hh:A.handled=none)(hit:hX s.heap it l ((items.size:Int) - 1))(hl:PyProof.Rows.IsTup s.heap l items)(hne:l≠it)
  (hlen:items.size<=2^24)(S:Addr)(res:Value) (c₀:Nat)(hS:s.heap.get? S=some {cls:= .type "list",data:= .seq #[] c₀}) (hSl:S≠l)
  (hR:∀h' tk acc' c',(∀b o,b≠S->b≠it->s.heap.get? b=some o->h'.get? b=some o)->h'.get? S=some {cls:= .type "list",dict:=none,data:= .seq acc' c',slots:= #[]}->
   ItemsOf (λi v=>items[items.size - 1 - i]? =some v) acc' items.size->R (.ok (.ret res)) {s with heap:=h',toks:=tk}):
  wpAny (model prog w) A.in1 (Builtin.List.listExtendWith (.ref S) (.ref it) res)
   (λfin s'=>match fin with| .done f=>R (.ok f) s'| .again c'=>c'.quiet=true/\codeAny (model prog w) A c' R s') (λe s'=>R (.error e) s') s:=by
 have hSr:S≠it:=λe=>by
  rw[e,hit] at hS;exact absurd (show Value.type "reversed"=Value.type "list" from congrArg Obj.cls (ag hS)) (by decide)
 have hSf:S∉[it,l]:=λhm=>by
  rcases List.mem_cons.mp hm with e|e
  ·exact hSr e
  ·exact hSl (by simpa using e)
 have W:=(Walks.tupRev (prog:=prog) (w:=w) (A:=A.in1) hh it l hne items (by omega))
 have st0:0<=items.size/\hX s.heap it l ((items.size:Int) - 1 - ((0:Nat):Int))/\PyProof.Rows.IsTup s.heap l items:=⟨Nat.zero_le _,by simpa using hit,hl⟩
 have key:∀(h:Heap)(c₁ tk:Nat),(0<=items.size/\hX h it l ((items.size:Int) - 1 - ((0:Nat):Int))/\PyProof.Rows.IsTup h l items)->(∀b o,b≠S->s.heap.get? b=some o->h.get? b=some o)->
   h.get? S=some {cls:= .type "list",data:= .seq #[] c₁}->codeAny (model prog w) A (.builtin "list.extend.loop" ⟨[.ref S,.ref it,res],[]⟩) R {s with heap:=h,toks:=tk}:=by
  intro h c₁ tk hst hk hS₁;refine codeAny_extend_loopS W.toS (by rw[sizeLine_eq];omega) S hSf res items.size 0 _ #[] c₁ rfl (Nat.zero_le _) hst hS₁ (ItemsOf.nil _) λs' acc' c' hm hS' hacc=>?_
  rw[Moved.eq_with hm];refine hR s'.heap s'.toks acc' c' (λb o hb hb' e=>hm.heap b o (λhmem=>?_) (hk b o hb e)) hS' hacc;rcases List.mem_cons.mp hmem with e'|hmem
  ·exact hb e'
  ·exact hb' (by simpa using hmem)
 unfold Builtin.List.listExtendWith;refine aa (wpAny_typeOf (T:= "reversed") ⟨_,hit,rfl⟩ ?_);have h1:Builtin.List.listSameRef (.ref S) (.ref it)=false:=by simp[Builtin.List.listSameRef,hSr]
 have h2:(Value.type "reversed"==Value.type "list")=false:=by decide
 have h3:(Value.type "reversed"==Value.type "tuple")=false:=by decide
 simp only[h1,h2,h3,Bool.or_false,Bool.false_eq_true,if_false];refine aa (fK hit ?_);refine aa (wpAny_holding (ky hit hl hlen λb tk=>?_));refine wpAny_ite_split (λ_=>?_) (λ_=>af ⟨plainId_quiet F.plain_extend_loop _,key _ c₀ _ st0 (λb o _ e=>e) hS⟩);refine aa (wpAny_rule ?_);refine aa ?_;show wpAny _ _ (updateSeq S (·.push .none)>>=λ_=>updateSeq S (·.pop)) _ _ _;refine aa (wpAny_updateSeq (s:={s with toks:=tk}) hS rfl ?_);have hS₂:=Heap.get?_update_self (Obj.mapSeq (·.push Value.none)) hS rfl;refine wpAny_updateSeq (hz:=by seq_fits) hS₂ rfl ?_
 have hS₃:=Heap.get?_update_self (Obj.mapSeq (·.pop)) hS₂ rfl
 have oth:∀b o,b≠S->s.heap.get? b=some o->((s.heap.update S (Obj.mapSeq (·.push Value.none))).update S (Obj.mapSeq (·.pop))).get? b=some o:=λb o hb e=>
  (Heap.get?_update_other _ _ (Ne.symm hb)).trans ((Heap.get?_update_other _ _ (Ne.symm hb)).trans e)
 exact af ⟨plainId_quiet F.plain_extend_loop _,key _ _ _ ⟨Nat.zero_le _,oth _ _ (Ne.symm hSr) st0.2.1,hl.at_ λo e=>oth _ _ (Ne.symm hSl) e⟩ oth hS₃⟩
theorem iu{R:Result->Shared->Prop}{items:Array Value}(hh:A.handled=none)(hit:hX s.heap it l ((items.size:Int) - 1))(hl:PyProof.Rows.IsTup s.heap l items)(hne:l≠it)(hlen:items.size<=2^24)
  (S:Addr)(hS:s.heap.get? S=some {cls:= .type "list",data:= .seq #[]}) (hSl:S≠l)(hSr:S≠it)
  (hR:∀h' tk acc' c',(∀b o,b≠S->b≠it->s.heap.get? b=some o->h'.get? b=some o)->h'.get? S=some {cls:= .type "list",dict:=none,data:= .seq acc' c',slots:= #[]}->
   ItemsOf (λi v=>items[items.size - 1 - i]? =some v) acc' items.size->R (.ok (.ret .none)) {s with heap:=h',toks:=tk}):
  wpAny (model prog w) A.in1 (Builtin.«list.__init__» ⟨[.ref S,.ref it],[]⟩)
   (λfin s'=>match fin with| .done f=>R (.ok f) s'| .again c'=>c'.quiet=true/\codeAny (model prog w) A c' R s') (λe s'=>R (.error e) s') s:=by
 show wpAny _ _ (do let old <-Builtin.List.listItems (.ref S);Builtin.List.listUpdate (.ref S) (λ_=> #[]);letGo old.toList.reverse;Builtin.List.listExtendWith (.ref S) (.ref it) .none) _ _ s
 refine aa ?_;unfold Builtin.List.listItems;refine aa (wpAny_seqItems hS rfl (af ?_));show wpAny _ _ (updateSeq S (λ_=> #[])>>=λ_=>letGo (#[]:Array Value).toList.reverse>>=λ_=>Builtin.List.listExtendWith (.ref S) (.ref it) .none) _ _ s;refine aa (wpAny_updateSeq hS rfl ?_);have hS₂:=Heap.get?_update_self (Obj.mapSeq (λ_=>(#[]:Array Value))) hS rfl
 have oth:∀b o,b≠S->s.heap.get? b=some o->(s.heap.update S (Obj.mapSeq (λ_=>(#[]:Array Value)))).get? b=some o:=
  λb o hb e=>(Heap.get?_update_other _ _ (Ne.symm hb)).trans e
 refine aa (wpAny_letGo ?_);refine jo hh (oth it _ (Ne.symm hSr) hit) (hl.at_ λo e=>oth l o (Ne.symm hSl) e) hne hlen S .none _ hS₂ hSl λh' tk acc' c' hk hS' hacc=>?_;exact hR h' tk acc' c' (λb o hb hb' e=>hk b o hb hb' (oth b o hb e)) hS' hacc
theorem mi{items:Array Value}(hh:A.handled=none)(hit:hX s.heap it l ((items.size:Int) - 1))(hl:PyProof.Rows.IsTup s.heap l items)(hne:l≠it)(hlen:items.size<=2^24)
  (hQ:∀h' tk acc' c',(∀b o,b≠it->s.heap.get? b=some o->h'.get? b=some o)->
   h'.get? s.heap.objs.size=some {cls:= .type "list",dict:=none,data:= .seq acc' c',slots:= #[]}->ItemsOf (λi v=>items[items.size - 1 - i]? =some v) acc' items.size->Q (.ref s.heap.objs.size) {s with heap:=h',toks:=tk}):
  wpAny (model prog w) A (call (.type "list") [.ref it]) Q E s:=by
 refine callType_codes (Q₁:=λobj s₁=>obj=.ref s.heap.objs.size/\s₁={s with heap:=s.heap.push {cls:= .type "list",data:= .seq #[]}}) F.called_list (F.typeCall_list_1 _) F.entry_list_init
  (code_list_new _ ⟨rfl,rfl⟩) λobj s₁ h₁=>?_
 obtain⟨rfl,rfl⟩:=h₁;have hS:(s.heap.push {cls:= .type "list",data:= .seq #[]}).get? s.heap.objs.size=some {cls:= .type "list",data:= .seq #[]}:=ak _ rfl;have h1:s.heap.objs.size≠l:=Ne.symm (aj hl.lt);have h2:s.heap.objs.size≠it:=Ne.symm (aj (ai hit));refine⟨⟨_,hS,rfl⟩,F.args_list_init_2 _ _,iu (A:=A.in1) hh (ac _ hit) (hl.push _) hne hlen _ hS h1 h2 λh' tk acc' c' hk hS' hacc=>?_⟩;exact⟨rfl,hQ h' tk acc' c' (λb o hb e=>hk b o (aj (ai e)) hb (ac _ e)) hS' hacc⟩
end
end PySem
namespace L2
open PySem PySem.Spec PyProof.Rows
noncomputable def Bx(K:al)(ta:TE):TE:=λσ H Q=>qR ta tU σ H λvs H1=>∃l xs,vs=[.ref l]/\gx K H1 l xs/\∀p,H1 p=none->Q (.ref p) (bx H1 p (.lst xs.reverse))
theorem uT{X:Cx}{a:Expr}{ta:TE}{p1 p2 q1 q2:Pos}(hc:X.calm=true)(hg:Gl X "list")(hm:X.mg "list"=none)(hg2:Gl X "reversed")(hm2:X.mg "reversed"=none)(ha:PE X a ta)(hs:starEach [a] X.env=[(false,eval a X.env)]):
  PE X (.Call (.Name "list" p1) [.Call (.Name "reversed" p2) [a] [] q2] [] q1) (Bx X.K ta):=by
 intro pins s σ H Q I h;refine Call_ (fY I hg hm boot_list (aS ?_ rfl rfl));show wpAny _ _ (spliced ((false,eval (.Call (.Name "reversed" p2) [a] [] q2) X.env)::backTo q1 (starEach [] X.env))) _ _ s;refine Calls.spliced_cons ?_;refine Call_ (fY I hg2 hm2 boot_reversed (aS (bQ ((bZ ha dP hs) q2 pins s σ H _ I h) λus s1 hp=>?_) hs rfl));obtain⟨vs,H1,I1,r1,l,xs,e,hq,q⟩:=hp;subst e;obtain⟨u,rfl,ru⟩:=vals1 r1;cases ru;obtain⟨its,rv,p,hz⟩:=I1.tuple hq;have sz:sizeLine=16777216:=sizeLine_eq;have ll:=rv.length;refine jj p (by simp;omega) ?_
 refine Calls.spliced_nil ?_;have lt:=p.lt;refine mi (items:=its.toArray) (it:=s1.heap.objs.size) (l:=l) (I.ok.hd hc) (ak _ rfl) (p.push _) (aj lt) (by simp;omega) λh' tk acc c hk hS hacc=>?_
 have ea:=sx hacc;have hsz:(s1.heap.push {cls:= .type "reversed",data:= .fields #[.ref l,rawInt ((its.toArray.size:Int) - 1)]}).objs.size=s1.heap.objs.size+1:=Heap.size_push ..;have hS':h'.get? (s1.heap.objs.size+1)=some {cls:= .type "list",dict:=none,data:= .seq acc c,slots:= #[]}:=by rw[<-hsz];exact hS
 refine⟨.ref (s1.heap.objs.size+1),_,I1.laid (a:=s1.heap.objs.size+1) (o:= .lst xs.reverse) (t':=tk) (h':=h') (λb o e=>?_) (Nat.le_succ _) ⟨by rw[List.length_reverse];exact hz,its.reverse,c,rv.rev,?_⟩,?_,q _ (I1.hok.fresh (Nat.le_succ _))⟩
 ·exact hk b o (aj (ai e)) (ac _ e)
 ·rw[hS'];congr 3;apply Array.ext';simpa using ea
 ·show Value.ref _=_;rw[<-hsz]
end L2
namespace PySem
open Sem (wp)
open AutoSeq1 (wpAny_loadPart')
namespace F
theorem fV:plainId "dict.update.loop"=true:=by decide+kernel
theorem lF:entryFor table "dict.update.loop"=some Builtin.«dict.update.loop»:=entryFor_of_fast (by kernel_rfl)
theorem ma:typeLookup (.type "list") "keys"=pure none:=by rw[typeLookup_type,builtinLookup_eq_fast];kernel_rfl
end F
section
variable{prog:Program}{w:World}{K:Type}[DecidableEq K]{kn:KeyKind prog w K}{A:Around}{E:Value->Shared->Prop}
noncomputable def qF(kn:KeyKind prog w K)(h:Heap)(items:Array Value)(ps:List (K×Value)):Prop:=
 items.size=ps.length/\∀(j:Nat)(x:K×Value),ps[j]? =some x->∃(t:Addr)(o:Obj)(n:Nat) (u:Value),items[j]? =some (.ref t)/\h.get? t=some o/\o.cls=.type "tuple" /\o.data=.seq #[u,x.2] n/\kn.is x.1 u=true
noncomputable def gq(ps acc:List (K×Value)):List (K×Value):=ps.foldl (λacc x=>stored acc x.1 x.2) acc
theorem mI:∀(ps acc:List (K×Value)),(gq ps acc).length<=acc.length+ps.length
 |[],acc=>by show acc.length<=_;omega
 |x::r,acc=>by
  have h1:=mI r (stored acc x.1 x.2);have h2:(stored acc x.1 x.2).length<=acc.length+1:=by unfold stored;split<;>simp
  show(gq r (stored acc x.1 x.2)).length<=_;rw[List.length_cons];omega
theorem qu{ps acc:List (K×Value)}{x:K×Value}:gq (ps++[x]) acc=stored (gq ps acc) x.1 x.2:=by unfold gq;rw[List.foldl_append];rfl
theorem oO{R:Result->Shared->Prop}(hh:A.handled=none){h0:Heap}{d it l:Addr}(hd0:h0.get? d=none)(hi0:h0.get? it=none)(hdi:d≠it){items:Array Value}{ps:List (K×Value)}(hsz:items.size<=sizeLine)
  (hl:h0.IsList l items)(hp:qF kn h0 items ps):∀(k i:Nat)(s:Shared),items.size - i=k->i<=items.size->s.heap.IsListIter it l i->(∀b o,h0.get? b=some o->s.heap.get? b=some o)->s.heap.DictOf kn d (gq (ps.take i) [])->
  (∀h' tk,h'.DictOf kn d (gq ps [])->(∀b o,h0.get? b=some o->h'.get? b=some o)->R (.ok (.ret .none)) {s with heap:=h',toks:=tk})->
  codeAny (model prog w) A (.builtin "dict.update.loop" ⟨[.ref d,.ref it,rawInt i,.none],[]⟩) R s:=by
 have nd:∀{b:Addr}{o:Obj},h0.get? b=some o->b≠d:=λe z=>by rw[z,hd0] at e;cases e
 have ni:∀{b:Addr}{o:Obj},h0.get? b=some o->b≠it:=λe z=>by rw[z,hi0] at e;cases e
 intro k
 induction k with
 |zero=>
  intro i s hk hi hit kp hd hR;have hin:i=items.size:=by omega
  subst hin;refine codeAny_builtin F.lF ?_;rw[Around.under_plainId F.fV _];show wpAny _ A.in1 (pyNext (.ref it)>>=_) _ _ s;refine aa (wpAny_pyNext_list_end hh hit (hl.at λo e=>kp _ _ e) (by simp) λh' eb=>?_)
  show wpAny _ _ (Builtin.Dict.addKeywords d []>>=_) _ _ _;refine aa (af (af ?_));rw[hp.1,List.take_length] at hd;exact hR h' s.toks (hd.at λo e=>eb d o hdi e) (λb o e=>eb b o (ni e) (kp b o e))
 |succ k ih=>
  intro i s hk hi hit kp hd hR;have hlt:i<items.size:=by omega
  have hlp:i<ps.length:=by rw[<-hp.1];exact hlt
  obtain⟨t,ot,nt,u,e1,e2,e3,e4,e5⟩:=hp.2 i ps[i] (by simp[hlp])
  refine codeAny_builtin F.lF ?_;rw[Around.under_plainId F.fV _];show wpAny _ A.in1 (pyNext (.ref it)>>=_) _ _ s;refine aa (wpAny_pyNext_list_item hit (hl.at λo e=>kp _ _ e) e1 λh1 hit1 hs1=>?_)
  replace hs1:Heap.SameBut it s.heap h1:=hs1
  have kp1:∀b o,h0.get? b=some o->h1.get? b=some o:=λb o e=>hs1.extBut b o (ni e) (kp b o e);have t1:h1.get? t=some ot:=kp1 t ot e2;refine aa (wpAny_holding (aa (wpAny_tryCatch ?_)));unfold Builtin.Dict.pairItems;refine aa (wpAny_typeOf (T:= "tuple") ⟨ot,t1,e3⟩ ?_);rw[if_pos (by decide)]
  refine aa (wpAny_seqItems t1 e4 (af ?_));show wpAny _ _ (holding [u,ps[i].2] (dictSet d u ps[i].2)) _ _ _;have hd1:h1.DictOf kn d (gq (ps.take i) []):=hd.at λo e=>hs1.extBut d o hdi e;have fl:=mI (ps.take i) ([]:List (K×Value))
  have hfl:(gq (ps.take i) []).length<=sizeLine:=by rw[List.length_take] at fl;simp at fl;omega
  refine wpAny_holding (wpAny_dictSet_pairs (s:={s with heap:=h1}) e5 hd1 (λh2 hd2 hs2=>?_) hfl)
  replace hs2:Heap.SameBut d h1 h2:=hs2
  refine af ⟨plainId_quiet F.fV _,?_⟩;have c1:((i+1:Nat):Int)=(i:Int)+1:=by omega
  have ht:ps.take (i+1)=ps.take i++[ps[i]]:=by rw[List.take_succ,bq hlp];rfl
  rw[<-qu,<-ht] at hd2;have:=λtk=>ih (i+1) {s with heap:=h2,toks:=tk} (by omega) (by omega) (hit1.at λo q=>(hs2.2 it (Ne.symm hdi)).trans q) (λb o e=>(hs2.2 b (nd e)).trans (kp1 b o e)) hd2 hR
  rw[c1] at this;exact this _
theorem qh{s:Shared}{a:Addr}{xs:Array Value}{k:Nat}{Q:Option Value->Shared->Prop}(hx:s.heap.get? a=some {cls:= .type "list",data:= .seq xs k})(hA:A.handled=none)
  (h:∀h' tk,(∀b o,s.heap.get? b=some o->h'.get? b=some o)->Q none {s with heap:=h',toks:=tk}):wpAny (model prog w) A (getAttr? (.ref a) "keys") Q E s:=by
 obtain⟨hp,g,d,tk,os⟩:=s;have hT:∀tk',(⟨hp,g,d,tk',os⟩:Shared).TypeIs (.ref a) "list":=λ_=>⟨_,hx,rfl⟩;have f1:=sub_AttributeError;have f3:=F.slot_list_getattribute.lookup;have f4:=F.slot_list_getattribute.bind (.ref a);have f5:=am_list_getattr_none;unfold getAttr? getAttrBy? getAttrBy
 repeat (any_goals (first|assumption|exact hT _|((with_reducible show wpAny _ _ (call (Value.builtin "list.__getattribute__") _ _) _ _ _);refine call_meets F.slot_list_getattribute (hT _) am_entry_list_getattribute (F.args_list_getattribute_2 _ _) (meets_getattribute_miss_list a xs k #[] "keys" _ F.ma (by decide+kernel) (by size_fits)) ⟨hx,hA,λh' tk' e hx'=>?_⟩)|wp_step))
 obtain⟨t',u',he⟩:=hx'.there;show wpAny _ _ (getattributeRaised _ _ _ _ _ _ _) _ _ _;unfold getattributeRaised
 repeat (any_goals (first|assumption|wp_step))
 exact h _ _ hx'.keeps
theorem lJ{s:Shared}{l:Addr}{items:Array Value}{c:Nat}{ps:List (K×Value)}{Q:Value->Shared->Prop}(hh:A.handled=none)(hl:s.heap.get? l=some {cls:= .type "list",data:= .seq items c})(hp:qF kn s.heap items ps)(hsz:items.size<=sizeLine)
  (hQ:∀h' tk,h'.DictOf kn s.heap.objs.size (gq ps [])->(∀b o,s.heap.get? b=some o->h'.get? b=some o)->Q (.ref s.heap.objs.size) {s with heap:=h',toks:=tk}):wpAny (model prog w) A (call (.type "dict") [.ref l]) Q E s:=by
 refine callType_codes (Q₁:=λobj s₁=>obj=.ref s.heap.objs.size/\s₁={s with heap:=s.heap.push {cls:= .type "dict",data:= .dict #[]}}) F.kt_called_dict (F.kt_typeCall_dict_1 _) F.entry_dict_init (kt_code_dict_new _ ⟨rfl,rfl⟩) ?_;rintro obj s₁ ⟨rfl,rfl⟩;have hnew:(s.heap.push {cls:= .type "dict",data:= .dict #[]}).DictOf kn s.heap.objs.size []:=Heap.DictOf.new s.heap;have g0:(s.heap.push {cls:= .type "dict",data:= .dict #[]}).get? s.heap.objs.size=some {cls:= .type "dict",data:= .dict #[]}:=ak _ rfl;refine⟨hnew.typeIs,F.args_dict_init_2 _ _,?_⟩;unfold Builtin.«dict.__init__» Builtin.Dict.selfAndRest;refine aa (aa (wpAny_notOrdered_dict hnew.typeIs ?_));show wpAny _ _ (pure (s.heap.objs.size,[Value.ref l])) _ _ _;refine af ?_;show wpAny _ _ (Builtin.Dict.updateFrom "dict.__init__" s.heap.objs.size (.ref l) [] .none) _ _ _;unfold Builtin.Dict.updateFrom;have hl':=ac {cls:= .type "dict",data:= .dict #[]} hl;refine aa (wpAny_typeOf (T:= "list") ⟨_,hl',rfl⟩ ?_);rw[if_pos (by decide)]
 refine aa (qh hl' hh λh1 tk1 k1=>?_);simp only[Option.isNone_none,if_true];refine aa (wpAny_rule ?_);have hl1:h1.IsList l items:=⟨_,k1 _ _ hl',rfl,_,rfl⟩;refine aa (wpAny_pyIter_list (s:={s with heap:=h1,toks:=tk1}) hl1 ?_);refine af ⟨plainId_quiet F.fV _,?_⟩;have lt1:s.heap.objs.size<h1.objs.size:=ai (k1 _ _ g0);have no:∀{a:Addr},s.heap.objs.size<=a->s.heap.get? a=none:=λh=>Heap.get?_none_of_le h
 refine oO (A:=A.in1) (kn:=kn) (h0:=s.heap) hh (no (ae _)) (no (Nat.le_of_lt lt1)) (aj lt1) hsz ⟨_,hl,rfl,_,rfl⟩ hp items.size 0 _ (by omega) (by omega) ⟨_,ak _ rfl,rfl,rfl⟩
  (λb o e=>ac _ (k1 b o (ac _ e))) (hnew.at λo e=>ac _ (k1 _ o e)) λh' tk a b=>⟨rfl,hQ h' tk a b⟩
end
end PySem
namespace L2
open PySem PySem.Spec PyProof.Rows
noncomputable def Er(K:al)(H:Hp):List (Key×V)->List V->Prop:=Paired λp y=>∃t,y=.ref t/\gx K H t [kV p.1,p.2]
noncomputable def qv(ps:List (Key×V)):List (Key×V):=ps.foldl (λacc p=>putK acc p.1 p.2) []
section
variable{X:Cx}{pins:List (Addr×Obj)}{s:Shared}{σ:St}{H:Hp}
theorem sG(I:Inv X pins σ H s){ps:List (Key×V)}{ys:List V}(r:Er X.K H ps ys):∀{us:List Value},bm ys us->∃trs:List (Key×Value),qF (b0 X.prog X.w) s.heap us.toArray trs/\KV ps trs:=by
 induction r with
 |nil=>intro us q;cases q;exact⟨[],⟨rfl,λj x e=>by simp at e⟩,.nil⟩
 | @cons p y ps ys h1 t ih=>
  intro us q;cases q with
  | @cons _ u _ us' q1 q2=>
   obtain⟨trs,⟨g1,g2⟩,g3⟩:=ih q2;obtain⟨ta,rfl,hq⟩:=h1;obtain rfl:u=Value.ref ta:=q1;obtain⟨its,rv,⟨o,k1,k2,n,k3⟩,_⟩:=I.tuple hq;cases rv with
   | @cons _ u1 _ its r1 rv=>
    cases rv with
    | @cons _ u2 _ its r2 rv=>
     cases rv;refine⟨(p.1,u2)::trs,⟨by simpa using g1,λj x e=>?_⟩,.cons ⟨rfl,r2⟩ g3⟩
     cases j with
     |zero=>
      cases e;exact⟨ta,o,n,u1,by simp,k1,k2,k3,iZ r1⟩
     |succ j=>
      obtain⟨t',o',n',u',m1,m2⟩:=g2 j x (by simpa using e)
      exact⟨t',o',n',u',by simpa using m1,m2⟩
theorem xz{ps:List (Key×V)}{trs:List (Key×Value)}(r:KV ps trs):∀{acc:List (Key×V)}{xs:List (Key×Value)},KV acc xs->KV (ps.foldl (λacc p=>putK acc p.1 p.2) acc) (gq trs xs):=by
 induction r with
 |nil=>intro acc xs q;exact q
 | @cons p q ps qs h t ih=>intro acc xs z;show KV (ps.foldl _ (putK acc p.1 p.2)) (gq qs (stored xs q.1 q.2));have:=z.put p.1 h.2;rw[h.1] at this ⊢;exact ih this
theorem lB:∀(ps acc:List (Key×V)),(ps.foldl (λacc p=>putK acc p.1 p.2) acc).length<=acc.length+ps.length
 |[],acc=>by simp
 |p::r,acc=>by have h1:=lB r (putK acc p.1 p.2);have h2:=fh acc p.1 p.2;rw[List.foldl_cons,List.length_cons];omega
theorem qB(hc:X.calm=true):h_ X (.type "dict") (λxs H Q=>∃l ys ps,xs=[.ref l]/\H l=some (.lst ys)/\Er X.K H ps ys/\∀p,H p=none->Q (.ref p) (bx H p (.dK (qv ps)))):=by
 intro pins s σ H xs us Q I r h;obtain⟨l,ys,ps,rfl,e,hp,q⟩:=h;obtain⟨u,rfl,rx⟩:=vals1 r;cases rx;obtain⟨z,its,m,rr,hlen,el⟩:=I.lstM e;obtain⟨trs,h1,h2⟩:=sG I hp rr;have lp:=Paired.length hp;have lr:=Paired.length rr;refine lJ (I.ok.hd hc) el h1 (by rw[List.size_toArray];omega) λh' tk dr kp=>?_
 have fr:H s.heap.objs.size=none:=I.hok.fresh (ae _);have:=lB ps [];refine⟨.ref s.heap.objs.size,_,I.laid (t':=tk) kp (ae _) (nQ (by simp at this;omega) (beq_eq_false_iff_ne.mpr (bp I.big)) (xz h2 .nil) dr),rfl,q _ fr⟩
end
end L2
namespace PySem
open Sem (wp)
open Builtin
theorem jy:fillsNumberSlot (.type "tuple") "mul"=pure false:=
 fillsNumberSlot_seq (id:= "tuple.__mul__") (r:=some (.builtin "tuple.__rmul__")) F.slot_tuple_mul.lookup (by decide+kernel) F.slot_tuple_rmul.lookup (by decide+kernel)
theorem nq:seqRepeat? (.type "tuple")=pure (some (.builtin "tuple.__mul__")):=by
 unfold seqRepeat?;rw[seqSlot_of (T:= "tuple") (name:= "__mul__") (id:= "tuple.__mul__") F.slot_tuple_mul.lookup (by decide+kernel),seqSlot_of (T:= "tuple") (name:= "__rmul__") (id:= "tuple.__rmul__") F.slot_tuple_rmul.lookup (by decide+kernel)]
 rfl
theorem g6(a:Int)(t:Tok)(l:Addr):
  Meets (Builtin.«int.__rmul__» ⟨[.int a t,.ref l],[]⟩) (λ_ R s=>s.TypeIs (.ref l) "tuple" /\(∃its,PyProof.Rows.IsTup s.heap l its)/\R (.ok (.ret Value.notImplemented)) s):=
 .of_wp λprog w A R s h=>by
  obtain⟨hp,g,d,tk,os⟩:=s;obtain⟨hT,⟨its,⟨c,dd,dt,sl⟩,ho,hc,n,hd⟩,h⟩:=h
  replace hc:c=.type "tuple":=hc
  replace hd:dt=.seq its n:=hd
  subst hc hd;have hl:=ho
  wp_walk
  exact⟨_,rfl,h⟩
theorem lY(t:Addr)(its:Array Value)(u:Tok):
  Meets (Builtin.«tuple.__mul__» ⟨[.ref t,.int 1 u],[]⟩) (λ_ R s=>PyProof.Rows.IsTup s.heap t its/\R (.ok (.ret (.ref t))) s):=
 .of_wp λprog w A R s h=>by
  obtain⟨hp,g,d,tk,os⟩:=s;obtain⟨⟨⟨c,dd,dt,sl⟩,ho,hc,n,hd⟩,h⟩:=h
  replace hc:c=.type "tuple":=hc
  replace hd:dt=.seq its n:=hd
  subst hc hd;have hl:=ho
  wp_walk
  exact⟨_,rfl,h⟩
theorem kE(t:Addr)(its:Array Value)(u:Tok)(h3:its.isEmpty=false):
  Meets (Builtin.«tuple.__mul__» ⟨[.ref t,.int 0 u],[]⟩) (λ_ R s=>PyProof.Rows.IsTup s.heap t its/\R (.ok (.ret (.ref s.heap.objs.size))) {s with heap:=s.heap.push {cls:= .type "tuple",data:= .seq #[]}}):=
 .of_wp λprog w A R s h=>by
  obtain⟨hp,g,d,tk,os⟩:=s;obtain⟨⟨⟨c,dd,dt,sl⟩,ho,hc,n,hd⟩,h⟩:=h
  replace hc:c=.type "tuple":=hc
  replace hd:dt=.seq its n:=hd
  subst hc hd;have hl:=ho;have e2:(its.isEmpty||(0:Int)==1)=false:=by rw[h3];rfl
  show wpAny _ _ (do
   let n <-asIndex (.int 0 u)
   if n< -(2^63)||n≥2^63 then
    rule "tuple.repeat.overflow";raiseError "OverflowError" s!"cannot fit '{← typeNameOf (.int 0 u)}' into an index-sized integer"
   let xs <-Builtin.Tuple.tupleItemsOf (.ref t)
   if xs.isEmpty||n==1 then
    if <-Builtin.Tuple.tupleIsExact (.ref t) then rule "tuple.repeat.same-object";return <-ret (.ref t)
   if n<=0||xs.isEmpty then return <-ret (<-Builtin.Tuple.tupleExact #[])
   if xs.size*n>(2^63 - 1) / 8 then rule "tuple.repeat.no-memory";raiseNew (<-newExc (.type "MemoryError") [])
   if Builtin.Tuple.tupleTooMany (xs.size*n) then unsupported "tuple.__mul__:memory"
   ret (<-Builtin.Tuple.tupleExact ((List.replicate n.toNat xs).foldl (· ++ ·) #[]))) _ _ _
  refine aa (wpAny_of_eq (a:=(0:Int)) rfl ?_);simp only[show(decide ((0:Int)< -(2^63))||decide ((0:Int)≥2^63))=false from rfl,Bool.false_eq_true,if_false];refine aa (PyProof.Rows.tupleItemsOf_ ⟨_,ho,rfl,_,rfl⟩ ?_);simp only[e2,show decide ((0:Int)<=0)=true from rfl,Bool.true_or,if_true,Bool.false_eq_true,if_false];refine aa (wpAny_newObj_type ?_ (by exact Nat.zero_le _))
  exact af ⟨_,rfl,h⟩
end PySem
namespace L2
open PySem PySem.Spec PyProof.Rows
noncomputable def B1(K:al):R2:=λx y H Q=>∃a k xs,x=.ref a/\y=.int k/\gx K H a xs/\xs≠[]/\((k=1/\Q (.ref a) H)∨(k=0/\∀p,H p=none->Q (.ref p) (bx H p (.tup []))))
theorem rJ{X:Cx}:kx X (binaryOp .Mult) (B1 X.K):=by
 intro pins s σ H x y v u Q I rx ry h;obtain⟨a,k,xs,rfl,rfl,ha,hx,q⟩:=h;cases rx;obtain⟨t,rfl⟩:=ry;obtain⟨its,r,p,_⟩:=I.tuple ha;have hl:=r.length
 refine wpAny_binaryOp_repeat_ref (T:= "tuple") (U:= "int") (by decide) p.typeIs (λs'=>typeIs_int s' k t) jy F.fills_int_mul F.slot_int_rmul nq F.slot_int_index.lookup
  (call_meets F.slot_int_rmul (typeIs_int s k t) F.entry_int_rmul (F.args_int_rmul_2 _ _) (g6 k t a) ⟨p.typeIs,⟨_,p⟩,rfl,p.typeIs,?_⟩)
 rcases q with⟨rfl,q⟩|⟨rfl,q⟩
 ·exact call_meets F.slot_tuple_mul p.typeIs F.entry_tuple_mul (F.args_tuple_mul_2 _ _) (lY a its.toArray t) ⟨p,.ref a,H,I,rfl,q⟩
 ·have hne:its.toArray.isEmpty=false:=by
   cases its with
   |nil=>cases xs with
    |nil=>exact absurd rfl hx
    |cons=>simp at hl
   |cons=>rfl
  refine call_meets F.slot_tuple_mul p.typeIs F.entry_tuple_mul (F.args_tuple_mul_2 _ _) (kE a its.toArray t hne) ⟨p,?_⟩;refine⟨.ref s.heap.objs.size,_,I.laid (t':=s.toks) (o:= .tup []) (λb ob q=>ac _ q) (ae _) ?_,rfl,q _ (I.hok.fresh (ae _))⟩;exact⟨Nat.zero_le _,_,.nil,IsTup.new _ _⟩
theorem jA(l b:Addr)(items:Array Value)(n:Nat)(items2:Array Value)(n2:Nat)(hz:items.size+items2.size<=sizeLine):
  Meets (Builtin.«list.extend» {pos:=[.ref l,.ref b]}) λ_ R s=>∃ob,s.heap.get? l=some {cls:= .type "list",data:= .seq items n}/\s.heap.get? b=some ob/\ob.cls=.type "tuple" /\ob.data=.seq items2 n2/\
   R (.ok (.ret .none)) {s with heap:=s.heap.update l (Obj.mapSeq λx=>x++items2)}:=by
 intro prog w A R s ⟨ob,hl,hb,hc,hd,hR⟩;unfold Builtin.«list.extend»;refine aa ?_;refine af (a:=(Value.ref l,Value.ref b)) ?_;show wpAny _ _ (Builtin.List.listExtendWith (.ref l) (.ref b) .none) _ _ _;unfold Builtin.List.listExtendWith;refine aa (wpAny_typeOf_ref hb ?_);rw[hc];rw[if_pos (by simp)]
 refine aa (listItems_at hb hd ?_);refine aa (listItems_at hl rfl ?_);rw[if_neg (by rw[oP hz];simp)]
 refine aa (listUpdate_at hl rfl ?_ (by omega) (by simp;omega))
 exact af hR
section
variable{X:Cx}
noncomputable def uC(K:al):V->List V->Hp->VK->Prop:=λx vs H Q=>∃l b xs zs,x=.ref l/\vs=[.ref b]/\H l=some (.lst xs)/\(H b=some (.lst zs)∨gx K H b zs)/\xs.length+zs.length<=sizeLine/\Q .non (bx H l (.lst (xs++zs)))
theorem qd:Da X "list.extend" (uC X.K):=by
 intro pins s σ H x vs v us Q I rx rv h;obtain⟨l,b,xs,zs,rfl,rfl,hH,hB,hz,q⟩:=h;rcases hB with hB|hB
 ·exact sJ pins s σ H _ _ v us Q I rx rv ⟨l,b,xs,zs,rfl,rfl,hH,hB,hz,q⟩
 ·cases rx;obtain⟨u,rfl,ru⟩:=rv.one;cases ru;obtain⟨z,its,n,r,hl,e⟩:=I.lstM hH;obtain⟨its2,r2,⟨ob,ho,hc,n2,hd⟩,z2⟩:=I.tuple hB;have hl2:=r2.length
  refine call_meets F.slot_list_extend ⟨_,e,rfl⟩ F.entry_list_extend (F.args_list_extend_2 _ _)
   (jA l b its.toArray n its2.toArray n2 (by rw[List.size_toArray,List.size_toArray];omega)) ⟨ob,e,ho,hc,hd,?_⟩
  refine⟨.non,_,I.lset (its':=its++its2) hH e (by simp) (r.append r2) ?_,rfl,q⟩
  rw[aE];omega
end
end L2
namespace PySem
open Sem (wp)
open AutoSeq1 (wpAny_loadPart')
namespace F
end F
section
end
end PySem
namespace L2
open PySem PySem.Spec PyProof.Rows
theorem sC(its:List Value):slicePick its.toArray none none (some (-1))=its.reverse.toArray:=by
 have h1:sliceBounds none none (some (-1)) its.toArray.size=((its.length:Int) - 1, -1, -1):=by simp[sliceBounds]
 have hr:sliceRange ((its.length:Int) - 1) (-1) (-1)=(List.range its.length).map λk=>its.length - 1 - k:=by
  unfold sliceRange;simp only[show ¬((-1:Int)>0) by decide,if_false]
  have hc:(if(its.length:Int) - 1> -1 then((its.length:Int) - 1 - -1 - -1 - 1) / (- -1) else 0).toNat=its.length:=by
   split
   ·rw[show(- -1:Int)=1 from rfl,Int.ediv_one];omega
   ·omega
  rw[hc];refine List.map_congr_left λk hk=>?_;have:=List.mem_range.mp hk;omega
 unfold slicePick;rw[h1,hr,List.filterMap_map];congr 1
 have key:∀(l:List Value)(n:Nat),n<=l.length->(List.range n).filterMap (λk=>l[n - 1 - k]?)=(l.take n).reverse:=by
  intro l n
  induction n with
  |zero=>intro _;rfl
  |succ n ih=>
   intro hn;rw[List.range_succ_eq_map,List.filterMap_cons,List.filterMap_map];have h0:l[n+1 - 1 - 0]? =some l[n]:=by simp
   rw[h0]
   have:(λk=>l[n+1 - 1 - k]?) ∘ Nat.succ=λk=>l[n - 1 - k]?:=by funext k;simp only[Function.comp];congr 1;omega
   rw[this,ih (by omega),List.take_succ_eq_append_getElem (by omega),List.reverse_append]
   rfl
 have:=key its its.length (ae _);rw[List.take_length] at this;rw[<-this];congr 1;funext k;simp
section
variable{X:Cx}{e st:Expr}{te:TE}{pos p2:Pos}
noncomputable def ER(K:al)(te ts:TE):TE:=λσ H Q=>te σ H λx H1=>ts σ H1 λy H2=>y=.int (-1)/\∃a xs,x=.ref a/\ez K H2 a xs/\∀p,H2 p=none->Q (.ref p) (bx H2 p (.lst xs.reverse))
theorem B7{ts:TE}(he:PE X e te)(hs:PE X st ts):PE X (.Subscript e (.Slice none none (some st) p2) pos) (ER X.K te ts):=by
 intro pins s σ H Q I h;refine Subscript_ (bQ (he pins s σ H _ I h) λv s1 ⟨x,H1,I1,r1,q1⟩=>?_);refine wpAny_Slice ?_;rw[evalPart_none];refine af ?_;refine af ?_;rw[evalPart_some];refine bQ (hs pins s1 σ H1 _ I1 q1) λu s3 ⟨y,H3,I3,r3,q3⟩=>?_;obtain⟨rfl,a,xs,rfl,hx,q⟩:=q3;obtain⟨t,rfl⟩:=r3;cases r1;have I4:Inv X pins σ H3 {s3 with heap:=s3.heap.push {cls:= .type "slice",data:= .fields #[.none,.none,.int (-1) t]}}:=I3.kept (t':=s3.toks) λb ob q=>ac _ q;obtain⟨its,r,ht,hz⟩:=I4.list hx;have hlen:=r.length;show wpAny (model X.prog X.w) X.A (subscriptTail e (.Slice none none (some st) p2) (.ref a) (.ref s3.heap.objs.size)) (EP X pins σ Q) X.xe {s3 with heap:=s3.heap.push {cls:= .type "slice",data:= .fields #[.none,.none,.int (-1) t]}};refine tail_any (ops:=[.ref a,.ref s3.heap.objs.size]) ht.isList.typeIs slot_list_getitem.lookup ?_ (by with_unfolding_all rfl)
 refine wpAny_getItem_list_slice ht.isList (Heap.IsSliceOf.new ..) .none .none (.int (-1) t) (by simp) ?_ (by rw[List.size_toArray]<;>omega)
 rw[sC];refine⟨.ref _,_,I4.laid (t':=s3.toks) (o:= .lst xs.reverse) (λb ob q=>ac _ q) (ae _) ?_,rfl,q _ (I4.hok.fresh (ae _))⟩;exact⟨by rw[List.length_reverse];exact hz,_,0,r.rev,ak _ rfl⟩
end
end L2
namespace Ev
open PySem PySem.Spec PyProof.Rows L2
variable{vs xs ys:List V}{H H':Hp}{i j m m' m0 n tk:Nat}{ι ι' ι0 ι1:Nat->Addr}{v vx vy y:V}{f x:Str}{l p:Addr}{X:Cx}{w:World}{P prog:Program}{Q:VK}{E:Value->Shared->Prop}{ap cp p3 p4 pos spos:Pos}{s:Shared}{A:Around}{args es ifs r ts:List Expr}{a b c e elt it iter o:Expr}{u ux uy:Value}{σ:L2.St}{pins:List (Addr×Obj)}{α β:Type}{sc scope:Scope}{z:Expr×Expr}{J:It}{op':CmpOp}{RR:It->Hp->Prop}{N cs:List Str}{is:List Nat}{hi lo:Option Int}
inductive D where
 |non|bl (b:Bool)|int (i:Int)|str (x:Str)|tup (xs:List D)|fl (xs:List D)|ref (n:Nat)
 deriving Inhabited
inductive O where
 |lst (xs:List D)|dct (kvs:List (Key×D))|ins (c:Str)(fs:List (Str×D))
noncomputable abbrev aK:=List O
inductive R(α:Type) where
 |ok (a:α)(st:aK)
 |bad
noncomputable abbrev M(α:Type):=aK->R α
noncomputable def ret{α:Type}(a:α):M α:=λst=>.ok a st
noncomputable def aZ{α β:Type}(m:M α)(f:α->M β):M β:=λst=>match m st with
 | .ok a st'=>f a st'
 | .bad=>.bad
noncomputable def stuck{α:Type}:M α:=λ_=>.bad
noncomputable def dL{α:Type}(o:Option α):M α:=λst=>match o with
 |some a=>.ok a st
 |none=>.bad
noncomputable def items:O->Option (List D)
 | .lst xs=>some xs
 |_=>none
inductive Sh where
 |sc (v:V)|t (xs:List D)|l (xs:List D)|d
noncomputable def shape(st:aK):D->Option Sh
 | .non=>some (.sc .non)
 | .bl b=>some (.sc (.bl b))
 | .int i=>some (.sc (.int i))
 | .str x=>some (.sc (.str x))
 | .tup xs=>some (.t xs)
 | .fl xs=>some (.l xs)
 | .ref n=>match st[n]? with
  |some (.lst xs)=>some (.l xs)
  |some (.dct _)=>some .d
  |_=>none
noncomputable def e_(f:D->D->Option Bool):List D->List D->Option Bool
 |[],[]=>some true
 |[],_::_=>some false
 |_::_,[]=>some false
 |a::as,b::bs=>match f a b,e_ f as bs with
  |some x,some y=>some (x&&y)
  |_,_=>none
noncomputable def pF(f:D->D->Option Bool)(a b:D):Option Bool:=match a,b with
 | .ref i,.ref j=>if i=j then some true else f a b
 |_,_=>f a b
noncomputable def gJ(n:Nat)(st:aK)(a b:D):Option Bool:=match n with
 |0=>none
 |n+1=>match shape st a,shape st b with
  |some (.sc x),some (.sc y)=>some (vQ x y)
  |some (.t xs),some (.t ys)=>e_ (pF (gJ n st)) xs ys
  |some (.l xs),some (.l ys)=>e_ (pF (gJ n st)) xs ys
  |some .d,some (.l _)=>some false
  |some .d,some _=>none
  |some _,some .d=>none
  |some _,some _=>some false
  |_,_=>none
noncomputable def we(K:al)(H:Hp)(a:Addr)(xs:List V):Prop:=
 (∃o,H a=some (.frz o (.lst xs)))∨
  ∃(o:Obj)(its:Array Value)(n:Nat),K.lookup a=some o/\o.cls=.type "list" /\o.dict=none/\o.data=.seq its n/\its.size<=sizeLine/\bm xs its.toList
theorem we.sql{K:al}{a:Addr}(h:we K H a xs):ez K H a xs:=by
 rcases h with h|h
 ·exact .inl (.inr h)
 ·exact .inr h
mutual
inductive VRel(K:al)(H:Hp)(ι:Nat->Addr)(m:Nat):D->V->Prop where
 |non:VRel K H ι m .non .non
 |bl (b:Bool):VRel K H ι m (.bl b) (.bl b)
 |int (i:Int):VRel K H ι m (.int i) (.int i)
 |str (x:Str):VRel K H ι m (.str x) (.str x)
 |tup {a:Addr}{ds:List D}{xs:List V}(h:gx K H a xs)(r:VRels K H ι m ds xs):VRel K H ι m (.tup ds) (.ref a)
 |fl {a:Addr}{ds:List D}{xs:List V}(h:we K H a xs)(r:VRels K H ι m ds xs):VRel K H ι m (.fl ds) (.ref a)
 |ref {n:Nat}(h:n<m):VRel K H ι m (.ref n) (.ref (ι n))
inductive VRels(K:al)(H:Hp)(ι:Nat->Addr)(m:Nat):List D->List V->Prop where
 |nil:VRels K H ι m [] []
 |cons {d:D}{v:V}{ds:List D}{vs:List V}(h:VRel K H ι m d v)(t:VRels K H ι m ds vs):VRels K H ι m (d::ds) (v::vs)
end
structure Ext0(H H':Hp)(ι ι':Nat->Addr)(m m':Nat):Prop where
 le:m<=m'
 ad:∀n,n<m->ι' n=ι n
 tp:∀b xs,H b=some (.tup xs)->H' b=some (.tup xs)
 fz:∀b o u,H b=some (.frz o u)->H' b=some (.frz o u)
structure Ext(H H':Hp)(ι ι':Nat->Addr)(m m':Nat):Prop extends Ext0 H H' ι ι' m m' where
 fr:∀b o,H b=some o->(∀n,n<m->ι n≠b)->H' b=some o/\∀n,n<m'->ι' n≠b
theorem Ext.refl(H:Hp)(ι:Nat->Addr)(m:Nat):Ext H H ι ι m m:=⟨⟨ae _,λ_ _=>rfl,λ_ _ h=>h,λ_ _ _ h=>h⟩,λ_ _ h k=>⟨h,k⟩⟩
theorem Ext.trans{H1 H2:Hp}{ι2:Nat->Addr}{m1 m2:Nat}(a:Ext H H1 ι ι1 m m1)(b:Ext H1 H2 ι1 ι2 m1 m2):Ext H H2 ι ι2 m m2:=
 ⟨⟨aT a.le b.le,λn hn=>(b.ad n (ao hn a.le)).trans (a.ad n hn),λc xs e=>b.tp c xs (a.tp c xs e),λc o u e=>b.fz c o u (a.fz c o u e)⟩,λc o e k=>by obtain⟨e1,k1⟩:=a.fr c o e k;exact b.fr c o e1 k1⟩
theorem gx.ext{K:al}{a:Addr}(e:Ext0 H H' ι ι' m m')(h:gx K H a xs):gx K H' a xs:=by
 rcases h with(h|⟨o,h⟩)|h
 ·exact .inl (.inl (e.tp _ _ h))
 ·exact .inl (.inr ⟨o,e.fz _ _ _ h⟩)
 ·exact .inr h
theorem we.ext{K:al}{a:Addr}(e:Ext0 H H' ι ι' m m')(h:we K H a xs):we K H' a xs:=by
 rcases h with⟨o,h⟩|h
 ·exact .inl ⟨o,e.fz _ _ _ h⟩
 ·exact .inr h
mutual
theorem VRel.ext0{K:al}(e:Ext0 H H' ι ι' m m'):∀{d:D}{v:V},VRel K H ι m d v->VRel K H' ι' m' d v
 |_,_,.non=>.non
 |_,_,.bl b=>.bl b
 |_,_,.int i=>.int i
 |_,_,.str x=>.str x
 |_,_,.tup h r=>.tup (gx.ext e h) (VRels.ext0 e r)
 |_,_,.fl h r=>.fl (we.ext e h) (VRels.ext0 e r)
 |_,_,.ref (n:=n) h=>by rw[<-e.ad n h];exact .ref (ao h e.le)
theorem VRels.ext0{K:al}(e:Ext0 H H' ι ι' m m'):∀{ds:List D}{vs:List V},VRels K H ι m ds vs->VRels K H' ι' m' ds vs
 |_,_,.nil=>.nil
 |_,_,.cons h t=>.cons (VRel.ext0 e h) (VRels.ext0 e t)
end
theorem VRel.ext{K:al}{d:D}(h:VRel K H ι m d v)(e:Ext H H' ι ι' m m'):VRel K H' ι' m' d v:=VRel.ext0 e.toExt0 h
theorem VRels.ext{K:al}{d:List D}{v:List V}(h:VRels K H ι m d v)(e:Ext H H' ι ι' m m'):VRels K H' ι' m' d v:=VRels.ext0 e.toExt0 h
section
variable{K:al}{H:Hp}{ι:Nat->Addr}{m:Nat}
theorem VRels.length:∀{ds:List D}{vs:List V},VRels K H ι m ds vs->ds.length=vs.length
 |_,_,.nil=>rfl
 |_,_,.cons _ t=>by rw[List.length_cons,List.length_cons,t.length]
theorem VRels.get:∀{ds:List D}{vs:List V}{i:Nat}{d:D},VRels K H ι m ds vs->ds[i]? =some d->∃v,vs[i]? =some v/\VRel K H ι m d v
 |_,_,_,_,.nil,e=>by simp at e
 |_,_,0,_,.cons r _,e=>by simp at e;subst e;exact⟨_,rfl,r⟩
 |_,_,i+1,d,.cons _ t,e=>by
  obtain⟨v,h1,h2⟩:=t.get (i:=i) (d:=d) (by simpa using e)
  exact⟨v,by simpa using h1,h2⟩
theorem VRels.append:∀{ds es:List D}{vs ws:List V},VRels K H ι m ds vs->VRels K H ι m es ws->VRels K H ι m (ds++es) (vs++ws)
 |_,_,_,_,.nil,s=>s
 |_,_,_,_,.cons r t,s=>.cons r (t.append s)
theorem VRels.set:∀{ds:List D}{vs:List V}{d:D}{v:V}(i:Nat),VRels K H ι m ds vs->VRel K H ι m d v->VRels K H ι m (ds.set i d) (vs.set i v)
 |_,_,_,_,_,.nil,_=>.nil
 |_,_,_,_,0,.cons _ t,r=>.cons r t
 |_,_,_,_,i+1,.cons q t,r=>.cons q (t.set i r)
theorem VRels.take:∀{ds:List D}{vs:List V}(n:Nat),VRels K H ι m ds vs->VRels K H ι m (ds.take n) (vs.take n)
 |_,_,0,_=>.nil
 |_,_,_+1,.nil=>.nil
 |_,_,n+1,.cons r t=>.cons r (t.take n)
theorem VRels.drop:∀{ds:List D}{vs:List V}(n:Nat),VRels K H ι m ds vs->VRels K H ι m (ds.drop n) (vs.drop n)
 |_,_,0,h=>h
 |_,_,_+1,.nil=>.nil
 |_,_,n+1,.cons _ t=>t.drop n
end
inductive DRels(K:al)(H:Hp)(ι:Nat->Addr)(m:Nat):List (Key×D)->List (Key×V)->Prop where
 |nil:DRels K H ι m [] []
 |cons {k:Key}{d:D}{v:V}{ds:List (Key×D)}{vs:List (Key×V)}(h:VRel K H ι m d v)(t:DRels K H ι m ds vs):DRels K H ι m ((k,d)::ds) ((k,v)::vs)
theorem DRels.ext0{K:al}(e:Ext0 H H' ι ι' m m'){ds:List (Key×D)}{vs:List (Key×V)}(h:DRels K H ι m ds vs):DRels K H' ι' m' ds vs:=by
 induction h with
 |nil=>exact .nil
 |cons h t ih=>exact .cons (VRel.ext0 e h) ih
theorem DRels.ext{K:al}{ds:List (Key×D)}{vs:List (Key×V)}(h:DRels K H ι m ds vs)(e:Ext H H' ι ι' m m'):DRels K H' ι' m' ds vs:=h.ext0 e.toExt0
theorem DRels.length{K:al}{ds:List (Key×D)}{vs:List (Key×V)}(h:DRels K H ι m ds vs):ds.length=vs.length:=by
 induction h with
 |nil=>rfl
 |cons h t ih=>rw[List.length_cons,List.length_cons,ih]
theorem DRels.append{K:al}{ds es:List (Key×D)}{vs ws:List (Key×V)}(h:DRels K H ι m ds vs)(k:DRels K H ι m es ws):DRels K H ι m (ds++es) (vs++ws):=by
 induction h with
 |nil=>exact k
 |cons h t ih=>exact .cons h ih
inductive FRels(K:al)(H:Hp)(ι:Nat->Addr)(m:Nat):List (Str×D)->List (Str×V)->Prop where
 |nil:FRels K H ι m [] []
 |cons {k:Str}{d:D}{v:V}{ds:List (Str×D)}{vs:List (Str×V)}(h:VRel K H ι m d v)(t:FRels K H ι m ds vs):FRels K H ι m ((k,d)::ds) ((k,v)::vs)
theorem FRels.ext0{K:al}(e:Ext0 H H' ι ι' m m'){ds:List (Str×D)}{vs:List (Str×V)}(h:FRels K H ι m ds vs):FRels K H' ι' m' ds vs:=by
 induction h with
 |nil=>exact .nil
 |cons h t ih=>exact .cons (VRel.ext0 e h) ih
theorem FRels.look{K:al}{ds:List (Str×D)}{vs:List (Str×V)}(h:FRels K H ι m ds vs){d:D}(e:ds.lookup f=some d):∃v,vs.lookup f=some v/\VRel K H ι m d v:=by
 induction h with
 |nil=>cases e
 | @cons k d' v ds vs h t ih=>
  rw[List.lookup_cons] at e ⊢;cases q:f==k with
  |true=>rw[q] at e;cases e;exact⟨v,rfl,h⟩
  |false=>rw[q] at e;exact ih e
noncomputable def putD(f:Str)(d:D):List (Str×D)->List (Str×D)
 |[]=>[(f,d)]
 |(g,x)::r=>if g=f then(g,d)::r else(g,x)::putD f d r
theorem FRels.put{K:al}{d:D}(q:VRel K H ι m d v){ds:List (Str×D)}{vs:List (Str×V)}(h:FRels K H ι m ds vs):FRels K H ι m (putD f d ds) (eE f v vs):=by
 induction h with
 |nil=>exact .cons q .nil
 | @cons k d' v' ds vs h t ih=>
  unfold putD eE;by_cases e:k=f
  ·rw[if_pos e,if_pos e];exact .cons q t
  ·rw[if_neg e,if_neg e];exact .cons h ih
theorem FRels.length{K:al}{ds:List (Str×D)}{vs:List (Str×V)}(h:FRels K H ι m ds vs):ds.length=vs.length:=by
 induction h with
 |nil=>rfl
 |cons h t ih=>rw[List.length_cons,List.length_cons,ih]
noncomputable def pE(K:al)(H:Hp)(ι:Nat->Addr)(m:Nat)(a:Addr):O->Prop
 | .lst ds=>∃xs,H a=some (.lst xs)/\VRels K H ι m ds xs
 | .dct kvs=>∃vs,H a=some (.dK vs)/\DRels K H ι m kvs vs
 | .ins x fs=>∃C dx vs,PySem.W.nsIn K mainGlobals x=some (some (.ref C))/\H a=some (.ins C dx vs)/\FRels K H ι m fs vs/\fs.length<=900
theorem pE.move{K:al}{a:Addr}{o:O}(h:pE K H ι m a o)(E:Ext0 H H' ι ι' m m')(ha:H' a=H a):pE K H' ι' m' a o:=by
 cases o with
 |lst ds=>obtain⟨xs,h1,h2⟩:=h;exact⟨xs,ha.trans h1,VRels.ext0 E h2⟩
 |dct ds=>obtain⟨xs,h1,h2⟩:=h;exact⟨xs,ha.trans h1,h2.ext0 E⟩
 |ins x fs=>obtain⟨C,dx,xs,h0,h1,h2,h3⟩:=h;exact⟨C,dx,xs,h0,ha.trans h1,h2.ext0 E,h3⟩
theorem pE.there{K:al}{a:Addr}{o:O}(h:pE K H ι m a o):∃u,H a=some u/\(∀xs,u≠ .tup xs)/\∀ob w,u≠ .frz ob w:=by
 cases o with
 |lst ds=>obtain⟨xs,h1,h2⟩:=h;exact⟨_,h1,(λ_ z=>by cases z),(λ_ _ z=>by cases z)⟩
 |dct ds=>obtain⟨xs,h1,h2⟩:=h;exact⟨_,h1,(λ_ z=>by cases z),(λ_ _ z=>by cases z)⟩
 |ins x fs=>obtain⟨C,dx,xs,h0,h1,h2⟩:=h;exact⟨_,h1,(λ_ z=>by cases z),(λ_ _ z=>by cases z)⟩
structure Sim(K:al)(H:Hp)(ι:Nat->Addr)(st:aK):Prop where
 inj:∀i j,i<st.length->j<st.length->ι i=ι j->i=j
 ob:∀n o,st[n]? =some o->pE K H ι st.length (ι n) o
theorem Sim.laid{K:al}{st:aK}(S:Sim K H ι st)(hp:H p=none){ho:HO}{o:O}
  (hr:∀ι',(∀n,n<st.length->ι' n=ι n)->ι' st.length=p->pE K (bx H p ho) ι' (st.length+1) p o):
  ∃ι',Ext H (bx H p ho) ι ι' st.length (st.length+1)/\ι' st.length=p/\Sim K (bx H p ho) ι' (st++[o]):=by
 have hK:∀n o,st[n]? =some o->ι n≠p:=λn o e=>by have q:=S.ob n o e;obtain⟨u,h1,_⟩:=q.there;exact aw h1 hp
 have E:Ext H (bx H p ho) ι (λn=>if n=st.length then p else ι n) st.length (st.length+1):=⟨⟨Nat.le_succ _,λn hn=>by simp[Nat.ne_of_lt hn],λb xs e=>by rw[aD (aw e hp)];exact e,λb ob u e=>by rw[aD (aw e hp)];exact e⟩,λb ob e k=>by
  refine⟨by rw[aD (aw e hp)];exact e,λn hn=>?_⟩
  by_cases hn':n=st.length
  ·rw[if_pos hn'];exact(aw e hp).symm
  ·rw[if_neg hn'];exact k n (by omega)⟩
 refine⟨λn=>if n=st.length then p else ι n,E,by simp,?_⟩
 have lt:∀{n},n<st.length->∃o,st[n]? =some o:=λ{n} hn=>⟨st[n],by simp[hn]⟩
 refine⟨λi j hi hj e=>?_,λn ob e=>?_⟩
 ·rw[aE,List.length_singleton] at hi hj;by_cases hi':i=st.length
  ·by_cases hj':j=st.length
   ·omega
   ·have q:p=ι j:=by simpa[hi',hj'] using e
    obtain⟨ob,eo⟩:=lt (show j<st.length by omega)
    exact absurd q.symm (hK j ob eo)
  ·by_cases hj':j=st.length
   ·have q:ι i=p:=by simpa[hi',hj'] using e
    obtain⟨ob,eo⟩:=lt (show i<st.length by omega)
    exact absurd q (hK i ob eo)
   ·exact S.inj i j (by omega) (by omega) (by simpa[hi',hj'] using e)
 ·rw[aE,List.length_singleton];by_cases hn:n=st.length
  ·subst hn;rw[aQ (ae _),Nat.sub_self] at e;have e':o=ob:=by simpa using e
   subst e';have:=hr (λn=>if n=st.length then p else ι n) (λn hn=>by simp[Nat.ne_of_lt hn]) (by simp)
   simpa using this
  ·have hlt:n<st.length:=by have:=(aL e).1;rw[aE,List.length_singleton] at this;omega
   rw[aR hlt] at e;have old:=S.ob n ob e;have hne:ι n≠p:=hK n ob e;have hι:(if n=st.length then p else ι n)=ι n:=by rw[if_neg hn]
   rw[hι];exact old.move E.toExt0 (aD hne)
theorem Sim.write{K:al}{st:aK}(S:Sim K H ι st){ds es:List D}(e:st[n]? =some (.lst ds))(r:VRels K H ι st.length es ys):
  Ext H (bx H (ι n) (.lst ys)) ι ι st.length st.length/\Sim K (bx H (ι n) (.lst ys)) ι (st.set n (.lst es)):=by
 obtain⟨xs,h1,h2⟩:=S.ob n _ e;have hn:n<st.length:=(aL e).1
 have E:Ext H (bx H (ι n) (.lst ys)) ι ι st.length st.length:=by
  refine⟨⟨ae _,λ_ _=>rfl,λb zs q=>?_,λb o u q=>?_⟩,λb o q k=>⟨by rw[aD (k n hn).symm];exact q,k⟩⟩
  ·rw[aD (fN q h1 (by intro z;cases z))];exact q
  ·rw[aD (fN q h1 (by intro z;cases z))];exact q
 refine⟨E,λi j hi hj=>S.inj i j (by simpa using hi) (by simpa using hj),λk o q=>?_⟩
 rw[aA];by_cases hk:k=n
 ·subst hk;rw[aV hn] at q;cases q;exact⟨ys,bw,r.ext E⟩
 ·rw[bd (Ne.symm hk)] at q;have hk':k<st.length:=(aL q).1;have hne:ι k≠ι n:=λz=>hk (S.inj k n hk' hn z);have old:=S.ob k o q;exact old.move E.toExt0 (aD hne)
theorem Sim.add{K:al}{st:aK}(S:Sim K H ι st){ds:List D}(hp:H p=some (.lst ys))(ap:∀n,n<st.length->ι n≠p)(r:VRels K H ι st.length ds ys):
  ∃ι',(∀n,n<st.length->ι' n=ι n)/\ι' st.length=p/\Sim K H ι' (st++[.lst ds]):=by
 have up:Ext0 H H ι (λn=>if n=st.length then p else ι n) st.length (st.length+1):=⟨Nat.le_succ _,λn hn=>by simp[Nat.ne_of_lt hn],λ_ _ e=>e,λ_ _ _ e=>e⟩
 refine⟨λn=>if n=st.length then p else ι n,λn hn=>by simp[Nat.ne_of_lt hn],by simp,⟨λi j hi hj e=>?_,λn ob e=>?_⟩⟩
 ·rw[aE,List.length_singleton] at hi hj;by_cases hi':i=st.length
  ·by_cases hj':j=st.length
   ·omega
   ·exact absurd (show ι j=p by simpa[hi',hj'] using e.symm) (ap j (by omega))
  ·by_cases hj':j=st.length
   ·exact absurd (show ι i=p by simpa[hi',hj'] using e) (ap i (by omega))
   ·exact S.inj i j (by omega) (by omega) (by simpa[hi',hj'] using e)
 ·rw[aE,List.length_singleton];by_cases hn:n=st.length
  ·subst hn;rw[aQ (ae _),Nat.sub_self] at e;have e':O.lst ds=ob:=by simpa using e
   subst e';refine⟨ys,?_,VRels.ext0 up r⟩;simpa using hp
  ·have hlt:n<st.length:=by have:=(aL e).1;rw[aE,List.length_singleton] at this;omega
   rw[aR hlt] at e;have old:=S.ob n ob e;have hι:(if n=st.length then p else ι n)=ι n:=by rw[if_neg hn]
   rw[hι];exact old.move up rfl
theorem Sim.writeD{K:al}{st:aK}(S:Sim K H ι st){kvs kvs':List (Key×D)}{ys:List (Key×V)}(e:st[n]? =some (.dct kvs))(r:DRels K H ι st.length kvs' ys):
  Ext H (bx H (ι n) (.dK ys)) ι ι st.length st.length/\Sim K (bx H (ι n) (.dK ys)) ι (st.set n (.dct kvs')):=by
 obtain⟨xs,h1,h2⟩:=S.ob n _ e;have hn:n<st.length:=(aL e).1
 have E:Ext H (bx H (ι n) (.dK ys)) ι ι st.length st.length:=by
  refine⟨⟨ae _,λ_ _=>rfl,λb zs q=>?_,λb o u q=>?_⟩,λb o q k=>⟨by rw[aD (k n hn).symm];exact q,k⟩⟩
  ·rw[aD (fN q h1 (by intro z;cases z))];exact q
  ·rw[aD (fN q h1 (by intro z;cases z))];exact q
 refine⟨E,λi j hi hj=>S.inj i j (by simpa using hi) (by simpa using hj),λk o q=>?_⟩
 rw[aA];by_cases hk:k=n
 ·subst hk;rw[aV hn] at q;cases q;exact⟨ys,bw,r.ext E⟩
 ·rw[bd (Ne.symm hk)] at q;have hk':k<st.length:=(aL q).1;have hne:ι k≠ι n:=λz=>hk (S.inj k n hk' hn z);have old:=S.ob k o q;exact old.move E.toExt0 (aD hne)
theorem Sim.addD{K:al}{st:aK}(S:Sim K H ι st){ys:List (Key×V)}{ds:List (Key×D)}(hp:H p=some (.dK ys))(ap:∀n,n<st.length->ι n≠p)(r:DRels K H ι st.length ds ys):
  ∃ι',(∀n,n<st.length->ι' n=ι n)/\ι' st.length=p/\Sim K H ι' (st++[.dct ds]):=by
 have up:Ext0 H H ι (λn=>if n=st.length then p else ι n) st.length (st.length+1):=⟨Nat.le_succ _,λn hn=>by simp[Nat.ne_of_lt hn],λ_ _ e=>e,λ_ _ _ e=>e⟩
 refine⟨λn=>if n=st.length then p else ι n,λn hn=>by simp[Nat.ne_of_lt hn],by simp,⟨λi j hi hj e=>?_,λn ob e=>?_⟩⟩
 ·rw[aE,List.length_singleton] at hi hj;by_cases hi':i=st.length
  ·by_cases hj':j=st.length
   ·omega
   ·exact absurd (show ι j=p by simpa[hi',hj'] using e.symm) (ap j (by omega))
  ·by_cases hj':j=st.length
   ·exact absurd (show ι i=p by simpa[hi',hj'] using e) (ap i (by omega))
   ·exact S.inj i j (by omega) (by omega) (by simpa[hi',hj'] using e)
 ·rw[aE,List.length_singleton];by_cases hn:n=st.length
  ·subst hn;rw[aQ (ae _),Nat.sub_self] at e;have e':O.dct ds=ob:=by simpa using e
   subst e';refine⟨ys,?_,r.ext0 up⟩;simpa using hp
  ·have hlt:n<st.length:=by have:=(aL e).1;rw[aE,List.length_singleton] at this;omega
   rw[aR hlt] at e;have old:=S.ob n ob e;have hι:(if n=st.length then p else ι n)=ι n:=by rw[if_neg hn]
   rw[hι];exact old.move up rfl
set_option genInjectivity false
noncomputable def nY(P:Program)(w:World):v_:=λ_ _ _ _ _ _=>False
theorem yw:lT (nY P w) X E0:=λ_ _ _ _ _ _ _ z=>z.elim
noncomputable abbrev C9:Addr->L2.St->Hp->Prop:=λ_ _ _=>False
section
variable{X:Cx}{pins:List (Addr×Obj)}{σ:L2.St}{H:Hp}{s:Shared}
theorem np{k:Nat}{f:Addr}{fd:FuncData}{ps:List Str}{sp:Sp}{us:List Value}(F:FnOk X.prog X.w X.K X.mg X.base (nY X.prog X.w) k f fd ps sp)(hr:Room k X.A)(hb:Binds X.K fd ps [])
  (I:Inv X pins σ H s)(r:bm vs us)(h:sp vs H Q E0):wpAny (model X.prog X.w) X.A (call (.ref f) us) (EP X pins σ Q) X.xe s:=by
 have hl:(us++[]).length=ps.length:=by rw[List.append_nil,<-r.length];exact F.len _ _ _ _ h
 refine wpAny_call (codeAny_mono (F.run X.A X.stack s H ⟨us,[]⟩ us vs Q _ hr I.env0 (by have:=hb s us I.kIn hl;rwa [List.append_nil] at this) r h) λr s' hq=>?_)
 cases r with
 |error e=>exact hq.elim
 |ok fl=>
  cases fl with
  |ret u=>exact I.after hq
  |next=>exact False.elim hq
  |brk=>exact False.elim hq
  |cont=>exact False.elim hq
noncomputable abbrev ph(X:Cx)(pins:List (Addr×Obj))(E:Value->Shared->Prop):Cx:={X with pn:=X.pn++pins,xe:=E}
theorem xE(I:Inv X pins σ H s):Inv (ph X pins E) [] σ H s:=
 ⟨⟨I.ok.mod,I.ok.kind,I.ok.glob,I.ok.blt,I.ok.above,I.ok.inj,I.ok.has,I.ok.cab,I.ok.hd,I.ok.frames,I.ok.stk,I.ok.exf,I.ok.bs,I.ok.bsz,I.ok.noex,I.ok.exfs,I.ok.funs,I.ok.frf⟩,I.os,I.bare,I.base,I.loc,I.cell,I.free,I.freeC,(λp hp=>I.pin p (by simpa using hp)),I.hok,I.len⟩
theorem mH{pins':List (Addr×Obj)}(I:Inv (ph X pins E) pins' σ H s):Inv X pins σ H s:=
 ⟨⟨I.ok.mod,I.ok.kind,I.ok.glob,I.ok.blt,I.ok.above,I.ok.inj,I.ok.has,I.ok.cab,I.ok.hd,I.ok.frames,I.ok.stk,I.ok.exf,I.ok.bs,I.ok.bsz,I.ok.noex,I.ok.exfs,I.ok.funs,I.ok.frf⟩,I.os,I.bare,I.base,I.loc,I.cell,I.free,I.freeC,(λp hp=>I.pin p (List.mem_append_left _ hp)),I.hok,I.len⟩
theorem xg{body els:List Stmt}{h0:ExceptHandler}{hs:List ExceptHandler}{tb te:TS}
  (hb:∀pins E,PassesOwn (model X.prog X.w) X.A X.env E->PSs (ph X pins E) body tb)(he:PSs X els te):
  PS X (.Try body (h0::hs) els [] pos) (λDn σ H=>tb {nx:=λσ1 H1=>te Dn σ1 H1,rt:=Dn.rt} σ H):=by
 intro pins s σ H Dn I h;refine wpAny_Try_except ?_;refine aP (hb pins _ PassesOwn.looking [] s σ H _ (xE I) h) (λf s1 q=>?_) (λ_ _ z=>z);cases f with
 |next=>obtain⟨σ1,H1,I1,q⟩:=q;exact he pins s1 σ1 H1 Dn (mH I1) q
 |brk=>obtain⟨_,_,_,q⟩:=q;exact q.elim
 |cont=>obtain⟨_,_,_,q⟩:=q;exact q.elim
 |ret u=>obtain⟨v,σ1,H1,I1,r,q⟩:=q;exact⟨v,σ1,H1,mH I1,r,q⟩
end
theorem k0{name:Str}{apos:Pos}{env:Env}{Q:Value->Shared->Prop}
  (hbase:attributeBase o name env (eval o env)=eval o env)
  (hfew:methodCallForm (args.length+([]:List Keyword).length) (backTo pos (starEach args env)) (backToKw pos (keywordEach [] env))=true)
  (hline:(apos.endLine==pos.line)=true)
  (h:wpAny (model prog w) A (eval o env) (λov s₁=>∀pl,wpAny (model prog w) A (getMethod ov name pl) (λfx s₂=>wpAny (model prog w) A (callWith pos fx.1 fx.2 (backTo pos (starEach args env)) (backToKw pos (keywordEach [] env))) Q E s₂) E s₁) E s):
  wpAny (model prog w) A (eval (.Call (.Attribute o name apos) args [] pos) env) Q E s:=by
 rw[arm_eval_Call,hbase];refine aa (aP h (λov s₁ h₁=>?_) λ_ _ e=>e);refine aa (wpAny_standAt ?_);have hpos:methodCallPos true o env apos pos=pure pos:=by unfold methodCallPos;simp[hline]
 unfold methodCall;rw[hfew];refine aa (wpAny_holding (aP (h₁ _) (λfx s2 h2=>?_) λ_ _ e=>e));exact aa (wpAny_of_eq hpos h2)
noncomputable def tV(X:Cx)(m:Str)(ta:TE)(t:TA):TE:=λσ H Q=>ta σ H λx H1=>∃a C dx fs f k fd ps sp,x=.ref a/\H1 a=some (.ins C dx fs)/\fs.lookup m=none/\Cls X.K C/\Meth X.K C m f/\
 FnOk X.prog X.w X.K X.mg X.base (nY X.prog X.w) k f fd ps sp/\Room k X.A/\Binds X.K fd ps []/\t σ H1 λvs H2=>∀E:XK,sp (.ref a::vs) H2 Q E
section
variable{X:Cx}{m:Str}{o e:Expr}{es:List Expr}{ta:TE}{t:TA}{apos pos:Pos}
theorem uS(he:PE X o ta)(hbase:attributeBase o m X.env (eval o X.env)=eval o X.env)(hline:(apos.endLine==pos.line)=true)
  (hfew:methodCallForm ((e::es).length+([]:List Keyword).length) (backTo pos (starEach (e::es) X.env)) (backToKw pos (keywordEach [] X.env))=true)(ha:PA X (e::es) t)
  (hst:starEach (e::es) X.env=(false,eval e X.env)::starEach es X.env)(hpl:(backTo pos (starEach es X.env)).any (·.1)=false):PE X (.Call (.Attribute o m apos) (e::es) [] pos) (tV X m ta t):=by
 intro pins s σ H Q I h;refine k0 hbase hfew hline (bQ (he pins s σ H _ I h) λu s1 hp pl=>?_);obtain⟨x,H1,I1,rx,a,C,dx,fs,f,k,fd,ps,sp,ex,ea,l,c,hm,F,hr,hb,q⟩:=hp;subst ex;obtain rfl:u=Value.ref a:=rx;refine lq I1 ea c hm l ?_;refine PySem.W.callWith_K (first:=[.ref a]) (h₀:=X.base) I.ok.mod.kin hm.kp (bQ (ha pos pins s1 σ H1 _ I1 q) λus s2 ⟨vs,H2,I2,r,q2⟩=>⟨I2.kIn,?_⟩) hst hpl
 exact np (us:= .ref a::us) (vs:= .ref a::vs) F hr hb I2 (.cons rfl r) (q2 _)
theorem sF(he:PE X o ta)(hbase:attributeBase o m X.env (eval o X.env)=eval o X.env)(hline:(apos.endLine==pos.line)=true):PE X (.Call (.Attribute o m apos) [] [] pos) (tV X m ta tU):=by
 intro pins s σ H Q I h;refine k0 hbase rfl hline (bQ (he pins s σ H _ I h) λu s1 hp pl=>?_);obtain⟨x,H1,I1,rx,a,C,dx,fs,f,k,fd,ps,sp,ex,ea,l,c,hm,F,hr,hb,q⟩:=hp;subst ex;obtain rfl:u=Value.ref a:=rx;refine lq I1 ea c hm l ?_;exact PySem.W.callWith_K0 (first:=[.ref a]) I1.kIn hm.kp (np (us:=[.ref a]) (vs:=[.ref a]) F hr hb I1 (.cons rfl .nil) (q _))
structure UMeth(K:al)(C:Addr)(m:Str)(f:Addr):Prop where
 ga:PySem.W.specialIn K (.ref C) "__getattribute__"=some (some (.builtin "type.__getattribute__"))
 rd:PySem.W.readsIn K C (.type "type")=true
 at_:PySem.W.findCls K (.ref C) (.type "type") m=some (.val (.ref f))
 hd:PySem.W.handedIn (.ref f)=true
 kp:PySem.W.keepIn K (.ref f)=true
theorem B6{C f:Addr}{k:Nat}{fd:FuncData}{ps:List Str}{sp:Sp}{px:Pos}(hg:Gl X x)(hm:X.mg x=some (.ref C))(hdb:(x==("__debug__":Str))=false)(u:UMeth X.K C m f)(F:FnOk X.prog X.w X.K X.mg X.base (nY X.prog X.w) k f fd ps sp)(hr:Room k X.A)(hb:Binds X.K fd ps [])
  (hline:(apos.endLine==pos.line)=true)(hfew:methodCallForm ((e::es).length+([]:List Keyword).length) (backTo pos (starEach (e::es) X.env)) (backToKw pos (keywordEach [] X.env))=true)(ha:PA X (e::es) t)
  (hst:starEach (e::es) X.env=(false,eval e X.env)::starEach es X.env)(hpl:(backTo pos (starEach es X.env)).any (·.1)=false):PE X (.Call (.Attribute (.Name x px) m apos) (e::es) [] pos) (λσ H Q=>t σ H λvs H1=>∀E:XK,sp vs H1 Q E):=by
 intro pins s σ H Q I h;refine k0 rfl hfew hline (ko I hg hm (λpl=>?_) hdb);refine PySem.W.method_cls I.kIn u.ga (PySem.W.cls_value I.kIn u.rd u.at_ u.hd ?_);have I1:Inv X pins σ H {s with toks:=s.toks+1}:=I.tok _;refine PySem.W.callWith_K (first:=[]) (h₀:=X.base) I.ok.mod.kin u.kp (bQ (ha pos pins _ σ H _ I1 h) λus s2 ⟨vs,H2,I2,r,q2⟩=>⟨I2.kIn,?_⟩) hst hpl
 exact np (us:=us) (vs:=vs) F hr hb I2 r (q2 _)
end
theorem _root_.L2.PS.or{X:Cx}{e:Stmt}{t u:TS}(h1:PS X e t)(h2:PS X e u):PS X e (λD σ H=>t D σ H∨u D σ H):=λpins s σ H D I h=>h.elim (h1 pins s σ H D I) (h2 pins s σ H D I)
open PySem.SeqAt
theorem AT{x:V}{v:Value}(ry:RelV y u)(rx:RelV x v)(fy:dh y=true)(fx:dh x=true):RcAt A s u v (vQ y x):=by
 cases y with
 |non=>
  cases ry;cases x with
  |non=>cases rx;exact RcAt.none_none
  |bl b=>cases rx;exact RcAt.none_bool b
  |int b=>obtain⟨tb,rfl⟩:=rx;exact RcAt.none_int b tb
  |str b=>obtain⟨tb,rfl⟩:=rx;exact RcAt.none_str b tb
  |_=>exact lC fx
 |bl a=>
  cases ry;cases x with
  |non=>cases rx;exact RcAt.bool_none a
  |bl b=>cases rx;exact RcAt.bool_bool a b
  |int b=>obtain⟨tb,rfl⟩:=rx;exact RcAt.bool_int a b tb
  |str b=>obtain⟨tb,rfl⟩:=rx;exact RcAt.bool_str a b tb
  |_=>exact lC fx
 |int a=>
  obtain⟨ta,rfl⟩:=ry;cases x with
  |non=>cases rx;exact RcAt.int_none a ta
  |bl b=>cases rx;exact RcAt.int_bool a ta b
  |int b=>obtain⟨tb,rfl⟩:=rx;exact RcAt.int_int a ta b tb
  |str b=>obtain⟨tb,rfl⟩:=rx;exact RcAt.int_str a ta b tb
  |_=>exact lC fx
 |str a=>
  obtain⟨ta,rfl⟩:=ry;cases x with
  |non=>cases rx;exact RcAt.str_none a ta
  |bl b=>cases rx;exact RcAt.str_bool a ta b
  |int b=>obtain⟨tb,rfl⟩:=rx;exact RcAt.str_int a ta b tb
  |str b=>obtain⟨tb,rfl⟩:=rx;exact RcAt.str_str a ta b tb
  |_=>exact lC fx
 |_=>exact lC fy
theorem v5{x:V}{v:Value}(ry:RelV y u)(rx:RelV x v)(fy:dh y=true)(fx:dh x=true):RcNeAt A s u v (!vQ y x):=by
 cases y with
 |non=>
  cases ry;cases x with
  |non=>cases rx;exact RcNeAt.none_none
  |bl b=>cases rx;exact RcNeAt.none_bool b
  |int b=>obtain⟨tb,rfl⟩:=rx;exact RcNeAt.none_int b tb
  |str b=>obtain⟨tb,rfl⟩:=rx;exact RcNeAt.none_str b tb
  |_=>exact lC fx
 |bl a=>
  cases ry;cases x with
  |non=>cases rx;exact RcNeAt.bool_none a
  |bl b=>cases rx;exact RcNeAt.bool_bool a b
  |int b=>obtain⟨tb,rfl⟩:=rx;exact RcNeAt.bool_int a b tb
  |str b=>obtain⟨tb,rfl⟩:=rx;exact RcNeAt.bool_str a b tb
  |_=>exact lC fx
 |int a=>
  obtain⟨ta,rfl⟩:=ry;cases x with
  |non=>cases rx;exact RcNeAt.int_none a ta
  |bl b=>cases rx;exact RcNeAt.int_bool a ta b
  |int b=>obtain⟨tb,rfl⟩:=rx;exact RcNeAt.int_int a ta b tb
  |str b=>obtain⟨tb,rfl⟩:=rx;exact RcNeAt.int_str a ta b tb
  |_=>exact lC fx
 |str a=>
  obtain⟨ta,rfl⟩:=ry;cases x with
  |non=>cases rx;exact RcNeAt.str_none a ta
  |bl b=>cases rx;exact RcNeAt.str_bool a ta b
  |int b=>obtain⟨tb,rfl⟩:=rx;exact RcNeAt.str_int a ta b tb
  |str b=>obtain⟨tb,rfl⟩:=rx;exact RcNeAt.str_str a ta b tb
  |_=>exact lC fx
 |_=>exact lC fy
theorem lR{items:Array Value}(hl:s.heap.IsList l items)(hu:A.units<cLine){x:V}{v:Value}(rx:RelV x v)(fx:dh x=true):RcAt A s (.ref l) v false:=by
 cases x with
 |non=>cases rx;exact RcAt.list_none hl hu
 |bl b=>cases rx;exact RcAt.list_bool b hl hu
 |int b=>obtain⟨tb,rfl⟩:=rx;exact RcAt.list_int b tb hl hu
 |str b=>obtain⟨tb,rfl⟩:=rx;exact RcAt.list_str b tb hl hu
 |_=>exact lC fx
theorem lS{items:Array Value}(hl:s.heap.IsList l items)(hu:A.units<cLine){x:V}{v:Value}(rx:RelV x v)(fx:dh x=true):RcAt A s v (.ref l) false:=by
 cases x with
 |non=>cases rx;exact RcAt.none_list hl hu
 |bl b=>cases rx;exact RcAt.bool_list b hl hu
 |int b=>obtain⟨tb,rfl⟩:=rx;exact RcAt.int_list b tb hl hu
 |str b=>obtain⟨tb,rfl⟩:=rx;exact RcAt.str_list b tb hl hu
 |_=>exact lC fx
theorem nV{items:Array Value}(hl:s.heap.IsList l items)(hu:A.units<cLine){x:V}{v:Value}(rx:RelV x v)(fx:dh x=true):RcNeAt A s (.ref l) v true:=by
 cases x with
 |non=>cases rx;exact RcNeAt.list_none hl hu
 |bl b=>cases rx;exact RcNeAt.list_bool b hl hu
 |int b=>obtain⟨tb,rfl⟩:=rx;exact RcNeAt.list_int b tb hl hu
 |str b=>obtain⟨tb,rfl⟩:=rx;exact RcNeAt.list_str b tb hl hu
 |_=>exact lC fx
theorem nW{items:Array Value}(hl:s.heap.IsList l items)(hu:A.units<cLine){x:V}{v:Value}(rx:RelV x v)(fx:dh x=true):RcNeAt A s v (.ref l) true:=by
 cases x with
 |non=>cases rx;exact RcNeAt.none_list hl hu
 |bl b=>cases rx;exact RcNeAt.bool_list b hl hu
 |int b=>obtain⟨tb,rfl⟩:=rx;exact RcNeAt.int_list b tb hl hu
 |str b=>obtain⟨tb,rfl⟩:=rx;exact RcNeAt.str_list b tb hl hu
 |_=>exact lC fx
theorem jX{items:Array Value}(hl:s.heap.IsTuple l items)(hu:A.units<cLine){x:V}{v:Value}(rx:RelV x v)(fx:dh x=true):RcAt A s (.ref l) v false:=by
 cases x with
 |non=>cases rx;exact RcAt.tuple_none hl hu
 |bl b=>cases rx;exact RcAt.tuple_bool b hl hu
 |int b=>obtain⟨tb,rfl⟩:=rx;exact RcAt.tuple_int b tb hl hu
 |str b=>obtain⟨tb,rfl⟩:=rx;exact RcAt.tuple_str b tb hl hu
 |_=>exact lC fx
theorem jY{items:Array Value}(hl:s.heap.IsTuple l items)(hu:A.units<cLine){x:V}{v:Value}(rx:RelV x v)(fx:dh x=true):RcAt A s v (.ref l) false:=by
 cases x with
 |non=>cases rx;exact RcAt.none_tuple hl hu
 |bl b=>cases rx;exact RcAt.bool_tuple b hl hu
 |int b=>obtain⟨tb,rfl⟩:=rx;exact RcAt.int_tuple b tb hl hu
 |str b=>obtain⟨tb,rfl⟩:=rx;exact RcAt.str_tuple b tb hl hu
 |_=>exact lC fx
theorem mj{items:Array Value}(hl:s.heap.IsTuple l items)(hu:A.units<cLine){x:V}{v:Value}(rx:RelV x v)(fx:dh x=true):RcNeAt A s (.ref l) v true:=by
 cases x with
 |non=>cases rx;exact RcNeAt.tuple_none hl hu
 |bl b=>cases rx;exact RcNeAt.tuple_bool b hl hu
 |int b=>obtain⟨tb,rfl⟩:=rx;exact RcNeAt.tuple_int b tb hl hu
 |str b=>obtain⟨tb,rfl⟩:=rx;exact RcNeAt.tuple_str b tb hl hu
 |_=>exact lC fx
theorem ml{items:Array Value}(hl:s.heap.IsTuple l items)(hu:A.units<cLine){x:V}{v:Value}(rx:RelV x v)(fx:dh x=true):RcNeAt A s v (.ref l) true:=by
 cases x with
 |non=>cases rx;exact RcNeAt.none_tuple hl hu
 |bl b=>cases rx;exact RcNeAt.bool_tuple b hl hu
 |int b=>obtain⟨tb,rfl⟩:=rx;exact RcNeAt.int_tuple b tb hl hu
 |str b=>obtain⟨tb,rfl⟩:=rx;exact RcNeAt.str_tuple b tb hl hu
 |_=>exact lC fx
theorem m3{b:Value}{k:Bool}(hne:(Value.ref l==b)=false)(h:RcAt A s (.ref l) b k):EqAt A s (.ref l) b k:=λprog w E Q hq=>by
 unfold eqBool;refine wpAny_holding ?_;refine wpAny_ite_split (λhab=>absurd hab (by rw[hne];exact au)) (λ_=>?_)
 exact aa (h prog w E _ (wpAny_truthy_bool hq))
theorem mZ{a:Value}{k:Bool}(hne:(a==Value.ref l)=false)(h:RcAt A s a (.ref l) k):EqAt A s a (.ref l) k:=λprog w E Q hq=>by
 unfold eqBool;refine wpAny_holding ?_;refine wpAny_ite_split (λhab=>absurd hab (by rw[hne];exact au)) (λ_=>?_)
 cases a<;>exact aa (h prog w E _ (wpAny_truthy_bool hq))
noncomputable def At(K:al)(H:Hp)(ι:Nat->Addr)(m:Nat)(d:D)(u:Value):Prop:=∃v,VRel K H ι m d v/\RelV v u
noncomputable def yb(K:al)(H:Hp)(ι:Nat->Addr)(m:Nat)(ds:List D)(us:List Value):Prop:=∃vs,VRels K H ι m ds vs/\bm vs us
theorem yb.length{K:al}{ds:List D}{us:List Value}(h:yb K H ι m ds us):ds.length=us.length:=by obtain⟨vs,a,b⟩:=h;rw[a.length,b.length]
inductive ShAt(K:al)(H:Hp)(ι:Nat->Addr)(m:Nat)(s:Shared):Sh->Value->Prop where
 |sc {v:V}{u:Value}(f:dh v=true)(r:RelV v u):ShAt K H ι m s (.sc v) u
 |t {a:Addr}{xs:List D}{its:Array Value}(h:s.heap.IsTuple a its)(r:yb K H ι m xs its.toList):ShAt K H ι m s (.t xs) (.ref a)
 |l {a:Addr}{xs:List D}{its:Array Value}(h:s.heap.IsList a its)(r:yb K H ι m xs its.toList):ShAt K H ι m s (.l xs) (.ref a)
 |d {a:Addr}(h:v7 s.heap a):ShAt K H ι m s .d (.ref a)
theorem ou{st:aK}{d:D}{sh:Sh}(I:Inv X pins σ H s)(S:Sim X.K H ι st)(h:At X.K H ι st.length d u)(e:shape st d=some sh):
  ShAt X.K H ι st.length s sh u:=by
 obtain⟨v,hv,r⟩:=h;cases hv with
 |non=>cases e;exact .sc rfl r
 |bl b=>cases e;exact .sc rfl r
 |int i=>cases e;exact .sc rfl r
 |str x=>cases e;exact .sc rfl r
 |tup h hr=>
  cases e;cases r;obtain⟨its,rv,p,_⟩:=I.tuple h;exact .t p ⟨_,hr,by simpa using rv⟩
 |fl h hr=>
  cases e;cases r;obtain⟨its,rv,p,_⟩:=I.list h.sql;exact .l p.isList ⟨_,hr,by simpa using rv⟩
 | @ref n hn=>
  cases r;simp only[shape] at e;cases q:st[n]? with
  |none=>rw[q] at e;cases e
  |some o=>
   rw[q] at e;have ho:=S.ob n o q;cases o with
   |lst xs=>
    cases e;obtain⟨vs,h1,h2⟩:=ho;obtain⟨its,rv,p,_⟩:=I.list (ez.of h1);exact .l p.isList ⟨_,h2,by simpa using rv⟩
   |dct kvs=>cases e;obtain⟨ws,ho,_⟩:=ho;obtain⟨hz,hS,vs,rv,o,es,ep,h1,h2,h3,_⟩:=(show cN X.prog X.w H s.heap (ι n) (.dK ws) from I.hok _ _ ho);obtain⟨c1,c2,c3⟩:=h2;refine .d ⟨es,ep,?_⟩;rw[h1];obtain⟨cls,dd,data,sl⟩:=o;simp only at c1 c2 c3 h3;subst c1 c2 c3 h3;rfl
   |_=>cases e
theorem all_cons{e:Nat->Bool}{x:Bool}:(List.range (n+1)).all (λj=>match j with|0=>x|j+1=>e j)=(x&&(List.range n).all e):=by rw[List.range_succ_eq_map,List.all_cons,List.all_map];rfl
theorem k7{a:Addr}{o:Obj}(I:Inv X pins σ H s)(h:X.K.lookup a=some o):H a=none:=(I.bs a o (I.ok.mod.kin a o h)).2
theorem pX{a:Addr}(I:Inv X pins σ H s)(h:gx X.K H a xs)(h':ez X.K H a ys):False:=by obtain⟨_,_,p,_⟩:=I.tuple h;obtain⟨_,_,q,_⟩:=I.list h';exact ne_of_list_tuple q.isList p rfl
theorem m8{a:Addr}(I:Inv X pins σ H s)(h:gx X.K H a xs):(∃zs,H a=some (.tup zs))∨(∃o u,H a=some (.frz o u))∨H a=none:=by
 rcases h with(h|⟨o,h⟩)|⟨o,_,_,h,_⟩
 ·exact .inl ⟨_,h⟩
 ·exact .inr (.inl ⟨_,_,h⟩)
 ·exact .inr (.inr (k7 I h))
theorem vM{a:Addr}(I:Inv X pins σ H s)(h:we X.K H a xs):(∃o u,H a=some (.frz o u))∨H a=none:=by
 rcases h with⟨o,h⟩|⟨o,_,_,h,_⟩
 ·exact .inl ⟨_,_,h⟩
 ·exact .inr (k7 I h)
theorem Sim.obj{K:al}{st:aK}(S:Sim K H ι st)(h:n<st.length):∃u,H (ι n)=some u/\(∀xs,u≠ .tup xs)/\∀ob w,u≠ .frz ob w:=
 (S.ob n st[n] (by simp[h])).there
mutual
theorem VRel.uniq{st:aK}(I:Inv X pins σ H s)(S:Sim X.K H ι st):∀{d d':D}{v:V},VRel X.K H ι st.length d v->VRel X.K H ι st.length d' v->d=d'
 |_,_,_,.non,h=>by cases h;rfl
 |_,_,_,.bl b,h=>by cases h;rfl
 |_,_,_,.int i,h=>by cases h;rfl
 |_,_,_,.str x,h=>by cases h;rfl
 |_,_,_,.tup h r,h'=>by
  cases h' with
  |tup q r'=>rw[I.tuple_inj h q] at r;rw[VRels.uniq I S r r']
  |fl q _=>exact(pX I h q.sql).elim
  |ref q=>
   obtain⟨u,e',n1,n2⟩:=S.obj q;rcases m8 I h with⟨_,e⟩|⟨_,_,e⟩|e<;>rw[e] at e'<;>first|(cases e';done)|(cases e';exact absurd rfl (n1 _))|(cases e';exact absurd rfl (n2 _ _))
 |_,_,_,.fl h r,h'=>by
  cases h' with
  |tup q _=>exact(pX I q h.sql).elim
  |fl q r'=>rw[I.list_inj h.sql q.sql] at r;rw[VRels.uniq I S r r']
  |ref q=>
   obtain⟨u,e',n1,n2⟩:=S.obj q;rcases vM I h with⟨_,_,e⟩|e<;>rw[e] at e'<;>first|(cases e';done)|(cases e';exact absurd rfl (n1 _))|(cases e';exact absurd rfl (n2 _ _))
 |_,_,_,.ref (n:=n) q,h'=>by
  generalize hz:V.ref (ι n)=z at h';cases h' with
  |tup h _=>
   injection hz with hz;rw[<-hz] at h;obtain⟨u,e',n1,n2⟩:=S.obj q;rcases m8 I h with⟨_,e⟩|⟨_,_,e⟩|e<;>rw[e] at e'<;>first|(cases e';done)|(cases e';exact absurd rfl (n1 _))|(cases e';exact absurd rfl (n2 _ _))
  |fl h _=>
   injection hz with hz;rw[<-hz] at h;obtain⟨u,e',n1,n2⟩:=S.obj q;rcases vM I h with⟨_,_,e⟩|e<;>rw[e] at e'<;>first|(cases e';done)|(cases e';exact absurd rfl (n1 _))|(cases e';exact absurd rfl (n2 _ _))
  |ref q'=>injection hz with hz;rw[S.inj _ _ q q' hz]
  |_=>cases hz
theorem VRels.uniq{st:aK}(I:Inv X pins σ H s)(S:Sim X.K H ι st):∀{ds ds':List D}{vs:List V},VRels X.K H ι st.length ds vs->VRels X.K H ι st.length ds' vs->ds=ds'
 |_,_,_,.nil,h=>by cases h;rfl
 |_,_,_,.cons r t,h=>by
  cases h with
  |cons r' t'=>rw[VRel.uniq I S r r',VRels.uniq I S t t']
end
theorem At.uniq{st:aK}{a b:D}(I:Inv X pins σ H s)(S:Sim X.K H ι st)(ha:At X.K H ι st.length a u)(hb:At X.K H ι st.length b u):a=b:=by obtain⟨v,h1,r1⟩:=ha;obtain⟨w,h2,r2⟩:=hb;rw[r1.inj r2] at h1;exact h1.uniq I S h2
theorem vP(h:dh v=true):vQ v v=true:=by cases v<;>simp_all [vQ,dh]
theorem pV{st:aK}{d:D}(h:shape st d=some (.sc v)):dh v=true:=by
 cases d with
 |ref n=>simp only[shape] at h;split at h<;>cases h
 |_=>cases h<;>rfl
theorem iP{f:D->D->Option Bool}(hf:∀x k,f x x=some k->k=true):∀{xs:List D}{k:Bool},e_ f xs xs=some k->k=true
 |[],k,e=>(ag e).symm
 |x::xs,k,e=>by
  unfold e_ at e;cases e1:f x x with
  |none=>rw[e1] at e;simp at e
  |some p=>
   cases e2:e_ f xs xs with
   |none=>rw[e1,e2] at e;simp at e
   |some q=>rw[e1,e2] at e;have e':(p&&q)=k:=ag e;rw[<-e',hf _ _ e1,iP hf e2];rfl
theorem oU{f:D->D->Option Bool}(hf:∀x k,f x x=some k->k=true){x:D}{k:Bool}(e:pF f x x=some k):k=true:=by
 unfold pF at e;split at e
 ·split at e
  ·exact(ag e).symm
  ·exact hf _ _ e
 ·exact hf _ _ e
theorem lD{st:aK}:∀(n:Nat){a:D}{k:Bool},gJ n st a a=some k->k=true
 |0,_,_,e=>by unfold gJ at e;cases e
 |n+1,a,k,e=>by
  unfold gJ at e;cases ea:shape st a with
  |none=>rw[ea] at e;simp at e
  |some sa=>
   rw[ea] at e;cases sa with
   |sc v=>have e':vQ v v=k:=ag e;rw[<-e',vP (pV ea)]
   |t xs=>exact iP (λ_ _=>oU λ_ _=>lD n) e
   |l xs=>exact iP (λ_ _=>oU λ_ _=>lD n) e
   |d=>cases e
theorem rW(ry:RelV y u)(fy:dh y=true):(u==Value.ref l)=false:=by
 cases y with
 |non=>cases ry;rfl
 |bl b=>cases ry;rfl
 |int i=>obtain⟨t,rfl⟩:=ry;rfl
 |str i=>obtain⟨t,rfl⟩:=ry;rfl
 |_=>cases fy
theorem rN(ry:RelV y u)(fy:dh y=true):(Value.ref l==u)=false:=by
 cases y with
 |non=>cases ry;rfl
 |bl b=>cases ry;rfl
 |int i=>obtain⟨t,rfl⟩:=ry;rfl
 |str i=>obtain⟨t,rfl⟩:=ry;rfl
 |_=>cases fy
theorem rZ{X:Cx}{pins:List (Addr×Obj)}{σ:L2.St}{H:Hp}{s:Shared}{ι:Nat->Addr}{st:aK}(I:Inv X pins σ H s)(S:Sim X.K H ι st){n:Nat}
  (ih:∀{a b:D}{u v:Value}{A:Around}{k:Bool},pF (gJ n st) a b=some k->At X.K H ι st.length a u->At X.K H ι st.length b v->A.units+n<cLine->EqAt A s u v k):
  ∀{xs ys:List D}{us vs:List Value}{A:Around}{k:Bool},e_ (pF (gJ n st)) xs ys=some k->yb X.K H ι st.length xs us->yb X.K H ι st.length ys vs->A.units+n<cLine->
  ∃e:Nat->Bool,(∀j (h1:j<us.length)(h2:j<vs.length),EqAt A s us[j] vs[j] (e j))/\k=((List.range (min us.length vs.length)).all e&&us.length==vs.length)
 |xs,ys,us,vs,A,k,e,ha,hb,hu=>by
  have la:=ha.length;have lb:=hb.length;unfold e_ at e;cases xs with
  |nil=>
   cases us with
   |cons _ _=>simp at la
   |nil=>
    refine⟨λ_=>true,λj h1 _=>absurd h1 (Nat.not_lt_zero _),?_⟩;cases ys with
    |nil=>
     cases vs with
     |cons _ _=>simp at lb
     |nil=>rw[<-ag e];rfl
    |cons y ys=>
     cases vs with
     |nil=>simp at lb
     |cons _ _=>rw[<-ag e];simp
  |cons x xs=>
   cases us with
   |nil=>simp at la
   |cons u us=>
    cases ys with
    |nil=>
     cases vs with
     |cons _ _=>simp at lb
     |nil=>exact⟨λ_=>true,λj _ h2=>absurd h2 (Nat.not_lt_zero _),by rw[<-ag e];simp⟩
    |cons y ys=>
     cases vs with
     |nil=>simp at lb
     |cons v vs=>
      obtain⟨_,r1,q1⟩:=ha;obtain⟨_,r2,q2⟩:=hb;cases q1 with
      |cons w1 w2=>
       cases q2 with
       |cons z1 z2=>
        cases r1 with
        |cons m1 m2=>
         cases r2 with
         |cons n1 n2=>
          simp only at e;cases e1:pF (gJ n st) x y with
          |none=>rw[e1] at e;simp at e
          |some p=>
           cases e2:e_ (pF (gJ n st)) xs ys with
           |none=>rw[e1,e2] at e;simp at e
           |some q=>
            rw[e1,e2] at e;have hE:=ih (A:=A) e1 ⟨_,m1,w1⟩ ⟨_,n1,z1⟩ hu;obtain⟨f,hf,hk⟩:=rZ I S ih (A:=A) e2 ⟨_,m2,w2⟩ ⟨_,n2,z2⟩ hu;refine⟨λj=>match j with|0=>p|j+1=>f j,λj h1 h2=>?_,?_⟩
            ·cases j with
             |zero=>exact hE
             |succ j=>exact hf j (by simpa using h1) (by simpa using h2)
            ·have e3:min (u::us).length (v::vs).length=min us.length vs.length+1:=by simp only[List.length_cons];omega
             have e4:((u::us).length==(v::vs).length)=(us.length==vs.length):=by simp
             rw[e3,e4,all_cons,<-ag e,hk,Bool.and_assoc]
theorem xL{st:aK}{f:D->D->Option Bool}{a b:D}{v:Value}{k:Bool}(h:f a b=some k->EqAt A s u v k)(e:pF f a b=some k)(pa:At X.K H ι st.length a u)(pb:At X.K H ι st.length b v):EqAt A s u v k:=by
 unfold pF at e;split at e
 ·rename_i i j;split at e
  ·rename_i hij;subst hij;obtain⟨y,q1,r1⟩:=pa;obtain⟨z,q2,r2⟩:=pb;cases q1;cases q2;cases r1;cases r2;rw[<-ag e];exact EqAt.same _
  ·exact h e
 ·exact h e
theorem nP{X:Cx}{pins:List (Addr×Obj)}{σ:L2.St}{H:Hp}{s:Shared}{ι:Nat->Addr}{st:aK}(I:Inv X pins σ H s)(S:Sim X.K H ι st):∀(n:Nat){a b:D}{u v:Value}{A:Around}{k:Bool},gJ n st a b=some k->At X.K H ι st.length a u->At X.K H ι st.length b v->A.units+n<cLine->
  RcAt A s u v k/\RcNeAt A s u v (!k)/\EqAt A s u v k
 |0,_,_,_,_,_,_,e,_,_,_=>by unfold gJ at e;cases e
 |n+1,a,b,u,v,A,k,e,pa,pb,hu=>by
  have hu0:A.units<cLine:=by omega
  have hu1:A.in1.units+n<cLine:=by show A.units+1+n<cLine;omega
  have e0:=e;unfold gJ at e;cases ea:shape st a with
  |none=>rw[ea] at e;simp at e
  |some sa=>
   cases eb:shape st b with
   |none=>rw[ea,eb] at e;simp at e
   |some sb=>
    rw[ea,eb] at e;have ua:=ou I S pa ea;have ub:=ou I S pb eb
    have refs:∀{l l':Addr},u=.ref l->v=.ref l'->RcAt A s u v k->RcNeAt A s u v (!k)->RcAt A s u v k/\RcNeAt A s u v (!k)/\EqAt A s u v k:=λ{l l'} h1 h2 h3 h4=>by
     refine⟨h3,h4,?_⟩;by_cases hl:l=l'
     ·have huv:u=v:=by rw[h1,h2,hl]
      subst huv;have:=pa.uniq I S pb;subst this;rw[lD _ e0];exact EqAt.same _
     ·subst h1 h2;exact EqAt.of_refs hl h3
    have seqs:∀{xs ys:List D}{us vs:List Value},e_ (pF (gJ n st)) xs ys=some k->yb X.K H ι st.length xs us->yb X.K H ι st.length ys vs->
      ∃e:Nat->Bool,(∀j (h1:j<us.length)(h2:j<vs.length),EqAt A.in1 s us[j] vs[j] (e j))/\k=((List.range (min us.length vs.length)).all e&&us.length==vs.length):=λq ra rb=>rZ I S (λa b c d=>xL (X:=X) (H:=H) (ι:=ι) (st:=st) (λa=>(nP I S n a b c d).2.2) a b c) q ra rb hu1
    cases ua with
    |sc fa ra=>
     cases ub with
     |sc fb rb=>cases e;exact⟨AT ra rb fa fb,v5 ra rb fa fb,Ax ra rb fa fb⟩
     |t hb _=>cases e;exact⟨jY hb hu0 ra fa,ml hb hu0 ra fa,mZ (rW ra fa) (jY hb hu0 ra fa)⟩
     |l hb _=>cases e;exact⟨lS hb hu0 ra fa,nW hb hu0 ra fa,mZ (rW ra fa) (lS hb hu0 ra fa)⟩
     |d hb=>cases e
    | @t a1 xs its ha ra=>
     cases ub with
     |sc fb rb=>cases e;exact⟨jX ha hu0 rb fb,mj ha hu0 rb fb,m3 (rN rb fb) (jX ha hu0 rb fb)⟩
     | @t b1 ys its2 hb rb=>
      obtain⟨f,hf,hk⟩:=seqs e ra rb
      have hf':∀j (h1:j<its.size)(h2:j<its2.size),EqAt A.in1 s its[j] its2[j] (f j):=λj h1 h2=>by
       have q:=hf j (by simpa using h1) (by simpa using h2)
       rw[Array.getElem_toList,Array.getElem_toList] at q;exact q
      have q1:=RcAt.tuples ha hb hu0 hf';have q2:=RcNeAt.tuples ha hb hu0 hf';have ek:((List.range (min its.size its2.size)).all f&&its.size==its2.size)=k:=by rw[hk];simp
      rw[ek] at q1 q2;exact refs rfl rfl q1 q2
     |l hb _=>cases e;exact refs rfl rfl (RcAt.tuple_list ha hb hu0) (RcNeAt.tuple_list ha hb hu0)
     |d hb=>cases e
    | @l a1 xs its ha ra=>
     cases ub with
     |sc fb rb=>cases e;exact⟨lR ha hu0 rb fb,nV ha hu0 rb fb,m3 (rN rb fb) (lR ha hu0 rb fb)⟩
     |t hb _=>cases e;exact refs rfl rfl (RcAt.list_tuple ha hb hu0) (RcNeAt.list_tuple ha hb hu0)
     | @l b1 ys its2 hb rb=>
      obtain⟨f,hf,hk⟩:=seqs e ra rb
      have hf':∀j (h1:j<its.size)(h2:j<its2.size),EqAt A.in1 s its[j] its2[j] (f j):=λj h1 h2=>by
       have q:=hf j (by simpa using h1) (by simpa using h2)
       rw[Array.getElem_toList,Array.getElem_toList] at q;exact q
      by_cases hsz:its.size=its2.size
      ·have q1:=RcAt.lists ha hb hsz hu0 hf';have q2:=RcNeAt.lists ha hb hsz hu0 hf';have ek:(List.range its.size).all f=k:=by rw[hk];simp[hsz]
       rw[ek] at q1 q2;exact refs rfl rfl q1 q2
      ·have ek:k=false:=by rw[hk];simp[hsz]
       subst ek;exact refs rfl rfl (RcAt.lists_lengths ha hb (by simpa using hsz) hu0) (RcNeAt.lists_lengths ha hb (by simpa using hsz) hu0)
     |d hb=>cases e
    |d ha=>
     cases ub with
     |l hb _=>cases e;exact refs rfl rfl (RcAt.dict_list ha hb hu0) (RcNeAt.dict_list ha hb hu0)
     |_=>cases e
theorem bs{o:Option α}{f:α->Option β}{b:β}(h:o.bind f=some b):∃a,o=some a/\f a=some b:=by
 cases o with
 |none=>cases h
 |some a=>exact⟨a,rfl,h⟩
theorem fS{c:Prop}[Decidable c]{x:Option β}{b:β}(h:(if c then x else none)=some b):c/\x=some b:=by
 by_cases k:c
 ·rw[if_pos k] at h;exact⟨k,h⟩
 ·rw[if_neg k] at h;cases h
theorem D2{c:Prop}[Decidable c]{x y:Option β}{b:β}(h:(if c then x else y)=some b):(c/\x=some b)∨y=some b:=by
 by_cases k:c
 ·rw[if_pos k] at h;exact .inl ⟨k,h⟩
 ·rw[if_neg k] at h;exact .inr h
theorem kj{o:Option α}{G:Option β}{F:α->Option β}{b:β}(h:o.elim G F=some b):(∃a,o=some a/\F a=some b)∨(o=none/\G=some b):=by
 cases o with
 |none=>exact .inr ⟨rfl,h⟩
 |some a=>exact .inl ⟨a,rfl,h⟩
theorem map_some{f:α->β}{o:Option α}{b:β}(h:o.map f=some b):∃a,o=some a/\b=f a:=by
 cases o with
 |none=>cases h
 |some a=>exact⟨a,rfl,(ag h).symm⟩
noncomputable def one{α:Type}:List α->Option α
 |[a]=>some a
 |_=>none
theorem dv{l:List α}{a:α}(h:one l=some a):l=[a]:=by rcases l with _|⟨b,_|⟨c,l⟩⟩<;>cases h;rfl
noncomputable def jP{α:Type}:List α->Option (α×α)
 |[a,b]=>some (a,b)
 |_=>none
theorem eU{l:List α}{p:α×α}(h:jP l=some p):l=[p.1,p.2]:=by rcases l with _|⟨b,_|⟨c,_|⟨d,l⟩⟩⟩<;>cases h;rfl
noncomputable def fE:List (Key×D)->Key->Option D
 |[],_=>none
 |p::r,k=>if p.1=k then some p.2 else fE r k
noncomputable abbrev Loc:=List (Option D)
inductive Bo where
 |add|sub|mul|fdiv|mod
inductive Bt where
 |len|list|tuple|all|dict|sum
inductive Ty where
 |int|bool|list|tuple
inductive Ex where
 |c (d:D)|v (i:Nat)|tup (es:List Ex)|lst (es:List Ex)|emp
 |bin (op:Bo)(a b:Ex)|neg (a:Ex)|not (a:Ex)|and (a b:Ex)|or (a b:Ex)
 |cmp (op:CmpOp)(a b:Ex)|chain (op op':CmpOp)(a b c:Ex)
 |ix (a b:Ex)|sl (a lo hi:Ex)(hl hh:Bool)
 |fn (f:Nat) (args:List Ex)|bt (f:Bt)(args:List Ex)|isi (a:Ex)(t:Ty)
 |comp (rng:Bool)(src elt:Ex)
 |ite (c a b:Ex)|compE (src elt:Ex)|dict (ks:List Str) (vs:List Ex)|pop (o:Ex)(fr:Bool)
 |fld (a:Ex)(f:Str)(cs ics:List Str)
 |new (x:Str) (f:Nat) (args:List Ex)|meth (o:Ex)(m:Str)(ms:List (Str×Nat))(args:List Ex)
 |lrev (a:Ex)|compU (src elt:Ex)|compZ (a b elt:Ex)|dictP (a:Ex)|inG (ks:List Str)(a:Ex)|rv (a:Ex)|comp2 (a b elt:Ex)|ixG (kvs:List (Str×D))(a:Ex)
noncomputable def alloc(xs:List D):M D:=λst=>.ok (.ref st.length) (st++[.lst xs])
noncomputable def allocD:M D:=λst=>.ok (.ref st.length) (st++[.dct []])
noncomputable def a8(st:aK):D->Option (List D)
 | .tup xs=>some xs
 | .fl xs=>some xs
 | .ref n=>match st[n]? with
  |some (.lst xs)=>some xs
  |_=>none
 |_=>none
noncomputable def oM(fr:Bool)(x:D):M D:=λst=>match x with
 | .ref n=>match st[n]? with
  |some (.lst xs)=>if fr then .bad else(match xs[xs.length - 1]? with
   |some y=>.ok y (st.set n (.lst xs.dropLast))
   |none=>.bad)
  |_=>.bad
 |_=>.bad
noncomputable def big:Int:=18446744073709551616
noncomputable def ii(f:Int->Int->M D)(x y:D):M D:=match x with
 | .int i=>(match y with
  | .int j=>f i j
  |_=>stuck)
 |_=>stuck
noncomputable def addD(x y:D):M D:=match x with
 | .int i=>(match y with
  | .int j=>ret (.int (i+j))
  |_=>stuck)
 | .tup as=>(match y with
  | .tup bs=>(match as with
   |[]=>ret (.tup bs)
   |a::as=>λst=>if(a::as).length+bs.length<=1000000 then .ok (.tup (a::as++bs)) st else .bad)
  |_=>stuck)
 | .ref m=>(match y with
  | .ref n=>λst=>match st[m]?,st[n]? with
   |some (.lst as),some (.lst bs)=>if as.length+bs.length<=1000000 then alloc (as++bs) st else .bad
   |_,_=>.bad
  |_=>stuck)
 |_=>stuck
noncomputable def u4(x y:D):M D:=match x with
 | .int i=>(match y with
  | .int j=>λst=>if((-big<i/\i<big)∨(-big<j/\j<big))∨(i.natAbs<2^1000/\j.natAbs<2^1000) then .ok (.int (i*j)) st else .bad
  |_=>stuck)
 | .tup xs=>(match y with
  | .int j=>(match xs with
   |[]=>stuck
   |a::as=>λst=>if j=1 then .ok (.tup (a::as)) st else if j=0 then .ok (.tup []) st else .bad)
  |_=>stuck)
 |_=>stuck
noncomputable def cz(op:Bo)(x y:D):M D:=match op with
 | .add=>addD x y
 | .sub=>ii (λi j=>ret (.int (i - j))) x y
 | .mul=>u4 x y
 | .fdiv=>ii (λi j st=>if j≠0/\j.natAbs<2^200 then .ok (.int (i.fdiv j)) st else .bad) x y
 | .mod=>ii (λi j st=>if j≠0 then .ok (.int (i.fmod j)) st else .bad) x y
noncomputable def e8(st:aK)(x:D):List D->Option Bool
 |[]=>some false
 |y::ys=>match gJ 60 st y x,e8 st x ys with
  |some a,some b=>some (a||b)
  |_,_=>none
noncomputable def fP(o:D):M Unit:=λst=>match o with
 | .ref n=>match st[n]? with
  |some (.lst _)=>.ok () st
  |_=>.bad
 |_=>.bad
noncomputable def allB:List D->Option Bool
 |[]=>some true
 | .bl b::ds=>match allB ds with
  |some k=>some (b&&k)
  |none=>none
 |_::_=>none
noncomputable def pT:List D->Option Int
 |[]=>some 0
 | .int i::ds=>(pT ds).map λk=>i+k
 |_::_=>none
noncomputable def k9:D->Option Key
 | .int i=>some (.inl i)
 | .str s=>some (.inr s)
 |_=>none
noncomputable def gm(st:aK)(x y:D):Option Bool:=match k9 x,y with
 |some k,.ref n=>match st[n]? with
  |some (.dct kvs)=>some (fE kvs k).isSome
  |_=>none
 |_,_=>none
noncomputable def Dl(x y:D):Option Bool:=match y with
 | .non=>some (match x with| .non=>true|_=>false)
 |_=>none
noncomputable def cx(op:CmpOp)(x y:D):M D:=λst=>match op with
 | .Eq=>match gJ 60 st x y with
  |some k=>.ok (.bl k) st
  |none=>.bad
 | .NotEq=>match gJ 60 st x y with
  |some k=>.ok (.bl (!k)) st
  |none=>.bad
 | .Lt=>match x,y with
  | .int i,.int j=>.ok (.bl (decide (i<j))) st
  |_,_=>.bad
 | .LtE=>match x,y with
  | .int i,.int j=>.ok (.bl (decide (i<=j))) st
  |_,_=>.bad
 | .Gt=>match x,y with
  | .int i,.int j=>.ok (.bl (decide (j<i))) st
  |_,_=>.bad
 | .In=>match a8 st y with
  |some ys=>match e8 st x ys with
   |some k=>.ok (.bl k) st
   |none=>.bad
  |none=>match gm st x y with
   |some k=>.ok (.bl k) st
   |none=>.bad
 | .NotIn=>match a8 st y with
  |some ys=>match e8 st x ys with
   |some k=>.ok (.bl (!k)) st
   |none=>.bad
  |none=>match gm st x y with
   |some k=>.ok (.bl (!k)) st
   |none=>.bad
 | .Is=>match Dl x y with
  |some k=>.ok (.bl k) st
  |none=>.bad
 | .IsNot=>match Dl x y with
  |some k=>.ok (.bl (!k)) st
  |none=>.bad
 |_=>.bad
noncomputable def tj(st:aK)(x:D)(k:Key):R D:=match x with
 | .ref n=>match st[n]? with
  |some (.dct kvs)=>match fE kvs k with
   |some d=>.ok d st
   |none=>.bad
  |_=>.bad
 |_=>.bad
noncomputable def index(x y:D):M D:=λst=>match x,y with
 |x,.int i=>match a8 st x with
  |some xs=>match iH xs i with
   |some d=>.ok d st
   |none=>.bad
  |none=>tj st x (.inl i)
 |x,.str k=>tj st x (.inr k)
 |_,_=>.bad
noncomputable def b1(k:D->M D)(ds:List D):M D:=match ds with
 |[x]=>k x
 |_=>stuck
noncomputable def lW(f:Bt)(x:D):M D:=match f with
 | .len=>λst=>match a8 st x with
  |some xs=>.ok (.int xs.length) st
  |none=>.bad
 | .list=>λst=>match a8 st x with
  |some xs=>alloc xs st
  |none=>.bad
 | .tuple=>λst=>match a8 st x with
  |some xs=>.ok (.tup xs) st
  |none=>.bad
 | .all=>(match x with
  | .ref n=>λst=>match st[n]? with
   |some (.lst xs)=>match allB xs with
    |some k=>.ok (.bl k) st
    |none=>.bad
   |_=>.bad
  |_=>stuck)
 | .dict=>(match x with
  | .ref n=>λst=>match st[n]? with
   |some (.dct kvs)=>.ok (.ref st.length) (st++[.dct kvs])
   |_=>.bad
  |_=>stuck)
 | .sum=>(match x with
  | .ref n=>λst=>match st[n]? with
   |some (.lst xs)=>match pT xs with
    |some k=>.ok (.int k) st
    |none=>.bad
   |_=>.bad
  |_=>stuck)
noncomputable def jL(f:Bt)(ds:List D):M D:=b1 (lW f) ds
noncomputable def i0(st:aK)(t:Ty):D->Option Bool
 | .non=>some false
 | .bl _=>some (match t with| .int=>true| .bool=>true|_=>false)
 | .int _=>some (match t with| .int=>true|_=>false)
 | .str _=>some false
 | .tup _=>some (match t with| .tuple=>true|_=>false)
 | .fl _=>some (match t with| .list=>true|_=>false)
 | .ref n=>match st[n]? with
  |some (.lst _)=>some (match t with| .list=>true|_=>false)
  |some (.dct _)=>some false
  |_=>none
inductive Src where
 |its (xs:List D)|at(n:Nat)|en (n:Nat)|zp (x y:D)
noncomputable def cB(n:Nat):List D:=(List.range n).map λ(i:Nat)=>D.int (i:Int)
noncomputable def c6(rng:Bool)(d:D):Option Src:=match rng,d with
 |true,.int j=>if -1000000<=j/\j<=1000000 then some (.its (cB j.toNat)) else none
 |false,.tup xs=>some (.its xs)
 |false,.fl xs=>some (.its xs)
 |false,.ref n=>some (.at n)
 |_,_=>none
noncomputable def c7(i:Int)(n:Nat):List D:=(List.range n).map λ(k:Nat)=>D.int (i+(k:Int))
noncomputable def j7:D->D->Option Src
 | .int i,.int j=>if(-1000000<=i/\i<=1000000)/\ -1000000<=j/\j<=1000000 then some (.its (c7 i (j - i).toNat)) else none
 |_,_=>none
noncomputable def hU(k:Nat):List D->List D
 |[]=>[]
 |x::xs=>.tup [.int (k:Int),x]::hU (k+1) xs
theorem mJ:∀(xs:List D)(k i:Nat),(hU k xs)[i]? =xs[i]?.map λx=>.tup [.int ((k+i:Nat):Int),x]
 |[],k,i=>by simp[hU]
 |x::xs,k,0=>by simp[hU]
 |x::xs,k,i+1=>by
  simp only[hU,List.getElem?_cons_succ];rw[mJ xs (k+1) i,show k+1+i=k+(i+1) by omega]
noncomputable def lE:D->Option Src
 | .ref n=>some (.en n)
 | .tup xs=>some (.its (hU 0 xs))
 |_=>none
noncomputable def tq:D->D->Option Src
 |x,y=>some (.zp x y)
noncomputable def fc(s:Src)(i:Nat)(st:aK):Option (Option D):=match s with
 | .its xs=>some xs[i]?
 | .at n=>match st[n]? with
  |some (.lst xs)=>some xs[i]?
  |_=>none
 | .en n=>match st[n]? with
  |some (.lst xs)=>some (xs[i]?.map λx=>.tup [.int (i:Int),x])
  |_=>none
 | .zp x y=>match a8 st x,a8 st y with
  |some xs,some ys=>some (match xs[i]?,ys[i]? with
   |some x,some y=>some (.tup [x,y])
   |_,_=>none)
  |_,_=>none
noncomputable def d8(s:Src)(st:aK):Nat:=match s with
 | .its xs=>xs.length
 | .at n=>match st[n]? with
  |some (.lst xs)=>xs.length
  |_=>0
 | .en n=>match st[n]? with
  |some (.lst xs)=>xs.length
  |_=>0
 | .zp x _=>match a8 st x with
  |some xs=>xs.length
  |none=>0
noncomputable def di(f:D->M (Option D))(s:Src):Nat->Nat->List D->M (List D)
 |0,_,_=>stuck
 |k+1,i,acc=>λst=>match fc s i st with
  |some (some x)=>aZ (f x) (λo=>match o with
   |some y=>di f s k (i+1) (acc++[y])
   |none=>di f s k (i+1) acc) st
  |some none=>.ok acc st
  |none=>.bad
noncomputable def bX(f:D->M (Option D))(s:Src):M D:=λst=>if d8 s st<=1000000 then aZ (di f s (d8 s st+1) 0 []) alloc st else .bad
noncomputable def gu:D->Option Bool
 | .bl b=>some b
 |_=>none
noncomputable def jE:D->Option Int
 | .int i=>some i
 |_=>none
noncomputable def cutD(xs:List D)(lo hi:Option Int):List D:=(xs.drop (HT.dJ xs.length 0 lo)).take (HT.dJ xs.length xs.length hi - HT.dJ xs.length 0 lo)
noncomputable def slice(x:D)(lo hi:Option Int):M D:=λst=>match x with
 | .tup xs=>if HT.dJ xs.length 0 lo=0/\HT.dJ xs.length xs.length hi=xs.length then .bad else .ok (.tup (cutD xs lo hi)) st
 |x=>match a8 st x with
  |some xs=>alloc (cutD xs lo hi) st
  |none=>.bad
noncomputable def v4(ks:List Str)(ds:List D):M D:=λst=>if ks.length=ds.length/\ks.Nodup then .ok (.ref st.length) (st++[.dct ((ks.zip ds).map λp=>(Sum.inr p.1,p.2))]) else .bad
noncomputable def lA(f:Str)(cs ics:List Str)(x:D):M D:=λst=>match x with
 | .ref n=>match st[n]? with
  |some (.ins c fs)=>match fs.lookup f with
   |some d=>if c∈ics then .ok d st else .bad
   |none=>.bad
  |_=>.bad
 |_=>.bad
noncomputable def sZ(x:D):M Str:=λst=>match x with
 | .ref n=>match st[n]? with
  |some (.ins c _)=>.ok c st
  |_=>.bad
 |_=>.bad
noncomputable def iY(m:Str)(ms:List (Str×Nat))(x:D):M Nat:=λst=>match x with
 | .ref n=>match st[n]? with
  |some (.ins c fs)=>match fs.lookup m,ms.lookup c with
   |none,some j=>.ok j st
   |_,_=>.bad
  |_=>.bad
 |_=>.bad
inductive Rs where
 |v (d:D)|x (n:Nat)
noncomputable def Rs.val?:Rs->Option D
 | .v d=>some d
 | .x _=>none
noncomputable abbrev eB:=Nat->List D->M Rs
noncomputable def mC(g:eB)(x:Str)(f:Nat)(ds:List D):M D:=λst=>aZ (g f (.ref st.length::ds)) (λr=>match r with
 | .v .non=>ret (.ref st.length)
 |_=>stuck) (st++[.ins x []])
noncomputable def c9(kvs:List (Key×D))(k:Key)(v:D):List (Key×D):=if(kvs.any λkv=>decide (kv.1=k)) then kvs.map (λkv=>if kv.1=k then(kv.1,v) else kv) else kvs++[(k,v)]
noncomputable def DT(x:D):M D:=λst=>match x with
 | .tup xs=>alloc xs.reverse st
 |_=>.bad
noncomputable def Dj:D->Option (Key×D)
 | .tup xs=>(jP xs).bind λp=>(k9 p.1).map λk=>(k,p.2)
 |_=>none
noncomputable def nr:List D->Option (List (Key×D))
 |[]=>some []
 |x::r=>(Dj x).bind λp=>(nr r).map λq=>p::q
noncomputable def iF(ps:List (Key×D)):List (Key×D):=ps.foldl (λacc p=>c9 acc p.1 p.2) []
noncomputable def lI(x:D):M D:=λst=>match x with
 | .ref n=>match st[n]? with
  |some (.lst xs)=>match nr xs with
   |some ps=>.ok (.ref st.length) (st++[.dct (iF ps)])
   |none=>.bad
  |_=>.bad
 |_=>.bad
noncomputable def D9(ks:List Str):D->Option D
 | .str s=>some (.bl (ks.contains s))
 |_=>none
noncomputable def DS(x:D):M D:=λst=>match x with
 | .ref n=>match st[n]? with
  |some (.lst xs)=>alloc xs.reverse st
  |_=>.bad
 |_=>.bad
noncomputable def ve(kvs:List (Str×D)):D->Option D
 | .str s=>kvs.lookup s
 |_=>none
noncomputable def pairF(f:D->D->M D):D->M (Option D):=λx=>match x with
 | .tup [a,b]=>aZ (f a b) λy=>ret (some y)
 |_=>stuck
mutual
noncomputable def run(g:eB):Ex->Loc->M D
 | .c d,_=>ret d
 | .v i,loc=>dL (loc[i]?.join)
 | .tup es,loc=>aZ (runs g es loc) λds=>ret (.tup ds)
 | .lst es,loc=>aZ (runs g es loc) alloc
 | .emp,_=>allocD
 | .bin op a b,loc=>aZ (run g a loc) λx=>aZ (run g b loc) λy=>cz op x y
 | .neg a,loc=>aZ (run g a loc) λx=>aZ (dL (jE x)) λi=>ret (.int (-i))
 | .not a,loc=>aZ (run g a loc) λx=>aZ (dL (gu x)) λb=>ret (.bl (!b))
 | .and a b,loc=>aZ (run g a loc) λx=>aZ (dL (gu x)) λk=>if k then run g b loc else ret (.bl false)
 | .or a b,loc=>aZ (run g a loc) λx=>aZ (dL (gu x)) λk=>if k then ret (.bl true) else run g b loc
 | .cmp op a b,loc=>aZ (run g a loc) λx=>aZ (run g b loc) λy=>cx op x y
 | .chain op op' a b c,loc=>aZ (run g a loc) λx=>aZ (run g b loc) λy=>aZ (cx op x y) λz=>aZ (dL (gu z)) λk=>if k then aZ (run g c loc) λw=>cx op' y w else ret (.bl false)
 | .ix a b,loc=>aZ (run g a loc) λx=>aZ (run g b loc) λy=>index x y
 | .sl a lo hi hl hh,loc=>aZ (run g a loc) λx=>aZ (if hl then aZ (run g lo loc) λz=>aZ (dL (jE z)) λi=>ret (some i) else ret none) λl=>
   aZ (if hh then aZ (run g hi loc) λz=>aZ (dL (jE z)) λi=>ret (some i) else ret none) λh=>slice x l h
 | .fn f args,loc=>aZ (runs g args loc) λds=>aZ (g f ds) λr=>dL r.val?
 | .bt f args,loc=>aZ (runs g args loc) λds=>jL f ds
 | .isi a t,loc=>aZ (run g a loc) λx=>λst=>match i0 st t x with
  |some k=>.ok (.bl k) st
  |none=>.bad
 | .comp rng src elt,loc=>aZ (run g src loc) λd=>aZ (dL (c6 rng d)) λs=>bX (λx=>aZ (run g elt (some x::loc)) λy=>ret (some y)) s
 | .ite c a b,loc=>aZ (run g c loc) λx=>aZ (dL (gu x)) λk=>if k then run g a loc else run g b loc
 | .compE src elt,loc=>aZ (run g src loc) λd=>aZ (dL (lE d)) λs=>
   bX (λx=>match x with
    | .tup [a,b]=>aZ (run g elt (some a::some b::loc)) λy=>ret (some y)
    |_=>stuck) s
 | .dict ks es,loc=>aZ (runs g es loc) λds=>v4 ks ds
 | .pop o fr,loc=>aZ (run g o loc) λx=>oM fr x
 | .fld a f cs ics,loc=>aZ (run g a loc) λx=>lA f cs ics x
 | .new x f args,loc=>aZ (runs g args loc) λds=>mC g x f ds
 | .meth o m ms args,loc=>aZ (run g o loc) λx=>aZ (iY m ms x) λj=>aZ (runs g args loc) λds=>aZ (g j (x::ds)) λr=>dL r.val?
 | .lrev a,loc=>aZ (run g a loc) λx=>DT x
 | .compU src elt,loc=>aZ (run g src loc) λd=>aZ (dL (c6 false d)) λs=>bX (pairF λa b=>run g elt (some a::some b::loc)) s
 | .compZ a b elt,loc=>aZ (run g a loc) λx=>aZ (run g b loc) λy=>aZ (dL (tq x y)) λs=>bX (pairF λa b=>run g elt (some a::some b::loc)) s
 | .dictP a,loc=>aZ (run g a loc) λx=>lI x
 | .inG ks a,loc=>aZ (run g a loc) λx=>dL (D9 ks x)
 | .rv a,loc=>aZ (run g a loc) λx=>DS x
 | .comp2 a b elt,loc=>aZ (run g a loc) λx=>aZ (run g b loc) λy=>aZ (dL (j7 x y)) λs=>bX (λx=>aZ (run g elt (some x::loc)) λy=>ret (some y)) s
 | .ixG kvs a,loc=>aZ (run g a loc) λx=>dL (ve kvs x)
noncomputable def runs(g:eB):List Ex->Loc->M (List D)
 |[],_=>ret []
 |e::es,loc=>aZ (run g e loc) λd=>aZ (runs g es loc) λds=>ret (d::ds)
end
inductive S where
 |set (i:Nat)(e:Ex)|setix (o i e:Ex)|ret (e:Ex)|ret0|ex (e:Ex)|app (o e:Ex)|pass
 |ite (c:Ex)(a b:List S)|for_ (i:Nat)(rng:Bool)(src:Ex)(body:List S)
 |whil (c:Ex)(body:List S)|forE (is:List Nat)(src:Ex)(body:List S)
 |setf (o:Ex)(f:Str)(e:Ex)(cs ics:List Str)|augf (o:Ex)(f:Str)(e:Ex)(ics:List Str)
 |aug (i:Nat)(e:Ex)|ext (o e:Ex)|forU (is:List Nat)(src:Ex)(body:List S)
 |forZ (is:List Nat)(a b:Ex)(body:List S)|unp (is:List Nat)(e:Ex)|clr (o:Ex)|tryE (body els:List S)
 |stop
inductive Fl where
 |nx (loc:Loc)|rt (d:D)|ex (n:Nat)(loc:Loc)
noncomputable def dS(o i v:D):M Unit:=λst=>match o with
 | .ref n=>match st[n]? with
  |some (.lst xs)=>match i with
   | .int k=>match sN xs.length k with
    |some j=>.ok () (st.set n (.lst (xs.set j v)))
    |none=>.bad
   |_=>.bad
  |some (.dct kvs)=>match k9 i with
   |some k=>if kvs.length<1000000 then .ok () (st.set n (.dct (c9 kvs k v))) else .bad
   |none=>.bad
  |_=>.bad
 |_=>.bad
noncomputable def append(o v:D):M Unit:=λst=>match o with
 | .ref n=>match st[n]? with
  |some (.lst xs)=>if xs.length<1000000 then .ok () (st.set n (.lst (xs++[v]))) else .bad
  |_=>.bad
 |_=>.bad
noncomputable def extend(o v:D):M Unit:=λst=>match o,v with
 | .ref n,.ref m=>match st[n]?,st[m]? with
  |some (.lst xs),some (.lst ys)=>if xs.length+ys.length<=10000000 then .ok () (st.set n (.lst (xs++ys))) else .bad
  |_,_=>.bad
 | .ref n,.tup ys=>match st[n]? with
  |some (.lst xs)=>if xs.length+ys.length<=10000000 then .ok () (st.set n (.lst (xs++ys))) else .bad
  |_=>.bad
 |_,_=>.bad
noncomputable def qy(o:D):M Unit:=λst=>match o with
 | .ref n=>match st[n]? with
  |some (.lst _)=>.ok () (st.set n (.lst []))
  |_=>.bad
 |_=>.bad
noncomputable def qE(x y:D):M D:=λst=>match x,y with
 | .int i,.int j=>.ok (.int (i+j)) st
 |_,_=>.bad
noncomputable def eg(f:D->Loc->M Fl)(s:Src):Nat->Nat->Loc->M Fl
 |0,_,_=>stuck
 |k+1,i,loc=>λst=>match fc s i st with
  |some (some x)=>aZ (f x loc) (λr=>match r with
   | .nx loc'=>eg f s k (i+1) loc'
   | .rt d=>ret (.rt d)
   | .ex n l=>ret (.ex n l)) st
  |some none=>.ok (.nx loc) st
  |none=>.bad
noncomputable def eG(f:D->Loc->M Fl)(s:Src)(loc:Loc):M Fl:=λst=>eg f s (d8 s st+1) 0 loc st
noncomputable def dM(c:Loc->M D)(f:Loc->M Fl):Nat->Loc->M Fl
 |0,_=>stuck
 |k+1,loc=>aZ (c loc) λx=>aZ (dL (gu x)) λb=>if b then aZ (f loc) (λr=>match r with
   | .nx loc'=>dM c f k loc'
   | .rt d=>ret (.rt d)
   | .ex n l=>ret (.ex n l)) else ret (.nx loc)
noncomputable def o6:Nat:=1000000000
noncomputable def cV:List Nat->List D->Loc->Loc
 |i::is,d::ds,loc=>cV is ds (loc.set i (some d))
 |_,_,loc=>loc
noncomputable def items?(n:Nat)(d:D):M (List D):=λst=>match a8 st d with
 |some xs=>if xs.length=n then .ok xs st else .bad
 |none=>.bad
noncomputable def fg(cs ics:List Str)(o:D)(f:Str)(v:D):M Unit:=λst=>match o with
 | .ref n=>match st[n]? with
  |some (.ins c fs)=>if fs.length<900/\c∈ics then .ok () (st.set n (.ins c (putD f v fs))) else .bad
  |_=>.bad
 |_=>.bad
mutual
noncomputable def exec(g:eB):S->Loc->M Fl
 | .set i e,loc=>aZ (run g e loc) λd=>ret (.nx (loc.set i (some d)))
 | .setix o i e,loc=>aZ (run g e loc) λd=>aZ (run g o loc) λx=>aZ (run g i loc) λk=>aZ (dS x k d) λ_=>ret (.nx loc)
 | .ret e,loc=>aZ (run g e loc) λd=>ret (.rt d)
 | .ret0,_=>ret (.rt .non)
 | .ex e,loc=>aZ (run g e loc) λ_=>ret (.nx loc)
 | .app o e,loc=>aZ (run g o loc) λx=>aZ (fP x) λ_=>aZ (run g e loc) λd=>aZ (append x d) λ_=>ret (.nx loc)
 | .pass,loc=>ret (.nx loc)
 | .ite c a b,loc=>aZ (run g c loc) λx=>aZ (dL (gu x)) λk=>if k then execs g a loc else execs g b loc
 | .for_ i rng src body,loc=>aZ (run g src loc) λd=>aZ (dL (c6 rng d)) λs=>eG (λx loc'=>execs g body (loc'.set i (some x))) s loc
 | .whil c body,loc=>dM (run g c) (execs g body) o6 loc
 | .forE is src body,loc=>aZ (run g src loc) λd=>aZ (dL (lE d)) λs=>eG (λx loc'=>aZ (items? is.length x) λds=>execs g body (cV is ds loc')) s loc
 | .setf o f e cs ics,loc=>aZ (run g e loc) λd=>aZ (run g o loc) λx=>aZ (fg cs ics x f d) λ_=>ret (.nx loc)
 | .augf o f e ics,loc=>aZ (run g o loc) λx=>aZ (lA f [] ics x) λy=>aZ (sZ x) λc=>aZ (run g e loc) λz=>aZ (qE y z) λw=>aZ (sZ x) λc'=>if c=c' then aZ (fg [] ics x f w) λ_=>ret (.nx loc) else stuck
 | .aug i e,loc=>aZ (run g (.v i) loc) λx=>aZ (run g e loc) λy=>aZ (qE x y) λz=>ret (.nx (loc.set i (some z)))
 | .ext o e,loc=>aZ (run g o loc) λx=>aZ (fP x) λ_=>aZ (run g e loc) λd=>aZ (extend x d) λ_=>ret (.nx loc)
 | .forU is src body,loc=>aZ (run g src loc) λd=>aZ (dL (c6 false d)) λs=>eG (λx loc'=>aZ (items? is.length x) λds=>execs g body (cV is ds loc')) s loc
 | .unp is e,loc=>aZ (run g e loc) λd=>aZ (items? is.length d) λds=>ret (.nx (cV is ds loc))
 | .forZ is a b body,loc=>aZ (run g a loc) λx=>aZ (run g b loc) λy=>aZ (dL (tq x y)) λs=>eG (λx loc'=>aZ (items? is.length x) λds=>execs g body (cV is ds loc')) s loc
 | .tryE body els,loc=>aZ (execs g body loc) λr=>match r with
  | .nx l=>execs g els l
  | .rt d=>ret (.rt d)
  | .ex _ _=>stuck
 | .clr o,loc=>aZ (run g o loc) λx=>aZ (qy x) λ_=>ret (.nx loc)
 | .stop,_=>stuck
noncomputable def execs(g:eB):List S->Loc->M Fl
 |[],loc=>ret (.nx loc)
 |s::ss,loc=>aZ (exec g s loc) λr=>match r with
  | .nx loc'=>execs g ss loc'
  | .rt d=>ret (.rt d)
  | .ex n l=>ret (.ex n l)
end
structure Fn where
 ar:Nat
 nl:Nat
 body:List S
noncomputable def jV(g:eB)(f:Fn)(ds:List D):M Rs:=if ds.length=f.ar then aZ (execs g f.body (ds.map some++List.replicate (f.nl - ds.length) none)) λr=>match r with
  | .nx _=>ret (.v .non)
  | .rt d=>ret (.v d)
  | .ex n _=>ret (.x n)
 else stuck
noncomputable def calls(tab:List Fn):Nat->eB
 |0,_,_=>stuck
 |k+1,f,ds=>match tab[f]? with
  |some fn=>jV (calls tab k) fn ds
  |none=>stuck
noncomputable def cO(K:al)(H:Hp)(ι:Nat->Addr)(st:aK)(r:R D)(Q:VK):Prop:=match r with
 | .ok d st'=>∀H' ι' v,Ext H H' ι ι' st.length st'.length->Sim K H' ι' st'->VRel K H' ι' st'.length d v->Q v H'
 | .bad=>False
section
variable{K:al}{H:Hp}{ι:Nat->Addr}{st:aK}{Q:VK}
theorem cO.same{d:D}(S:Sim K H ι st)(P:cO K H ι st (.ok d st) Q)(r:VRel K H ι st.length d v):Q v H:=P H ι v (Ext.refl _ _ _) S r
theorem cO.mono{H1:Hp}{st1:aK}{r:R D}(P:cO K H ι st r Q)(E:Ext H H1 ι ι1 st.length st1.length):cO K H1 ι1 st1 r Q:=by
 cases r with
 |ok d st'=>exact λH' ι' v E' S' r'=>P H' ι' v (E.trans E') S' r'
 |bad=>exact P
theorem cO.alloc{xs:List D}(S:Sim K H ι st)(P:cO K H ι st (alloc xs st) Q)(r:VRels K H ι st.length xs vs):∀p,H p=none->Q (.ref p) (bx H p (.lst vs)):=λp hp=>by
 obtain⟨ι',E,e,S'⟩:=S.laid (o:= .lst xs) (ho:= .lst vs) hp (λι' h1 h2=>⟨vs,bw,VRels.ext0 ⟨Nat.le_succ _,h1,λb xs e=>by rw[aD (aw e hp)];exact e,λb ob u e=>by rw[aD (aw e hp)];exact e⟩ r⟩)
 have l:(st++[O.lst xs]).length=st.length+1:=by simp
 refine P _ ι' _ (by rw[l];exact E) S' ?_
 rw[<-e,l];exact .ref (aI _)
theorem cO.allocD(S:Sim K H ι st)(P:cO K H ι st (allocD st) Q):∀p,H p=none->Q (.ref p) (bx H p (.dK [])):=λp hp=>by
 obtain⟨ι',E,e,S'⟩:=S.laid (o:= .dct []) (ho:= .dK []) hp (λι' h1 h2=>⟨[],bw,.nil⟩);have l:(st++[O.dct []]).length=st.length+1:=by simp
 refine P _ ι' _ (by rw[l];exact E) S' ?_
 rw[<-e,l];exact .ref (aI _)
theorem cO.tup{xs:List D}(S:Sim K H ι st)(P:cO K H ι st (.ok (.tup xs) st) Q)(r:VRels K H ι st.length xs vs):∀p,H p=none->Q (.ref p) (bx H p (.tup vs)):=λp hp=>by
 have hK:∀n,n<st.length->ι n≠p:=λn hn=>by obtain⟨_,h,_⟩:=S.obj hn;exact aw h hp
 have E:Ext H (bx H p (.tup vs)) ι ι st.length st.length:=⟨⟨ae _,λ_ _=>rfl,λb xs e=>by rw[aD (aw e hp)];exact e,λb ob u e=>by rw[aD (aw e hp)];exact e⟩,λb ob e k=>⟨by rw[aD (aw e hp)];exact e,k⟩⟩
 refine P _ ι _ E ⟨S.inj,λn o e=>?_⟩ (.tup (gx.of bw) (r.ext E));have hn:n<st.length:=(aL e).1;have old:=S.ob n o e;exact old.move E.toExt0 (aD (hK n hn))
theorem VRel.seq{d:D}{xs:List D}(S:Sim K H ι st)(r:VRel K H ι st.length d v)(e:a8 st d=some xs):∃a vs,v=.ref a/\(ez K H a vs∨gx K H a vs)/\VRels K H ι st.length xs vs:=by
 cases r with
 |non=>cases e
 |bl b=>cases e
 |int i=>cases e
 |str x=>cases e
 |tup h r=>cases e;exact⟨_,_,rfl,.inr h,r⟩
 |fl h r=>cases e;exact⟨_,_,rfl,.inl h.sql,r⟩
 | @ref n hn=>
  simp only[a8] at e;cases q:st[n]? with
  |none=>rw[q] at e;cases e
  |some o=>
   rw[q] at e;cases o with
   |lst zs=>cases e;obtain⟨vs,h1,h2⟩:=S.ob n _ q;exact⟨_,vs,rfl,.inl (ez.of h1),h2⟩
   |_=>cases e
theorem VRels.inv1{d:D}(r:VRels K H ι st.length [d] vs):∃v,vs=[v]/\VRel K H ι st.length d v:=by
 cases r with
 |cons h t=>cases t;exact⟨_,rfl,h⟩
end
noncomputable def rD(K:al)(op:D->D->M D):R2:=λvx vy H Q=>∃ι st dx dy,Sim K H ι st/\VRel K H ι st.length dx vx/\VRel K H ι st.length dy vy/\cO K H ι st (op dx dy st) Q
noncomputable def Bo.op:Bo->Operator
 | .add=> .Add
 | .sub=> .Sub
 | .mul=> .Mult
 | .fdiv=> .FloorDiv
 | .mod=> .Mod
theorem uZ:kx X (binaryOp .FloorDiv) (rI (λ_ j=>j≠0/\j.natAbs<2^200) λi j=>.int (i.fdiv j)):=D1 λi j _ _ _ _ _ hc q=>floordiv_int hc.1 q (.inl (PyProof.noPylong_of_log2 (by
 have h0:j.natAbs≠0:=by have:=hc.1;omega
 have:j.natAbs.log2<200:=(Nat.log2_lt h0).mpr hc.2;omega)))
theorem vZ{t b:Addr}{ws:List Value}{Q:Value->Shared->Prop}(ht:IsTup s.heap t ([]:List Value).toArray)(hb:IsTup s.heap b ws.toArray)(h:Q (.ref b) s):wpAny (model prog w) A (binaryOp .Add (.ref t) (.ref b)) Q E s:=by
 obtain⟨⟨cls,dd,data,sl⟩,ho,hc,n,hd⟩:=id ht;obtain⟨⟨cls2,dd2,data2,sl2⟩,ho2,hc2,n2,hd2⟩:=id hb;simp only at hc hd hc2 hd2;subst hc hd hc2 hd2
 exact concat_meets ⟨_,ho,rfl⟩ ⟨_,ho2,rfl⟩ noFill_tuple_add seq_tuple_add PySem.F.slot_tuple_add PySem.F.entry_tuple_add (PySem.F.args_tuple_add_2 _ _)
   (tuple_addW0 t b _ ws.toArray n n2 dd dd2 sl sl2 (by simp)) ⟨ho,ho2,h⟩
theorem xp:kx X (binaryOp .Mult) (rI (λi j=>AV i j∨(i.natAbs<2^1000/\j.natAbs<2^1000)) λi j=>.int (i*j)):=D1 λ_ _ _ _ _ _ _ hc q=>mul_int q (by
 rcases hc with hc|hc
 ·exact hc.ok
 ·exact .of_bits (aT (PyProof.Rows.intBits_le hc.1) (by decide)) (aT (PyProof.Rows.intBits_le hc.2) (by decide)))
theorem zY(op:Bo):kx X (binaryOp op.op) (rD X.K (cz op)):=by
 intro pins s σ H vx vy ux uy Q I rx ry h;obtain⟨ι,st,dx,dy,S,hx,hy,P⟩:=h;have sz:sizeLine=16777216:=sizeLine_eq;cases op with
 |add=>cases dx with
  |int i=>cases dy with
   |int j=>cases hx;cases hy;exact zZ pins s σ H _ _ _ _ Q I rx ry ⟨_,_,rfl,rfl,cO.same S P (.int _)⟩
   |_=>exact False.elim P
  |tup as=>cases dy with
   |tup bs=>
    cases hx with
    |tup ha ra=>
     cases hy with
     |tup hb rb=>
      cases as with
      |nil=>cases ra;cases rx;cases ry;obtain⟨its,r1,p1,_⟩:=I.tuple ha;obtain⟨its2,r2,p2,_⟩:=I.tuple hb;cases r1;exact vZ p1 p2 ⟨.ref _,H,I,rfl,cO.same S P (.tup hb rb)⟩
      |cons a as=>
       simp only[cz,addD] at P;split at P
       ·rename_i hl;have l1:=ra.length;have l2:=rb.length;refine xr pins s σ H _ _ _ _ Q I rx ry ⟨_,_,_,_,rfl,rfl,ha,hb,?_,by omega,λe=>?_,λe=>P.tup S (ra.append rb)⟩
        ·intro z;rw[z] at l1;simp at l1
        ·subst e;cases rb;rw[List.append_nil] at P;exact P.same S (.tup ha ra)
       ·exact False.elim P
   |_=>exact False.elim P
  |ref m=>cases dy with
   |ref n=>
    simp only[cz,addD] at P;split at P
    ·rename_i as bs e1 e2;split at P
     ·rename_i hl;cases hx with
      |ref h1=>
       cases hy with
       |ref h2=>
        obtain⟨v1,g1,r1⟩:=S.ob _ _ e1;obtain⟨v2,g2,r2⟩:=S.ob _ _ e2;have l1:=r1.length;have l2:=r2.length;exact zX pins s σ H _ _ _ _ Q I rx ry ⟨_,_,_,_,rfl,rfl,g1,g2,by omega,P.alloc S (r1.append r2)⟩
     ·exact False.elim P
    ·exact False.elim P
   |_=>exact False.elim P
  |_=>exact False.elim P
 |sub=>cases dx with
  |int i=>cases dy with
   |int j=>cases hx;cases hy;exact zW pins s σ H _ _ _ _ Q I rx ry ⟨_,_,rfl,rfl,cO.same S P (.int _)⟩
   |_=>exact False.elim P
  |_=>exact False.elim P
 |mul=>cases dx with
  |int i=>cases dy with
   |int j=>
    simp only[cz,u4] at P;split at P
    ·rename_i hc;cases hx;cases hy;exact xp pins s σ H _ _ _ _ Q I rx ry ⟨_,_,rfl,rfl,hc,P.same S (.int _)⟩
    ·exact False.elim P
   |_=>exact False.elim P
  |tup xs=>cases dy with
   |int j=>cases xs with
    |nil=>exact False.elim P
    |cons a as=>
     simp only[cz,u4] at P;cases hx with
     |tup ha ra=>
      cases hy;split at P
      ·rename_i hj;subst hj;exact rJ pins s σ H _ _ _ _ Q I rx ry ⟨_,_,_,rfl,rfl,ha,(by cases ra;simp),.inl ⟨rfl,P.same S (.tup ha ra)⟩⟩
      ·split at P
       ·rename_i hj;subst hj;exact rJ pins s σ H _ _ _ _ Q I rx ry ⟨_,_,_,rfl,rfl,ha,(by cases ra;simp),.inr ⟨rfl,P.tup S .nil⟩⟩
       ·exact False.elim P
   |_=>exact False.elim P
  |_=>exact False.elim P
 |fdiv=>cases dx with
  |int i=>cases dy with
   |int j=>
    simp only[cz,ii] at P;split at P
    ·rename_i hc;cases hx;cases hy;exact uZ pins s σ H _ _ _ _ Q I rx ry ⟨_,_,rfl,rfl,hc,P.same S (.int _)⟩
    ·exact False.elim P
   |_=>exact False.elim P
  |_=>exact False.elim P
 |mod=>cases dx with
  |int i=>cases dy with
   |int j=>
    simp only[cz,ii] at P;split at P
    ·rename_i hc;cases hx;cases hy;exact xq pins s σ H _ _ _ _ Q I rx ry ⟨_,_,rfl,rfl,hc,P.same S (.int _)⟩
    ·exact False.elim P
   |_=>exact False.elim P
  |_=>exact False.elim P
open Classical in
noncomputable def sV(K:al)(H:Hp)(ι:Nat->Addr)(st:aK)(x:D)(z:Value):Bool:=if h:∃d,At K H ι st.length d z then(gJ 60 st h.choose x).getD false else false
theorem AF{st:aK}(I:Inv X pins σ H s)(S:Sim X.K H ι st){x y:D}(h:At X.K H ι st.length y u):sV X.K H ι st x u=(gJ 60 st y x).getD false:=by unfold sV;have h':∃d,At X.K H ι st.length d u:=⟨y,h⟩;rw[dif_pos h',h'.choose_spec.uniq I S h]
theorem lP{X:Cx}{pins:List (Addr×Obj)}{σ:L2.St}{H:Hp}{s:Shared}{ι:Nat->Addr}{st:aK}(I:Inv X pins σ H s)(S:Sim X.K H ι st){x:D}{ux:Value}{A:Around}(hx:At X.K H ι st.length x ux)(hu:A.units+60<cLine):
  ∀{ys:List D}{us:List Value}{k:Bool},e8 st x ys=some k->yb X.K H ι st.length ys us->(∀u∈us,SeqAt.EqAt A s u ux (sV X.K H ι st x u))/\us.any (sV X.K H ι st x)=k
 |[],us,k,h,r=>by
  have l:=r.length;cases us with
  |cons _ _=>simp at l
  |nil=>exact⟨λu hu=>(by cases hu),ag h⟩
 |y::ys,us,k,h,r=>by
  have l:=r.length;cases us with
  |nil=>simp at l
  |cons u us=>
   obtain⟨_,r1,q1⟩:=r;cases q1 with
   |cons w1 w2=>
    cases r1 with
    |cons m1 m2=>
     unfold e8 at h;cases e1:gJ 60 st y x with
     |none=>rw[e1] at h;simp at h
     |some a=>
      cases e2:e8 st x ys with
      |none=>rw[e1,e2] at h;simp at h
      |some b=>
       rw[e1,e2] at h;obtain⟨he,hk⟩:=lP I S hx hu e2 ⟨_,m2,w2⟩;obtain⟨_,_,hE⟩:=nP I S 60 (A:=A) e1 ⟨_,m1,w1⟩ hx hu;have ea:sV X.K H ι st x u=a:=by rw[AF I S ⟨_,m1,w1⟩,e1];rfl
       refine⟨λz hz=>?_,?_⟩
       ·rcases List.mem_cons.mp hz with rfl|hz
        ·rw[ea];exact hE
        ·exact he z hz
       ·rw[List.any_cons,ea,hk];exact ag h
theorem DRels.look{K:al}{k:Key}{kvs:List (Key×D)}{vs:List (Key×V)}(h:DRels K H ι m kvs vs):
  (match fE kvs k with|some d=>∃v,fM vs k=some v/\VRel K H ι m d v|none=>fM vs k=none):=by
 induction h with
 |nil=>exact tM
 | @cons k' d v ds vs hv t ih=>
  unfold fE;by_cases e:k'=k
  ·rw[if_pos e];exact⟨v,gQ e,hv⟩
  ·rw[if_neg e,eW (p:=(k',v)) (r:=vs) e];exact ih
theorem nE{K:al}{x:D}{k:Key}(h:k9 x=some k)(r:VRel K H ι m x v):v=kV k:=by cases r<;>cases h<;>rfl
theorem vj{K:al}{x y:D}{k:Bool}(e:Dl x y=some k)(hx:VRel K H ι m x vx)(hy:VRel K H ι m y vy)(rx:RelV vx ux)(ry:RelV vy uy):plainIs ux uy=true/\(ux==uy)=k:=by
 unfold Dl at e;split at e
 ·cases hy;cases ry;have e:=ag e;subst e;cases hx with
  |non=>cases rx;exact⟨rfl,rfl⟩
  |bl b=>cases rx;exact⟨rfl,rfl⟩
  |int i=>obtain⟨t,rfl⟩:=rx;exact⟨rfl,rfl⟩
  |str i=>obtain⟨t,rfl⟩:=rx;exact⟨rfl,rfl⟩
  |tup _ _=>cases rx;exact⟨rfl,rfl⟩
  |fl _ _=>cases rx;exact⟨rfl,rfl⟩
  |ref _=>cases rx;exact⟨rfl,rfl⟩
 ·cases e
theorem mO{K:al}{st:aK}{x y:D}{k:Bool}(S:Sim K H ι st)(e:gm st x y=some k)(hx:VRel K H ι st.length x vx)(hy:VRel K H ι st.length y vy):∃a o,vy=.ref a/\mn H a vx o/\o.isSome=k:=by
 unfold gm at e;split at e
 ·rename_i s n hk;split at e
  ·rename_i kvs q;have e:=ag e;subst e;have hv:=nE hk hx;subst hv;cases hy;obtain⟨vs,h1,r⟩:=S.ob _ _ q;refine⟨_,_,rfl,mn.k (k:=s) h1,?_⟩;have l:=r.look (k:=s);cases q2:fE kvs s with
   |none=>rw[q2] at l;rw[show fM vs s=none from l];rfl
   |some d=>rw[q2] at l;obtain⟨v,l,_⟩:=l;rw[show fM vs s=some v from l];rfl
  ·cases e
 ·cases e
theorem jx(hu:X.A.units+100<cLine)(op:CmpOp):kx X (compareOp op) (rD X.K (cx op)):=by
 intro pins s σ H vx vy ux uy Q I rx ry h;obtain⟨ι,st,dx,dy,S,hx,hy,P⟩:=h;have ax:At X.K H ι st.length dx ux:=⟨_,hx,rx⟩;have ay:At X.K H ι st.length dy uy:=⟨_,hy,ry⟩;unfold cx at P;split at P
 ·split at P
  ·rename_i k e;obtain⟨h1,_,_⟩:=nP I S 60 (A:=X.A) e ax ay (by omega)
   exact h1 _ _ _ _ ⟨.bl k,H,I,rfl,P.same S (.bl k)⟩
  ·exact False.elim P
 ·split at P
  ·rename_i k e;obtain⟨_,h1,_⟩:=nP I S 60 (A:=X.A) e ax ay (by omega)
   exact h1 _ _ _ _ ⟨.bl (!k),H,I,rfl,P.same S (.bl (!k))⟩
  ·exact False.elim P
 ·split at P
  ·cases hx;cases hy;exact Ca pins s σ H _ _ _ _ Q I rx ry ⟨_,_,rfl,rfl,P.same S (.bl _)⟩
  ·exact False.elim P
 ·split at P
  ·cases hx;cases hy;exact Cb pins s σ H _ _ _ _ Q I rx ry ⟨_,_,rfl,rfl,P.same S (.bl _)⟩
  ·exact False.elim P
 ·split at P
  ·cases hx;cases hy;exact Cc pins s σ H _ _ _ _ Q I rx ry ⟨_,_,rfl,rfl,P.same S (.bl _)⟩
  ·exact False.elim P
 ·split at P
  ·rename_i ys es;split at P
   ·rename_i k ek;obtain⟨a,vs,rfl,hq,rv⟩:=hy.seq S es;cases ry;rcases hq with hq|hq
    ·obtain⟨its,r',pl,hz⟩:=I.list hq;obtain⟨hE,hk⟩:=lP I S (A:=X.A.in1) ax (by show X.A.units+1+60<cLine;omega) ek ⟨_,rv,r'⟩
     refine SeqAt.in_listAt _ pl.isList (λw hw=>hE w (by simpa using hw)) ⟨.bl _,H,I,rfl,?_⟩
     rw[show its.toArray.any (sV X.K H ι st dx)=its.any (sV X.K H ι st dx) by simp,hk]
     exact P.same S (.bl k)
    ·obtain⟨its,r',pl,hz⟩:=I.tuple hq;obtain⟨hE,hk⟩:=lP I S (A:=X.A.in1) ax (by show X.A.units+1+60<cLine;omega) ek ⟨_,rv,r'⟩
     refine SeqAt.in_tupleAt _ pl (λw hw=>hE w (by simpa using hw)) ⟨.bl _,H,I,rfl,?_⟩
     rw[show its.toArray.any (sV X.K H ι st dx)=its.any (sV X.K H ι st dx) by simp,hk]
     exact P.same S (.bl k)
   ·exact False.elim P
  ·split at P
   ·rename_i k ek;obtain⟨a,o,rfl,g,ho⟩:=mO S ek hx hy;cases ry;refine Ek (by omega) I g rx λs' I'=>⟨.bl k,H,I',by rw[ho];rfl,P.same S (.bl k)⟩
   ·exact False.elim P
 ·split at P
  ·rename_i ys es;split at P
   ·rename_i k ek;obtain⟨a,vs,rfl,hq,rv⟩:=hy.seq S es;cases ry;rcases hq with hq|hq
    ·obtain⟨its,r',pl,hz⟩:=I.list hq;obtain⟨hE,hk⟩:=lP I S (A:=X.A.in1) ax (by show X.A.units+1+60<cLine;omega) ek ⟨_,rv,r'⟩
     refine SeqAt.notIn_listAt _ pl.isList (λw hw=>hE w (by simpa using hw)) ⟨.bl _,H,I,rfl,?_⟩
     rw[show its.toArray.any (sV X.K H ι st dx)=its.any (sV X.K H ι st dx) by simp,hk]
     exact P.same S (.bl (!k))
    ·obtain⟨its,r',pl,hz⟩:=I.tuple hq;obtain⟨hE,hk⟩:=lP I S (A:=X.A.in1) ax (by show X.A.units+1+60<cLine;omega) ek ⟨_,rv,r'⟩
     refine SeqAt.notIn_tupleAt _ pl (λw hw=>hE w (by simpa using hw)) ⟨.bl _,H,I,rfl,?_⟩
     rw[show its.toArray.any (sV X.K H ι st dx)=its.any (sV X.K H ι st dx) by simp,hk]
     exact P.same S (.bl (!k))
   ·exact False.elim P
  ·split at P
   ·rename_i k ek;obtain⟨a,o,rfl,g,ho⟩:=mO S ek hx hy;cases ry;refine xW (by omega) I g rx λs' I'=>⟨.bl (!k),H,I',by rw[ho];rfl,P.same S (.bl (!k))⟩
   ·exact False.elim P
 ·split at P
  ·rename_i k e;obtain⟨h1,h2⟩:=vj e hx hy rx ry;exact wpAny_is_plain h1 ⟨.bl k,H,I,by rw[h2];rfl,P.same S (.bl k)⟩
  ·exact False.elim P
 ·split at P
  ·rename_i k e;obtain⟨h1,h2⟩:=vj e hx hy rx ry;exact wpAny_isNot_plain h1 ⟨.bl (!k),H,I,by rw[h2];rfl,P.same S (.bl (!k))⟩
  ·exact False.elim P
 ·exact False.elim P
theorem x8{K:al}{ds:List D}{i:Int}{d:D}(r:VRels K H ι m ds vs)(e:iH ds i=some d):∃v,iH vs i=some v/\VRel K H ι m d v:=by
 unfold iH at e ⊢;rw[<-r.length];cases q:sN ds.length i with
 |none=>rw[q] at e;cases e
 |some j=>rw[q] at e;exact r.get e
theorem vV(hu:X.A.units+100<cLine){value slice:Expr}{st:aK}{dx:D}{k:Key}(I:L2.Inv X pins σ H s)(S:Sim X.K H ι st)(hx:VRel X.K H ι st.length dx vx)
  (rx:RelV vx ux)(ry:RelV (kV k) uy)(hs:subscripted slice false ux uy=operate [ux,uy] (getItem ux uy))(P:cO X.K H ι st (tj st dx k) Q):wpAny (model X.prog X.w) X.A (subscriptTail value slice ux uy) (EP X pins σ Q) X.xe s:=by
 unfold tj at P;split at P
 ·rename_i n;split at P
  ·rename_i kvs e1;split at P
   ·rename_i d ek;cases hx;cases rx;obtain⟨vs,h1,r⟩:=S.ob _ _ e1;have l:=r.look (k:=k);rw[ek] at l;obtain⟨w,ew,rw'⟩:=l;have g:mn H (ι n) (kV k) (some w):=by rw[<-ew];exact mn.k (k:=k) h1
    exact tail_any (pf I g) PySem.F.slot_dict_getitem.lookup (sX (by omega) I g ry λw' s' I' rw2=>⟨w,H,I',rw2,P.same S rw'⟩) hs
   ·exact False.elim P
  ·exact False.elim P
 ·exact False.elim P
theorem D5(hu:X.A.units+100<cLine):Dc X (rD X.K index):=by
 intro value slice pins s σ H vx vy ux uy Q I rx ry h hs;obtain⟨ι,st,dx,dy,S,hx,hy,P⟩:=h;have sz:sizeLine=16777216:=sizeLine_eq;unfold index at P;split at P
 ·split at P
  ·rename_i xs es;split at P
   ·rename_i d ed;cases hy;obtain⟨a,vs,rfl,hq,rv⟩:=hx.seq S es;obtain⟨w,ew,rw'⟩:=x8 rv ed;rcases hq with hq|hq
    ·exact xA value slice pins s σ H _ _ _ _ Q I rx ry ⟨_,_,_,_,rfl,rfl,hq,ew,P.same S rw'⟩ hs
    ·exact Al value slice pins s σ H _ _ _ _ Q I rx ry ⟨_,_,_,_,rfl,rfl,hq,ew,P.same S rw'⟩ hs
   ·exact False.elim P
  ·cases hy;exact vV (k:= .inl _) hu I S hx rx ry hs P
 ·cases hy;exact vV (k:= .inr _) hu I S hx rx ry hs P
 ·exact False.elim P
noncomputable def Ty.name:Ty->String
 | .int=> "int"
 | .bool=> "bool"
 | .list=> "list"
 | .tuple=> "tuple"
theorem Am{st:aK}{d:D}{t:Ty}{k:Bool}(I:Inv X pins σ H s)(S:Sim X.K H ι st)(hv:VRel X.K H ι st.length d v)(r:RelV v u)
  (e:i0 st t d=some k)(q:Q (.bl k) H):wpAny (model X.prog X.w) X.A (call (.builtin "isinstance") [u,.type t.name]) (EP X pins σ Q) X.xe s:=by
 have fin:∀tk,EP X pins σ Q (.bool k) {s with toks:=tk}:=λtk=>⟨.bl k,H,I.tok _,rfl,q⟩;have fin0:EP X pins σ Q (.bool k) s:=⟨.bl k,H,I,rfl,q⟩;cases hv with
 |non=>
  cases r;cases e;cases t
  ·exact call_isinstance (isinstance_false_none (by decide+kernel) F.isi_meta_int F.sub_NoneType_int) (fin _)
  ·exact call_isinstance (isinstance_false_none (by decide+kernel) F.isi_meta_bool F.sub_NoneType_bool) (fin _)
  ·exact call_isinstance (isinstance_false_none (by decide+kernel) F.isi_meta_list F.sub_NoneType_list) (fin _)
  ·exact call_isinstance (isinstance_false_none (by decide+kernel) F.isi_meta_tuple F.sub_NoneType_tuple) (fin _)
 |bl b=>
  cases r;cases t
  ·cases e;exact IsiPair.bool_int fin0
  ·cases e;exact IsiPair.bool_bool fin0
  ·cases e;exact IsiPair.bool_list (fin _)
  ·cases e;exact IsiPair.bool_tuple (fin _)
 |int i=>
  obtain⟨tk,rfl⟩:=r;cases t
  ·cases e;exact IsiPair.int_int fin0
  ·cases e;exact IsiPair.int_bool (fin _)
  ·cases e;exact IsiPair.int_list (fin _)
  ·cases e;exact IsiPair.int_tuple (fin _)
 |str x=>
  obtain⟨tk,rfl⟩:=r;cases t
  ·cases e;exact IsiPair.str_int (fin _)
  ·cases e;exact IsiPair.str_bool (fin _)
  ·cases e;exact IsiPair.str_list (fin _)
  ·cases e;exact IsiPair.str_tuple (fin _)
 |tup h _=>
  cases r;obtain⟨_,_,⟨o,h1,h2,_⟩,_⟩:=I.tuple h;cases t
  ·cases e;exact IsiPair.tuple_int h1 h2 (fin _)
  ·cases e;exact IsiPair.tuple_bool h1 h2 (fin _)
  ·cases e;exact IsiPair.tuple_list h1 h2 (fin _)
  ·cases e;exact IsiPair.tuple_tuple h1 h2 fin0
 |fl h _=>
  cases r;obtain⟨_,_,p,_⟩:=I.list h.sql;obtain⟨o,h1,h2,_⟩:=p.isList;cases t
  ·cases e;exact IsiPair.list_int h1 h2 (fin _)
  ·cases e;exact IsiPair.list_bool h1 h2 (fin _)
  ·cases e;exact IsiPair.list_list h1 h2 fin0
  ·cases e;exact IsiPair.list_tuple h1 h2 (fin _)
 | @ref n hn=>
  cases r;simp only[i0] at e;cases q':st[n]? with
  |none=>rw[q'] at e;cases e
  |some ob=>
   rw[q'] at e;have ho:=S.ob n ob q';cases ob with
   |lst xs=>
    obtain⟨vs,g1,g2⟩:=ho;obtain⟨_,_,p,_⟩:=I.list (ez.of g1);obtain⟨o,h1,h2,_⟩:=p.isList;cases t
    ·cases e;exact IsiPair.list_int h1 h2 (fin _)
    ·cases e;exact IsiPair.list_bool h1 h2 (fin _)
    ·cases e;exact IsiPair.list_list h1 h2 fin0
    ·cases e;exact IsiPair.list_tuple h1 h2 (fin _)
   |dct kvs=>
    obtain⟨ws,ho,_⟩:=ho;obtain⟨_,_,_,_,o,es,ep,h1,h2,_⟩:=(show cN X.prog X.w H s.heap (ι n) (.dK ws) from I.hok _ _ ho);cases t
    ·cases e;exact IsiPair.dict_int h1 h2.1 (fin _)
    ·cases e;exact IsiPair.dict_bool h1 h2.1 (fin _)
    ·cases e;exact IsiPair.dict_list h1 h2.1 (fin _)
    ·cases e;exact IsiPair.dict_tuple h1 h2.1 (fin _)
   |_=>cases e
theorem r_{K:al}{ds:List D}(r:VRels K H ι m ds vs)(lo hi:Option Int):VRels K H ι m (cutD ds lo hi) (pi vs lo hi):=by unfold cutD pi;rw[<-r.length];exact(r.drop _).take _
theorem DN:Do X (λvx lo hi H Q=>∃ι st dx,Sim X.K H ι st/\VRel X.K H ι st.length dx vx/\cO X.K H ι st (slice dx lo hi st) Q):=by
 intro pins s σ H x v vl vu lo hi sl Q I rx hs pl pu h;obtain⟨ι,st,dx,S,hx,P⟩:=h;have sz:sizeLine=16777216:=sizeLine_eq;unfold slice at P;split at P
 ·split at P
  ·exact False.elim P
  ·rename_i hw;cases hx with
   |tup ha ra=>
    exact y4 pins s σ H _ v vl vu lo hi sl Q I rx hs pl pu ⟨_,_,rfl,ha,by rw[<-ra.length];exact hw,P.tup S (r_ ra lo hi)⟩
 ·split at P
  ·rename_i xs es;obtain⟨a,vs,rfl,hq,rv⟩:=hx.seq S es;rcases hq with hq|hq
   ·exact wK pins s σ H _ v vl vu lo hi sl Q I rx hs pl pu ⟨_,_,rfl,hq,P.alloc S (r_ rv lo hi)⟩
   ·exfalso;cases hx with
    |tup _ _=>exact(‹∀bs:List D,¬D.tup _=D.tup bs› _) rfl
    |fl h _=>exact pX I hq h.sql
    |ref h=>
     obtain⟨u,e',n1,n2⟩:=S.obj h;rcases m8 I hq with⟨_,e⟩|⟨_,_,e⟩|e<;>rw[e] at e'<;>first|(cases e';done)|(cases e';exact absurd rfl (n1 _))|(cases e';exact absurd rfl (n2 _ _))
  ·exact False.elim P
noncomputable def rB(K:al)(f:Bt):List V->Hp->VK->Prop:=λvs H Q=>∃ι st ds,Sim K H ι st/\VRels K H ι st.length ds vs/\cO K H ι st (jL f ds st) Q
noncomputable def Bt.val:Bt->Value
 | .len=>.builtin "len"
 | .list=>.type "list"
 | .tuple=>.type "tuple"
 | .all=>.builtin "all"
 | .dict=>.type "dict"
 | .sum=>.builtin "sum"
theorem si{K:al}{H:Hp}{ι:Nat->Addr}{m:Nat}:∀{ds:List D}{vs:List V}{us:List Value}{k:Bool},allB ds=some k->VRels K H ι m ds vs->bm vs us->∃tr:Nat->Bool,(∀(i:Nat)(u:Value),us[i]? =some u->u=Value.bool (tr i))/\(List.range us.length).all tr=k
 |[],_,_,k,e,r,q=>by
  cases r;cases q;exact⟨λ_=>true,λi u h=>by simp at h,ag e⟩
 |d::ds,_,_,k,e,r,q=>by
  cases r with
  |cons r1 r2=>
   cases q with
   |cons q1 q2=>
    cases r1 with
    |bl b=>
     simp only[allB] at e;cases e1:allB ds with
     |none=>rw[e1] at e;cases e
     |some k'=>
      rw[e1] at e;obtain⟨tr,h1,h2⟩:=si e1 r2 q2;cases q1;refine⟨λj=>match j with|0=>b|j+1=>tr j,λi u h=>?_,?_⟩
      ·cases i with
       |zero=>simp at h;exact h.symm
       |succ i=>exact h1 i u (by simpa using h)
      ·rw[List.length_cons];refine(show _=_ from all_cons (e:=tr) (x:=b)).trans ?_;rw[h2];exact ag e
    |_=>cases e
theorem qC(hc:X.calm=true):h_ X (.builtin "all") (λxs H Q=>∃a vs us k,xs=[.ref a]/\ez X.K H a vs/\(∀its,bm vs its->∃tr:Nat->Bool,(∀(i:Nat)(u:Value),its[i]? =some u->u=Value.bool (tr i))/\(List.range its.length).all tr=k)/\us=k/\Q (.bl k) H):=by
 intro pins s σ H xs us Q I r h;obtain⟨a,vs,_,k,rfl,hq,htr,_,q⟩:=h;obtain⟨u,rfl,rx⟩:=vals1 r;cases rx;obtain⟨its,r',pl,hz⟩:=I.list hq;obtain⟨tr,h1,h2⟩:=htr its r';have hlt:a<s.heap.objs.size:=by obtain⟨_,e,_⟩:=pl.isList;exact ai e
 refine call_all_walk (wpAny_pyIter_list pl.isList ?_);refine⟨s.heap.objs.size,_,_,_,_,_,tr,rfl,Walks.list (A:=X.A.in1) (I.ok.hd hc) s.heap.objs.size a (aj hlt) its.toArray,⟨⟨_,ak _ rfl,rfl,rfl⟩,pl.isList.push _⟩,λi v s' Q' E' hP hQ=>?_,λh' tk hk=>?_⟩
 ·rw[h1 i v (by simpa using hP)]
  exact wpAny_truthy_bool hQ
 ·rw[List.size_toArray,h2];refine⟨.bl k,H,?_,rfl,q⟩;have I1:Inv X pins σ H {s with heap:=s.heap.push {cls:= .type "list_iterator",data:= .fields #[.ref a,.int 0 0]}}:=I.kept (t':=s.toks) λb o e=>ac _ e;refine I.kept (t':=tk) λb o e=>hk b o (λz=>?_) (ac _ e);have zb:b=s.heap.objs.size:=by simpa using z
  rw[zb] at e;exact absurd (ai e) (bz _)
theorem qT{K:al}{H:Hp}{ι:Nat->Addr}{m:Nat}:∀{ds:List D}{vs:List V}{us:List Value}{k:Int},pT ds=some k->VRels K H ι m ds vs->bm vs us->∃ns,IntsAre us ns/\ns.sum=k
 |[],_,_,k,e,r,q=>by cases r;cases q;exact⟨[],.nil,ag e⟩
 |d::ds,_,_,k,e,r,q=>by
  cases r with
  |cons r1 r2=>
   cases q with
   |cons q1 q2=>
    cases r1 with
    |int i=>
     obtain⟨k',e1,rfl⟩:=map_some e;obtain⟨ns,h1,rfl⟩:=qT e1 r2 q2;obtain⟨t,rfl⟩:=q1;exact⟨i::ns,.cons i t h1,by simp⟩
    |_=>cases e
theorem qz(hc:X.calm=true):h_ X (.builtin "sum") (λxs H Q=>∃a vs k,xs=[.ref a]/\ez X.K H a vs/\(∀its,bm vs its->∃ns,IntsAre its ns/\ns.sum=k)/\Q (.int k) H):=by
 intro pins s σ H xs us Q I r h;obtain⟨a,vs,k,rfl,hq,hns,q⟩:=h;obtain⟨u,rfl,rx⟩:=vals1 r;cases rx;obtain⟨its,r',pl,hz⟩:=I.list hq;obtain⟨ns,h1,rfl⟩:=hns its r';obtain⟨xs,e⟩:=h1.allInts.items;have h2:=h1.numsOf;have pl':=pl.isList;rw[e] at pl';refine sum_intListG (I.ok.hd hc) pl' λh' tk t' hk=>⟨.int ns.sum,H,I.kept (t':=tk) hk,?_,q⟩;rw[preSum_eq,List.take_of_length_le (by simp),<-nums_intItems,<-e,show its.toArray.toList=its from rfl,h2]
 exact⟨_,rfl⟩
theorem AL(hc:X.calm=true)(f:Bt):h_ X f.val (rB X.K f):=by
 intro pins s σ H xs us Q I r h;obtain⟨ι,st,ds,S,rv,P⟩:=h;have sz:sizeLine=16777216:=sizeLine_eq;cases ds with
 |nil=>exact False.elim P
 |cons x ds=>cases ds with
  |cons=>exact False.elim P
  |nil=>
  obtain⟨v,rfl,hv⟩:=rv.inv1;have P:cO X.K H ι st (lW f x st) Q:=P;cases f with
  |len=>
   simp only[lW] at P;split at P
   ·rename_i ys es;obtain⟨a,vs,rfl,hq,rr⟩:=hv.seq S es;exact nU pins s σ H _ us Q I r ⟨_,_,rfl,hq,by rw[<-rr.length];exact P.same S (.int _)⟩
   ·exact False.elim P
  |list=>
   simp only[lW] at P;split at P
   ·rename_i ys es;obtain⟨a,vs,rfl,hq,rr⟩:=hv.seq S es;exact nT pins s σ H _ us Q I r ⟨_,_,rfl,hq,P.alloc S rr⟩
   ·exact False.elim P
  |tuple=>
   simp only[lW] at P;split at P
   ·rename_i ys es;obtain⟨a,vs,rfl,hq,rr⟩:=hv.seq S es;rcases hq with hq|hq
    ·exact iG pins s σ H _ us Q I r ⟨_,_,rfl,.inl ⟨hq,P.tup S rr⟩⟩
    ·exact iG pins s σ H _ us Q I r ⟨_,_,rfl,.inr ⟨hq,P.same S (.tup hq rr)⟩⟩
   ·exact False.elim P
  |all=>cases x with
   |ref n=>
    simp only[lW] at P;split at P
    ·rename_i ys es;split at P
     ·rename_i k ek;cases hv with
      |ref hn=>obtain⟨vs,g1,g2⟩:=S.ob _ _ es;exact qC hc pins s σ H _ us Q I r ⟨_,_,_,k,rfl,ez.of g1,λits q=>si ek g2 q,rfl,P.same S (.bl k)⟩
     ·exact False.elim P
    ·exact False.elim P
   |_=>exact False.elim P
  |dict=>cases x with
   |ref n=>
    simp only[lW] at P;split at P
    ·rename_i kvs es;cases hv with
     |ref hn=>
      obtain⟨vs,g1,g2⟩:=S.ob _ _ es;obtain⟨u,rfl,ru⟩:=vals1 r;cases ru;refine vW I (.inl g1) λp s' hp I'=>⟨.ref p,_,I',rfl,?_⟩;obtain⟨ι',E,e,S'⟩:=S.laid (o:= .dct kvs) (ho:= .dK vs) hp (λι' h1 h2=>⟨vs,bw,g2.ext0 ⟨Nat.le_succ _,h1,λb xs e=>by rw[aD (aw e hp)];exact e,λb ob u e=>by rw[aD (aw e hp)];exact e⟩⟩)
      have l:(st++[O.dct kvs]).length=st.length+1:=by simp
      refine P _ ι' _ (by rw[l];exact E) S' ?_
      rw[<-e,l];exact .ref (aI _)
    ·exact False.elim P
   |_=>exact False.elim P
  |sum=>cases x with
   |ref n=>
    simp only[lW] at P;split at P
    ·rename_i ys es;split at P
     ·rename_i k ek;cases hv with
      |ref hn=>obtain⟨vs,g1,g2⟩:=S.ob _ _ es;exact qz hc pins s σ H _ us Q I r ⟨_,_,k,rfl,ez.of g1,λits q=>qT ek g2 q,P.same S (.int k)⟩
     ·exact False.elim P
    ·exact False.elim P
   |_=>exact False.elim P
structure ICl where
 x:Str
 flds:List Str
 mts:List (Str×Nat)
structure Tab where
 fns:List Str
 csts:List (Str×D)
 calm:Bool
 icl:List ICl
 mks:List (Str×Nat)
 ums:List (Str×Str×Nat)
 gds:List (Str×List (Str×D))
noncomputable def Tab.ics(T:Tab)(f:Str):List Str:=(T.icl.filter λc=>c.flds.contains f).map (·.x)
noncomputable def Tab.ims(T:Tab)(m:Str):List (Str×Nat):=T.icl.filterMap λc=>(c.mts.lookup m).map λj=>(c.x,j)
noncomputable def gE:List Str->Str->Option Nat
 |[],_=>none
 |y::r,x=>if y=x then some 0 else(gE r x).map (· +1)
theorem dw:∀{N:List Str}{x:Str}{i:Nat},gE N x=some i->N[i]? =some x
 |[],_,_,h=>by cases h
 |y::r,x,i,h=>by
  unfold gE at h;split at h
  ·rename_i e;cases h;rw[e];rfl
  ·cases q:gE r x with
   |none=>rw[q] at h;cases h
   |some j=>rw[q] at h;have:j+1=i:=ag h;subst this;simpa using dw q
noncomputable def AM:List (Str×Bt):=[("len",.len),("list",.list),("tuple",.tuple),("all",.all),("dict",.dict),("sum",.sum)]
noncomputable def wy:List (Str×Ty):=[("int",.int),("bool",.bool),("list",.list),("tuple",.tuple)]
noncomputable def tf:List Str:=["reversed","enumerate","len","list","tuple","int","all","bool","dict","isinstance","range","zip","sum"]
noncomputable def C3:Operator->Option Bo
 | .Add=>some .add
 | .Sub=>some .sub
 | .Mult=>some .mul
 | .FloorDiv=>some .fdiv
 | .Mod=>some .mod
 |_=>none
noncomputable def dR(sc scope:Scope)(N:List Str)(x:Str):Bool:=
 (scope.kind== .function)&&(scope.names.lookup x==some .local)&& !(N.contains x)&&(x != "__debug__")&&(x != "__classdict__")&&
 scope.names.all λy=>(y.2 != .cell)&&(y.2 != .local||(scope.names.lookup y.1==some .local&& !(N.contains y.1)))&&(y.2 != .free||sc.names.lookup y.1==some .cell||sc.names.lookup y.1==some .free)
noncomputable def db(sc scope:Scope)(N:List Str)(x y:Str):Bool:=
 dR sc scope N x&&(scope.names.lookup y==some .local)&& !(N.contains y)&&(x !=y)&&(y != "__debug__")&&(y != "__classdict__")
noncomputable def ju(sc scope:Scope):Scope:=
 {scope with names:=scope.names.map λ(n,k)=>if(k== .free&&sc.kind== .function&&sc.names.lookup n==some .cell) then(n,.cell) else(n,k)}
noncomputable def wv:List (Str×Str×Nat)->Str->Str->Option Nat
 |[],_,_=>none
 |(a,b,j)::r,x,m=>if a=x/\b=m then some j else wv r x m
theorem n_:∀{l:List (Str×Str×Nat)}{x m:Str}{j:Nat},wv l x m=some j->(x,m,j)∈l
 |[],_,_,_,h=>by cases h
 |(a,b,i)::r,x,m,j,h=>by
  unfold wv at h;split at h
  ·rename_i e;cases h;obtain⟨rfl,rfl⟩:=e;exact .head _
  ·exact .tail _ (n_ h)
noncomputable def be(sc:Scope)(x:Str):Bool:=sc.names.lookup x==some .globalImplicit
noncomputable def gS:Expr->Bool
 | .Slice .. =>false
 |_=>true
noncomputable def wb:Expr->Option Str
 | .Name x _=>some x
 |_=>none
theorem eF(h:wb e=some x):∃p,e= .Name x p:=by cases e<;>cases h;exact⟨_,rfl⟩
noncomputable def x0:Expr->Option (Str×List Expr)
 | .Call f as ks _=>(match ks with
  |[]=>(wb f).map λx=>(x,as)
  |_=>none)
 |_=>none
theorem lO{as:List Expr}(h:x0 e=some (x,as)):∃p q,e= .Call (.Name x p) as [] q:=by
 cases e with
 |Call f as ks q=>
  cases ks with
  |nil=>obtain⟨y,h1,h2⟩:=map_some h;cases h2;obtain⟨p,rfl⟩:=eF h1;exact⟨p,q,rfl⟩
  |cons=>cases h
 |_=>cases h
noncomputable def mR(e:Expr):Option (Str×Expr):=(x0 e).bind λp=>(one p.2).map λa=>(p.1,a)
theorem iq{r:Str}(h:mR e=some (r,a)):∃p q,e= .Call (.Name r p) [a] [] q:=by obtain⟨⟨x,as⟩,h1,h⟩:=bs h;obtain⟨b,h2,h3⟩:=map_some h;cases h3;cases dv h2;exact lO h1
noncomputable def BF:Option Expr->Option Str
 |some (.Constant c _ _)=>(match c with
  | .str k=>some k
  |_=>none)
 |_=>none
theorem tX{o:Option Expr}{k:Str}(h:BF o=some k):∃p q,o=some (.Constant (.str k) p q):=by
 cases o with
 |none=>cases h
 |some e=>
  cases e with
  |Constant c _ _=>
   cases c with
   |str=>cases h;exact⟨_,_,rfl⟩
   |_=>cases h
  |_=>cases h
noncomputable def r8:List (Option Expr)->Option (List Str)
 |[]=>some []
 |k::r=>(BF k).bind λx=>(r8 r).map (x:: ·)
noncomputable def fj:Expr->Bool
 | .Name .. =>true
 | .Attribute .. =>true
 | .Subscript .. =>true
 | .Call (.Attribute ..) .. =>true
 | .Call (.Name ..) (_::_) .. =>true
 |_=>false
noncomputable def vh(s:Str):Bool:=s== "pop"
theorem vg{a b:Str}(h:(if f=a then(one args).bind λc=>(mR c).bind λp=>if p.1=b then some p.2 else none else none)=some e):f=a/\∃p q,args=[.Call (.Name b p) [e] [] q]:=by obtain⟨h1,h⟩:=fS h;obtain⟨c,h2,h⟩:=bs h;obtain⟨⟨r,x⟩,h3,h⟩:=bs h;obtain⟨h4,h⟩:=fS h;cases h;cases h4;cases dv h2;obtain⟨p,q,rfl⟩:=iq h3;exact⟨h1,p,q,rfl⟩
noncomputable def Dg(T:Tab)(sc:Scope)(o:Expr)(m:Str):Option Nat:=(wb o).bind λx=>if be sc x=true then wv T.ums x m else none
theorem ww{T:Tab}{m:Str}(h:Dg T sc o m=some j):∃x p,o= .Name x p/\be sc x=true/\(x,m,j)∈T.ums:=by obtain⟨x,h1,h⟩:=bs h;obtain⟨p,rfl⟩:=eF h1;obtain⟨h2,h⟩:=fS h;exact⟨x,p,rfl,h2,n_ h⟩
noncomputable def Cq:List Comprehension->Option (Expr×Expr×List Expr)
 |[⟨t,it,ifs,k⟩]=>if k=0 then some (t,it,ifs) else none
 |_=>none
theorem vB{gs:List Comprehension}{p:Expr×Expr×List Expr}(h:Cq gs=some p):gs=[⟨p.1,p.2.1,p.2.2,0⟩]:=by
 rcases gs with _|⟨⟨t,it,ifs,k⟩,_|⟨c,l⟩⟩
 ·cases h
 ·obtain⟨h1,h⟩:=fS h;cases h1;cases h;rfl
 ·cases h
noncomputable def yx:Expr->Option (Str×Str)
 | .Tuple [a,b] _ _=>(wb a).bind λx=>(wb b).map λy=>(x,y)
 |_=>none
theorem sH{z:Str×Str}(h:yx e=some z):∃p q k r,e= .Tuple [.Name z.1 p,.Name z.2 q] k r:=by
 cases e with
 |Tuple l k r=>
  rcases l with _|⟨a,_|⟨b,_|⟨c,l⟩⟩⟩
  ·cases h
  ·cases h
  ·obtain⟨x,h1,h⟩:=bs h;obtain⟨y,h2,rfl⟩:=map_some h;obtain⟨p,rfl⟩:=eF h1;obtain⟨q,rfl⟩:=eF h2;exact⟨p,q,k,r,rfl⟩
  ·cases h
 |_=>cases h
noncomputable def EA:Expr->Option (Option Expr×Option Expr)
 | .Slice lo hi st _=>(match st with
  |none=>some (lo,hi)
  |_=>none)
 |_=>none
theorem wJ{q:Option Expr×Option Expr}(h:EA e=some q):∃p,e= .Slice q.1 q.2 none p:=by
 cases e with
 |Slice lo hi st p=>
  cases st with
  |none=>cases h;exact⟨p,rfl⟩
  |some=>cases h
 |_=>cases h
noncomputable def vR(sc:Scope)(e:Expr):Option Expr:=(mR e).bind λp=>if p.1= "enumerate" /\be sc p.1=true then some p.2 else none
theorem mK(h:vR sc e=some a):be sc "enumerate"=true/\∃p q,e= .Call (.Name "enumerate" p) [a] [] q:=by obtain⟨⟨r,b⟩,h1,h⟩:=bs h;obtain⟨⟨e,hg⟩,h⟩:=fS h;cases h;cases e;exact⟨hg,iq h1⟩
noncomputable def yL(sc:Scope)(e:Expr):Option (Expr×Expr):=(x0 e).bind λp=>if p.1= "zip" /\be sc p.1=true then jP p.2 else none
theorem nZ(h:yL sc e=some z):be sc "zip"=true/\∃p q,e= .Call (.Name "zip" p) [z.1,z.2] [] q:=by obtain⟨⟨r,as⟩,h1,h⟩:=bs h;obtain⟨⟨e,hg⟩,h⟩:=fS h;cases e;cases eU h;exact⟨hg,lO h1⟩
noncomputable def BW(sc:Scope)(e:Expr):Option Expr:=(mR e).bind λp=>if p.1= "range" /\be sc p.1=true then some p.2 else none
theorem ut(h:BW sc e=some a):be sc "range"=true/\∃p q,e= .Call (.Name "range" p) [a] [] q:=by obtain⟨⟨r,b⟩,h1,h⟩:=bs h;obtain⟨⟨e,hg⟩,h⟩:=fS h;cases h;cases e;exact⟨hg,iq h1⟩
noncomputable def rng2(sc:Scope)(e:Expr):Option (Expr×Expr):=(x0 e).bind λp=>if p.1= "range" /\be sc p.1=true then jP p.2 else none
theorem uu(h:rng2 sc e=some z):be sc "range"=true/\∃p q,e= .Call (.Name "range" p) [z.1,z.2] [] q:=by obtain⟨⟨r,as⟩,h1,h⟩:=bs h;obtain⟨⟨e,hg⟩,h⟩:=fS h;cases e;cases eU h;exact⟨hg,lO h1⟩
noncomputable def E8(T:Tab)(sc:Scope)(ops:List CmpOp)(bs:List Expr):Option (List Str):=(one ops).bind λop=>match op with
 | .In=>(one bs).bind λb=>(wb b).bind λx=>if be sc x=true then(T.gds.lookup x).map λkvs=>kvs.map (·.1) else none
 |_=>none
noncomputable def E7(T:Tab)(sc:Scope)(a:Expr):Option (List (Str×D)):=(wb a).bind λx=>if be sc x=true then T.gds.lookup x else none
noncomputable def DO:Expr->Option Unit
 | .Slice none none (some (.UnaryOp .USub (.Constant (.int 1) _ _) _)) _=>some ()
 |_=>none
theorem wL{u:Unit}(h:DO e=some u):∃k p q r,e= .Slice none none (some (.UnaryOp .USub (.Constant (.int 1) k p) q)) r:=by
 unfold DO at h;split at h
 ·exact⟨_,_,_,_,rfl⟩
 ·cases h
noncomputable def Cj(f:Str)(args:List Expr):Option Expr:=if f= "list" then(one args).bind λc=>(mR c).bind λp=>if p.1= "reversed" then some p.2 else none else none
noncomputable def D8(f:Str)(args:List Expr):Option Expr:=if f= "dict" then(one args).bind λc=>match c with
 | .ListComp a b c d=>some (.ListComp a b c d)
 |_=>none else none
mutual
noncomputable def cE(T:Tab)(n:Nat)(sc:Scope)(N:List Str)(e:Expr):Option Ex:=match n with
 |0=>none
 |n+1=>match e with
  | .Constant k _ _=>(match k with
   | .int i=>some (.c (.int i))
   | .str s=>some (.c (.str s))
   | .bool b=>some (.c (.bl b))
   | .none=>some (.c .non)
   |_=>none)
  | .Name x _=>(sc.names.lookup x).bind λk=>match k with
   | .local=>(gE N x).map .v
   | .cell=>(gE N x).map .v
   | .free=>(gE N x).map .v
   | .globalImplicit=>(T.csts.lookup x).map .c
   |_=>none
  | .Tuple es _ _=>if es.length<=1000 then(s_ T n sc N es).map .tup else none
  | .List es _=>if es.length<=1000 then(s_ T n sc N es).map .lst else none
  | .Dict ks vs _=>(match ks with
   |[]=>(match vs with
    |[]=>some .emp
    |_=>none)
   |k::ks=>(r8 (k::ks)).bind λks'=>(s_ T n sc N vs).bind λvs'=>if ks'.length=vs.length/\ks'.length<=15/\ks'.Nodup then some (.dict ks' vs') else none)
  | .BinOp a op b _=>(cE T n sc N a).bind λa'=>(C3 op).bind λo=>(cE T n sc N b).map λb'=>.bin o a' b'
  | .UnaryOp op a _=>(match op with
   | .Not=>(cE T n sc N a).map .not
   | .USub=>(cE T n sc N a).map .neg
   |_=>none)
  | .BoolOp op es p=>(match es with
   |[]=>none
   |a::r=>match r with
    |[]=>cE T n sc N a
    |b::r=>(cE T n sc N a).bind λa'=>(cE T n sc N (.BoolOp op (b::r) p)).map λb'=>match op with
     | .And=>.and a' b'
     | .Or=>.or a' b')
  | .Compare a ops bs _=>(E8 T sc ops bs).elim ((one ops).elim ((jP ops).bind λo=>(jP bs).bind λb=>(cE T n sc N a).bind λa'=>(cE T n sc N b.1).bind λb'=>(cE T n sc N b.2).map λc'=>.chain o.1 o.2 a' b' c')
   λop=>(one bs).bind λb=>(cE T n sc N a).bind λa'=>(cE T n sc N b).map λb'=>.cmp op a' b') λks=>(cE T n sc N a).map (.inG ks)
  | .Subscript a b _=>(EA b).elim ((DO b).elim (if gS b=true then(E7 T sc a).elim ((cE T n sc N a).bind λa'=>(cE T n sc N b).map λb'=>.ix a' b') λkvs=>(cE T n sc N b).map (.ixG kvs) else none) λ_=>(cE T n sc N a).map .rv)
   λq=>match q.1 with
    |none=>q.2.bind λh=>(cE T n sc N a).bind λa'=>(cE T n sc N h).map λh'=>.sl a' h' h' false true
    |some l=>(cE T n sc N a).bind λa'=>(cE T n sc N l).bind λl'=>match q.2 with
     |none=>some (.sl a' l' l' true false)
     |some h=>(cE T n sc N h).map λh'=>.sl a' l' h' true true
  | .Call f args kws cp=>(match kws with
   |[]=>(match f with
   | .Name f _=>if be sc f=true then(Cj f args).elim ((D8 f args).elim (match args with
     |[]=>none
     |a::as=>(gE T.fns f).elim ((T.mks.lookup f).elim ((AM.lookup f).elim (if f= "isinstance" then(one as).bind λt'=>(wb t').bind λt=>if be sc t=true then(cE T n sc N a).bind λa'=>(wy.lookup t).elim none
       λty=>some (.isi a' ty) else none else none)
       λb=>if T.calm=true then(s_ T n sc N (a::as)).map (.bt b) else none)
       λj=>(s_ T n sc N (a::as)).map (.new f j))
       λi=>(s_ T n sc N (a::as)).map (.fn i))
     λa=>if gE T.fns "dict"=none/\T.calm=true then(cE T n sc N a).map .dictP else none)
     λa=>if(be sc "reversed"=true/\gE T.fns "list"=none)/\T.calm=true then(cE T n sc N a).map .lrev else none
    else none
   | .Attribute o m ap=>(Dg T sc o m).elim (if(vh m&&(ap.endLine==cp.line)&&fj o)=true then(match args with
     |[]=>(cE T n sc N o).map λo'=>.pop o' false
     |_=>none) else if(fj o&&(ap.endLine==cp.line)&&decide (args.length<29))=true then(cE T n sc N o).bind λo'=>(s_ T n sc N args).map λas'=>.meth o' m (T.ims m) as' else none)
     λj=>if((ap.endLine==cp.line)&&decide (args.length<29)&& !args.isEmpty)=true then(s_ T n sc N args).map (.fn j) else none
   |_=>none)
   |_=>none)
  | .ListComp elt gens scope _=>(Cq gens).bind λq=>(wb q.1).elim ((yx q.1).bind λz=>if db sc scope N z.1 z.2=true/\T.calm=true then
     (cE T n (ju sc scope) (z.1::z.2::N) elt).bind λe'=>match q.2.2 with
      |[]=>(vR sc q.2.1).elim ((yL sc q.2.1).elim ((cE T n sc N q.2.1).map λa'=>.compU a' e') λp=>(cE T n sc N p.1).bind λa'=>(cE T n sc N p.2).map λb'=>.compZ a' b' e') λa=>(cE T n sc N a).map λa'=>.compE a' e'
      |_=>none
    else none)
    λx=>if T.calm=true/\dR sc scope N x=true then
     (rng2 sc q.2.1).elim ((mR q.2.1).elim (mS T n sc N false q.2.1 x elt q.2.2 scope) λra=>if ra.1= "range" /\be sc ra.1=true then mS T n sc N true ra.2 x elt q.2.2 scope else mS T n sc N false q.2.1 x elt q.2.2 scope) λp=>match q.2.2 with
      |[]=>(cE T n sc N p.1).bind λa'=>(cE T n sc N p.2).bind λb'=>(cE T n (ju sc scope) (x::N) elt).map λe'=>.comp2 a' b' e'
      |_=>none
    else none
  | .IfExp c a b _=>(cE T n sc N c).bind λc'=>(cE T n sc N a).bind λa'=>(cE T n sc N b).map λb'=>.ite c' a' b'
  | .Attribute o f _=>if fj o=true then(cE T n sc N o).map (λo'=>.fld o' f [] (T.ics f)) else none
  |_=>none
noncomputable def s_(T:Tab)(n:Nat)(sc:Scope)(N:List Str)(es:List Expr):Option (List Ex):=match n with
 |0=>none
 |n+1=>match es with
  |[]=>some []
  |e::r=>(cE T n sc N e).bind λe'=>(s_ T n sc N r).map λr'=>e'::r'
noncomputable def mS(T:Tab)(n:Nat)(sc:Scope)(N:List Str)(rng:Bool)(src:Expr)(x:Str)(elt:Expr)(ifs:List Expr)(scope:Scope):Option Ex:=match n with
 |0=>none
 |n+1=>(cE T n sc N src).bind λs'=>(cE T n (ju sc scope) (x::N) elt).bind λe'=>match ifs with
   |[]=>some (.comp rng s' e')
   |_=>none
end
structure LRel(K:al)(H:Hp)(ι:Nat->Addr)(m:Nat)(loc:Loc)(σ:L2.St):Prop where
 len:loc.length=σ.length
 at_:∀(i:Nat)(d:D),loc[i]? =some (some d)->∃v:V,σ[i]? =some (some v)/\VRel K H ι m d v
theorem LRel.ext{K:al}{loc:Loc}(L:LRel K H ι m loc σ)(E:Ext H H' ι ι' m m'):LRel K H' ι' m' loc σ:=
 ⟨L.len,λi d e=>let⟨v,h1,h2⟩:=L.at_ i d e;⟨v,h1,h2.ext E⟩⟩
theorem LRel.cons{K:al}{loc:Loc}{d:D}(L:LRel K H ι m loc σ)(r:VRel K H ι m d v):LRel K H ι m (some d::loc) (some v::σ):=
 ⟨by simp[L.len],λi e h=>by
  cases i with
  |zero=>
   have:d=e:=by simpa using h
   subst this;exact⟨v,rfl,r⟩
  |succ i=>simpa using L.at_ i e (by simpa using h)⟩
theorem LRel.set{K:al}{loc:Loc}{d:D}(L:LRel K H ι m loc σ)(j:Nat)(r:VRel K H ι m d v):LRel K H ι m (loc.set j (some d)) (σ.set j (some v)):=
 ⟨by simp[L.len],λi e h=>by
  by_cases hj:j=i
  ·subst hj
   have hl:j<loc.length:=by have:=(aL h).1;simpa using this
   rw[aV hl] at h;cases h;exact⟨v,by rw[aV (by rw[<-L.len];exact hl)],r⟩
  ·rw[bd hj] at h;obtain⟨w,h1,h2⟩:=L.at_ i e h;exact⟨w,by rw[bd hj];exact h1,h2⟩⟩
noncomputable def tE(K:al)(m:Loc->M D):TE:=λσ H Q=>∃ι st loc,Sim K H ι st/\LRel K H ι st.length loc σ/\cO K H ι st (m loc st) Q
noncomputable def jn(K:al)(H:Hp)(ι:Nat->Addr)(st:aK)(r:R D)(Q:Bool->Hp->Prop):Prop:=match r with
 | .ok (.bl k) st'=>∀H' ι',Ext H H' ι ι' st.length st'.length->Sim K H' ι' st'->Q k H'
 |_=>False
noncomputable def tT(K:al)(m:Loc->M D):TT:=λσ H Q=>∃ι st loc,Sim K H ι st/\LRel K H ι st.length loc σ/\jn K H ι st (m loc st) Q
noncomputable def v6(K:al)(H:Hp)(ι:Nat->Addr)(st:aK)(r:R (List D))(Q:List V->Hp->Prop):Prop:=match r with
 | .ok ds st'=>∀H' ι' vs,Ext H H' ι ι' st.length st'.length->Sim K H' ι' st'->VRels K H' ι' st'.length ds vs->Q vs H'
 | .bad=>False
noncomputable def tA(K:al)(m:Loc->M (List D)):TA:=λσ H Q=>∃ι st loc,Sim K H ι st/\LRel K H ι st.length loc σ/\v6 K H ι st (m loc st) Q
section
variable{K:al}{H:Hp}{ι:Nat->Addr}{st:aK}{σ:L2.St}{loc:Loc}
theorem bh{m:Loc->M D}{d:D}{st1:aK}(S:Sim K H ι st)(L:LRel K H ι st.length loc σ)(e:m loc st=.ok d st1)(k:∀H1 ι1 v,Ext H H1 ι ι1 st.length st1.length->Sim K H1 ι1 st1->VRel K H1 ι1 st1.length d v->Q v H1):tE K m σ H Q:=
 ⟨ι,st,loc,S,L,by rw[e];exact k⟩
theorem kF{m:Loc->M D}{Q:Bool->Hp->Prop}{b:Bool}{st1:aK}(S:Sim K H ι st)(L:LRel K H ι st.length loc σ)(e:m loc st=.ok (.bl b) st1)(k:∀H1 ι1,Ext H H1 ι ι1 st.length st1.length->Sim K H1 ι1 st1->Q b H1):tT K m σ H Q:=
 ⟨ι,st,loc,S,L,by rw[e];exact k⟩
theorem jM{m:Loc->M (List D)}{Q:List V->Hp->Prop}{ds:List D}{st1:aK}(S:Sim K H ι st)(L:LRel K H ι st.length loc σ)(e:m loc st=.ok ds st1)(k:∀H1 ι1 vs,Ext H H1 ι ι1 st.length st1.length->Sim K H1 ι1 st1->VRels K H1 ι1 st1.length ds vs->Q vs H1):tA K m σ H Q:=
 ⟨ι,st,loc,S,L,by rw[e];exact k⟩
theorem aM{m:M α}{f:α->M D}{st0:aK}(P:cO K H ι st (aZ m f st0) Q):∃a st1,m st0=.ok a st1/\cO K H ι st (f a st1) Q:=by
 unfold aZ at P;cases e:m st0 with
 |ok a st1=>rw[e] at P;exact⟨a,st1,rfl,P⟩
 |bad=>rw[e] at P;exact P.elim
theorem ei{m:M α}{f:α->M D}{st0:aK}{Q:Bool->Hp->Prop}(P:jn K H ι st (aZ m f st0) Q):∃a st1,m st0=.ok a st1/\jn K H ι st (f a st1) Q:=by
 unfold aZ at P;cases e:m st0 with
 |ok a st1=>rw[e] at P;exact⟨a,st1,rfl,P⟩
 |bad=>rw[e] at P;exact P.elim
theorem pw{m:M α}{f:α->M (List D)}{st0:aK}{Q:List V->Hp->Prop}(P:v6 K H ι st (aZ m f st0) Q):∃a st1,m st0=.ok a st1/\v6 K H ι st (f a st1) Q:=by
 unfold aZ at P;cases e:m st0 with
 |ok a st1=>rw[e] at P;exact⟨a,st1,rfl,P⟩
 |bad=>rw[e] at P;exact P.elim
theorem bC{o:Option α}{a:α}{st0 st1:aK}(e:dL o st0=.ok a st1):o=some a/\st1=st0:=by
 unfold dL at e;cases o with
 |none=>cases e
 |some b=>cases e;exact⟨rfl,rfl⟩
theorem cy{x:D}{b:Bool}(e:gu x=some b):x=.bl b:=by cases x<;>cases e;rfl
theorem oY{x:D}{b:Int}(e:jE x=some b):x=.int b:=by cases x<;>cases e;rfl
theorem jn.inv{r:R D}{Q:Bool->Hp->Prop}(P:jn K H ι st r Q):∃b st1,r=.ok (.bl b) st1/\∀H' ι',Ext H H' ι ι' st.length st1.length->Sim K H' ι' st1->Q b H':=by
 unfold jn at P;split at P
 ·exact⟨_,_,rfl,P⟩
 ·exact P.elim
theorem jn.mono{r:R D}{Q:Bool->Hp->Prop}{H1:Hp}{st1:aK}(P:jn K H ι st r Q)(E:Ext H H1 ι ι1 st.length st1.length):jn K H1 ι1 st1 r Q:=by obtain⟨b,st2,rfl,k⟩:=P.inv;exact λH' ι' E' S'=>k H' ι' (E.trans E') S'
end
theorem _root_.L2.PE.imp{X:Cx}{e:Expr}{t t':TE}(h:PE X e t)(k:∀σ H Q,t' σ H Q->t σ H Q):PE X e t':=λpins s σ H Q I q=>h pins s σ H Q I (k σ H Q q)
theorem _root_.L2.PT.imp{X:Cx}{e:Expr}{t t':TT}(h:PT X e t)(k:∀σ H Q,t' σ H Q->t σ H Q):PT X e t':=λpins s σ H Q I q=>h pins s σ H Q I (k σ H Q q)
theorem _root_.L2.PA.imp{X:Cx}{es:List Expr}{t t':TA}(h:PA X es t)(k:∀σ H Q,t' σ H Q->t σ H Q):PA X es t':=λpos pins s σ H Q I q=>h pos pins s σ H Q I (k σ H Q q)
noncomputable def gy(K:al)(E:XK)(H:Hp)(ι:Nat->Addr)(st:aK)(r:R Rs)(Q:VK):Prop:=match r with
 | .ok (.v d) st'=>∀H' ι' v,Ext H H' ι ι' st.length st'.length->Sim K H' ι' st'->VRel K H' ι' st'.length d v->Q v H'
 | .ok (.x n) st'=>∀H' ι',Ext H H' ι ι' st.length st'.length->Sim K H' ι' st'->E (.ref (ι' n)) none H'
 | .bad=>False
theorem gy.mono{K:al}{E:XK}{st:aK}{r:R Rs}{H1:Hp}{st1:aK}(P:gy K E H ι st r Q)(E1:Ext H H1 ι ι1 st.length st1.length):gy K E H1 ι1 st1 r Q:=by
 cases r with
 |ok f st2=>
  cases f with
  |v d=>exact λH' ι' v E' S' r'=>P H' ι' v (E1.trans E') S' r'
  |x n=>exact λH' ι' E' S'=>P H' ι' (E1.trans E') S'
 |bad=>exact P
theorem gy.val{K:al}{st:aK}{m:M Rs}{st1:aK}{E:XK}(P:cO K H ι st (aZ m (λr=>dL r.val?) st1) Q):gy K E H ι st (m st1) Q:=by
 obtain⟨r,st2,e,P⟩:=aM P;rw[e];cases r with
 |v d=>exact P
 |x n=>exact P.elim
noncomputable def AY(K:al)(n:Nat)(f:List D->M Rs):Sp:=λvs H Q E=>vs.length=n/\∃ι st ds,Sim K H ι st/\VRels K H ι st.length ds vs/\gy K E H ι st (f ds st) Q
noncomputable def mm(P:Program)(w:World)(K:al)(a:Addr)(kvs:List (Str×D)):Prop:=(a==sysModules)=false/\∃o,K.lookup a=some o/\∀h:Heap,h.get? a=some o->∃vs:List (Key×Value),h.DictOf (b0 P w) a vs/\vs.map (·.1)=(kvs.map (·.1)).map Sum.inr/\∀k d,kvs.lookup k=some d->∃u v,valueAt vs (Sum.inr k:Key)=some u/\RelV v u/\∀H ι m,VRel K H ι m d v
structure Ctx(T:Tab)(g:eB)(X:Cx)(sc:Scope)(N:List Str):Prop where
 sc:X.env.scope=sc
 n:X.N=N
 nd:N.Nodup
 nm:∀x∈N,(x==("__debug__":Str))=false/\(x==("__classdict__":Str))=false
 calm:T.calm=true->X.calm=true
 un:X.A.units+100<cLine
 fns:∀i f,T.fns[i]? =some f->(f==("__debug__":Str))=false/\∃a fd ps k,X.mg f=some (.ref a)/\PySem.W.keepIn X.K (.ref a)=true/\Binds X.K fd ps []/\Room k X.A/\(∀ds st,ds.length≠ps.length->g i ds st=R.bad)/\FnOk X.prog X.w X.K X.mg X.base (nY X.prog X.w) k a fd ps (AY X.K ps.length (g i))
 csts:∀x d,T.csts.lookup x=some d->(x==("__debug__":Str))=false/\∃u v,X.mg x=some u/\RelV v u/\∀H ι m,VRel X.K H ι m d v
 blt:∀x∈tf,X.mg x=none
 icl:∀c∈T.icl,∃C,PySem.W.nsIn X.K mainGlobals c.x=some (some (.ref C))/\Cls X.K C/\(∀f∈c.flds,fH X.K C f)/\(∀m j,(m,j)∈c.mts->∃a fd ps k,Meth X.K C m a/\Binds X.K fd ps []/\Room k X.A/\(∀ds st,ds.length≠ps.length->g j ds st=R.bad)/\FnOk X.prog X.w X.K X.mg X.base (nY X.prog X.w) k a fd ps (AY X.K ps.length (g j)))
 mks:∀x j,(x,j)∈T.mks->(x==("__debug__":Str))=false/\∃C a fd ps k,PySem.W.nsIn X.K mainGlobals x=some (some (.ref C))/\X.mg x=some (.ref C)/\Mk X.K C a/\Binds X.K fd ps []/\Room (k+1) X.A/\(∀ds st,ds.length≠ps.length->g j ds st=R.bad)/\FnOk X.prog X.w X.K X.mg X.base (nY X.prog X.w) k a fd ps (AY X.K ps.length (g j))
 ums:∀x m j,(x,m,j)∈T.ums->(x==("__debug__":Str))=false/\∃C a fd ps k,X.mg x=some (.ref C)/\UMeth X.K C m a/\Binds X.K fd ps []/\Room k X.A/\(∀ds st,ds.length≠ps.length->g j ds st=R.bad)/\FnOk X.prog X.w X.K X.mg X.base (nY X.prog X.w) k a fd ps (AY X.K ps.length (g j))
 gds:∀x ks,T.gds.lookup x=some ks->(x==("__debug__":Str))=false/\∃a,X.mg x=some (.ref a)/\mm X.prog X.w X.K a ks
set_option maxHeartbeats 16000000
noncomputable def isLocal(sc:Scope)(x:Str):Bool:=sc.names.lookup x==some .local||sc.names.lookup x==some .cell
noncomputable def gZ:Expr->Bool
 | .ListComp .. =>true
 |_=>false
noncomputable def ld(s:Str):Bool:=s== "append"
noncomputable def xC:Expr->Bool
 | .Name .. =>true
 | .Call .. =>true
 | .Subscript .. =>true
 | .Constant .. =>true
 | .BinOp .. =>true
 | .Attribute .. =>true
 | .List .. =>true
 | .Tuple .. =>true
 | .Dict .. =>true
 | .UnaryOp .. =>true
 | .Compare .. =>true
 |_=>false
noncomputable def oj(sc:Scope)(N:List Str):List Expr->Option (List Nat)
 |[]=>some []
 |e::r=>(wb e).bind λx=>if isLocal sc x=true then(gE N x).bind λi=>(oj sc N r).map λis=>i::is else none
noncomputable def k_(s:Str):Bool:=s== "extend"
noncomputable def AQ(f:Str->Bool):Expr->Option (Expr×Expr)
 | .Call (.Attribute o m ap) as ks cp=>(match ks with
  |[]=>(one as).bind λa=>if(f m&&(ap.endLine==cp.line)&&fj o)=true then some (o,a) else none
  |_=>none)
 |_=>none
theorem pB{f:Str->Bool}(h:AQ f e=some z):∃m ap cp,e= .Call (.Attribute z.1 m ap) [z.2] [] cp/\(f m&&(ap.endLine==cp.line)&&fj z.1)=true:=by
 cases e with
 |Call f as ks cp=>
  cases f with
  |Attribute o m ap=>
   cases ks with
   |cons=>cases h
   |nil=>obtain⟨a,h1,h⟩:=bs h;obtain⟨h2,h⟩:=fS h;cases h;cases dv h1;exact⟨m,ap,cp,rfl,h2⟩
  |_=>cases h
 |_=>cases h
noncomputable def CV:Expr->Option Expr
 | .Call (.Attribute o m ap) as ks cp=>(match ks with
  |[]=>(match as with
   |[]=>if(m== "clear" &&(ap.endLine==cp.line)&&fj o)=true then some o else none
   |_=>none)
  |_=>none)
 |_=>none
theorem vY(h:CV e=some o):∃ap cp,e= .Call (.Attribute o "clear" ap) [] [] cp/\(ap.endLine==cp.line)=true/\fj o=true:=by
 cases e with
 |Call f as ks cp=>
  cases f with
  |Attribute o m ap=>
   cases ks with
   |cons=>cases h
   |nil=>
    cases as with
    |cons=>cases h
    |nil=>
     obtain⟨h2,h⟩:=fS h;cases h;simp only[Bool.and_eq_true,beq_iff_eq] at h2;obtain⟨⟨rfl,h3⟩,h4⟩:=h2;exact⟨ap,cp,rfl,by simpa using h3,h4⟩
  |_=>cases h
 |_=>cases h
mutual
noncomputable def cS(T:Tab)(n:Nat)(sc:Scope)(N:List Str)(s:Stmt):Option S:=match n with
 |0=>none
 |n+1=>match s with
  | .Assign ts e _=>(one ts).bind λt=>match t with
   | .Name x _=>if isLocal sc x=true then(gE N x).bind λi=>(cE T n sc N e).map λe'=>.set i e' else none
   | .Subscript o i _=>if gS i=true/\xC e=true then(cE T n sc N o).bind λo'=>(cE T n sc N i).bind λi'=>(cE T n sc N e).map λe'=>.setix o' i' e' else none
   | .Attribute o f _=>if xC e=true then(cE T n sc N o).bind λo'=>(cE T n sc N e).map λe'=>.setf o' f e' [] (T.ics f) else none
   | .Tuple ts _ _=>if T.calm=true then(oj sc N ts).bind λis=>(cE T n sc N e).bind λe'=>if gZ e=true then some (.unp is e') else none else none
   |_=>none
  | .Return o _=>(match o with
   |some e=>some ((cE T n sc N e).elim .stop .ret)
   |none=>some .ret0)
  | .Expr e _=>(AQ ld e).elim ((AQ k_ e).elim ((CV e).elim (if gZ e=false then(cE T n sc N e).map .ex else none) λo=>(cE T n sc N o).map .clr) λq=>(cE T n sc N q.1).bind λo'=>(cE T n sc N q.2).map λe'=>.ext o' e') λq=>(cE T n sc N q.1).bind λo'=>(cE T n sc N q.2).map λe'=>.app o' e'
  | .AugAssign t op e _=>(match t with
   | .Name x _=>(match op with
    | .Add=>if isLocal sc x=true then(gE N x).bind λi=>(cE T n sc N e).map λe'=>.aug i e' else none
    |_=>none)
   | .Attribute o f _=>(match op with
    | .Add=>(cE T n sc N o).bind λo'=>(cE T n sc N e).map λe'=>.augf o' f e' (T.ics f)
    |_=>none)
   |_=>none)
  | .If c a b _=>(cE T n sc N c).bind λc'=>(wc T n sc N a).bind λa'=>(wc T n sc N b).map λb'=>.ite c' a' b'
  | .For t it body els _=>(match els with
   |[]=>(match t with
   | .Name x _=>if isLocal sc x=true/\T.calm=true then(gE N x).bind λi=>(wc T n sc N body).bind λb'=>(BW sc it).elim ((cE T n sc N it).map λa'=>.for_ i false a' b') λa=>(cE T n sc N a).map λa'=>.for_ i true a' b' else none
   | .Tuple ts _ _=>if T.calm=true then(oj sc N ts).bind λis=>(wc T n sc N body).bind λb'=>(vR sc it).elim ((yL sc it).elim ((cE T n sc N it).map λa'=>.forU is a' b') λp=>(cE T n sc N p.1).bind λa'=>(cE T n sc N p.2).map λc'=>.forZ is a' c' b') λa=>(cE T n sc N a).map λa'=>.forE is a' b' else none
   |_=>none)
   |_=>none)
  | .While c body els _=>(match els with
   |[]=>(cE T n sc N c).bind λc'=>(wc T n sc N body).map λb'=>.whil c' b'
   |_=>none)
  | .Pass _=>some .pass
  | .Try body hs els fin _=>(match els with
   |[]=>none
   |e0::els=>(match fin with
   |[]=>(match hs with
    |[]=>none
    |_::_=>(wc T n sc N body).bind λb'=>(wc T n sc N (e0::els)).map λe'=>.tryE b' e')
   |_=>none))
  |_=>none
noncomputable def wc(T:Tab)(n:Nat)(sc:Scope)(N:List Str)(ss:List Stmt):Option (List S):=match n with
 |0=>none
 |n+1=>match ss with
  |[]=>some []
  |s::r=>(wc T n sc N r).map λr'=>(cS T n sc N s).getD .stop::r'
end
set_option maxHeartbeats 4000000
noncomputable def Cn(K:al)(tl:TE):TI:=λσ H R=>tl σ H λx H1=>∃a,x=.ref a/\(((∃xs,ez K H1 a xs)/\R (Dq K a) H1)∨((∃xs,gx K H1 a xs)/\R (Eu K a) H1))
theorem nv{tg l:Expr}{tl:TE}(hl:PE X l tl):PI X tg l (Cn X.K tl):=by
 intro pins s σ H R I h;refine bQ (hl pins s σ H _ I h) λv s1 hp=>?_;obtain⟨x,H1,I1,r1,q1⟩:=hp;obtain⟨a,rfl,⟨⟨xs,hq⟩,q⟩|⟨⟨xs,hq⟩,q⟩⟩:=q1
 ·cases r1;obtain⟨its,rv,p,hz⟩:=I1.list hq;refine wpAny_pyIter_list p.isList ?_;refine⟨s1.heap.objs.size,[s1.heap.objs.size],_,_,H1,rfl,I1.kept (t':=s1.toks) λb o e=>ac _ e,sk a _,⟨_,ak _ rfl,rfl,rfl⟩,λb hb=>?_,q⟩;have e:b=s1.heap.objs.size:=by simpa using hb
  subst e;exact I1.fpOk (ae _) (I1.hok.fresh (ae _))
 ·cases r1;obtain⟨its,rv,p,hz⟩:=I1.tuple hq;refine wpAny_pyIter_tuple (show s1.heap.IsTuple a its.toArray from p) ?_;refine⟨s1.heap.objs.size,[s1.heap.objs.size],_,_,H1,rfl,I1.kept (t':=s1.toks) λb o e=>ac _ e,pM a _,⟨_,ak _ rfl,rfl,rfl⟩,λb hb=>?_,q⟩;have e:b=s1.heap.objs.size:=by simpa using hb
  subst e;exact I1.fpOk (ae _) (I1.hok.fresh (ae _))
noncomputable def c8(K:al)(J:It)(s:Src)(H0:Hp)(ι0:Nat->Addr)(m0:Nat):Prop:=∀H ι st i,Ext H0 H ι0 ι m0 st.length->Sim K H ι st->
 (fc s i st=some none->J.stop i H)/\∀x,fc s i st=some (some x)->J.go i H/\∀v H',J.yld i H v H'->H'=H/\VRel K H ι st.length x v
theorem c8.tup{K:al}{a:Addr}{H0:Hp}{xs:List D}(h:gx K H0 a vs)(r:VRels K H0 ι0 m0 xs vs):c8 K (Eu K a) (.its xs) H0 ι0 m0:=λH ι st i E S=>by
 have l:=r.length;have h':=gx.ext E.toExt0 h;refine⟨λe=>?_,λx e=>?_⟩
 ·have e:xs[i]? =none:=ag e;exact⟨vs,h',by have:=List.getElem?_eq_none_iff.mp e;omega⟩
 ·have e:xs[i]? =some x:=ag e;obtain⟨v,hv,rv⟩:=(r.ext E).get e;refine⟨⟨vs,v,h',hv⟩,λw H' y=>⟨y.1,?_⟩⟩;have:=y.2 vs h';rw[hv] at this;cases this;exact rv
theorem c8.fl{K:al}{a:Addr}{H0:Hp}{xs:List D}(h:we K H0 a vs)(r:VRels K H0 ι0 m0 xs vs):c8 K (Dq K a) (.its xs) H0 ι0 m0:=λH ι st i E S=>by
 have l:=r.length;have h':=(we.ext E.toExt0 h).sql;refine⟨λe=>?_,λx e=>?_⟩
 ·have e:xs[i]? =none:=ag e;exact⟨vs,h',by have:=List.getElem?_eq_none_iff.mp e;omega⟩
 ·have e:xs[i]? =some x:=ag e;obtain⟨v,hv,rv⟩:=(r.ext E).get e;refine⟨⟨vs,v,h',hv⟩,λw H' y=>⟨y.1,?_⟩⟩;have:=y.2 vs h';rw[hv] at this;cases this;exact rv
theorem c8.ref{K:al}{H0:Hp}(hn:n<m0):c8 K (Dq K (ι0 n)) (.at n) H0 ι0 m0:=λH ι st i E S=>by
 simp only[fc];cases q:st[n]? with
 |none=>exact⟨λe=>(by cases e),λx e=>(by cases e)⟩
 |some o=>
  have ob:=S.ob n o q;rw[E.ad n hn] at ob;cases o with
  |dct kvs=>exact⟨λe=>(by cases e),λx e=>(by cases e)⟩
  |ins _ _=>exact⟨λe=>(by cases e),λx e=>(by cases e)⟩
  |lst xs=>
   obtain⟨vs,h1,r⟩:=ob;have l:=r.length;have h':ez K H (ι0 n) vs:=ez.of h1;refine⟨λe=>?_,λx e=>?_⟩
   ·have e:xs[i]? =none:=ag e;exact⟨vs,h',by have:=List.getElem?_eq_none_iff.mp e;omega⟩
   ·have e:xs[i]? =some x:=ag e;obtain⟨v,hv,rv⟩:=r.get e;refine⟨⟨vs,v,h',hv⟩,λw H' y=>⟨y.1,?_⟩⟩;have:=y.2 vs h';rw[hv] at this;cases this;exact rv
theorem c8.rng{K:al}{H0:Hp}{k:Nat}:c8 K (A4 0 k) (.its (cB k)) H0 ι0 m0:=λH ι st i E S=>by
 refine⟨λe=>?_,λx e=>?_⟩
 ·have e:(cB k)[i]? =none:=ag e;show k<=i;have:=List.getElem?_eq_none_iff.mp e;simpa[cB] using this
 ·have e:(cB k)[i]? =some x:=ag e
  have hi:i<k:=by have:=(aL e).1;simpa[cB] using this
  have hx:x=.int (i:Int):=by
   have:(cB k)[i]? =some (.int (i:Int)):=by simp[cB,hi]
   rw[this] at e;exact(ag e).symm
  subst hx;refine⟨hi,λv H' y=>⟨y.1,?_⟩⟩;have:v=.int (0+(i:Int)):=y.2;rw[this,Int.zero_add];exact .int _
theorem c8.rng2{K:al}{H0:Hp}{k:Nat}{lo:Int}:c8 K (A4 lo k) (.its (c7 lo k)) H0 ι0 m0:=λH ι st i E S=>by
 refine⟨λe=>?_,λx e=>?_⟩
 ·have e:(c7 lo k)[i]? =none:=ag e;show k<=i;have:=List.getElem?_eq_none_iff.mp e;simpa[c7] using this
 ·have e:(c7 lo k)[i]? =some x:=ag e
  have hi:i<k:=by have:=(aL e).1;simpa[c7] using this
  have hx:x=.int (lo+(i:Int)):=by
   have:(c7 lo k)[i]? =some (.int (lo+(i:Int))):=by simp[c7,hi]
   rw[this] at e;exact(ag e).symm
  subst hx;refine⟨hi,λv H' y=>⟨y.1,?_⟩⟩;have:v=.int (lo+(i:Int)):=y.2;rw[this];exact .int _
structure EltOk(K:al)(tc:TT)(te:TE)(f:Loc->D->M (Option D)):Prop where
 turn:∀{H:Hp}{ι:Nat->Addr}{st st1:aK}{loc:Loc}{σ:L2.St}{x:D}{v:V}{o:Option D}{Q:Option V->Hp->Prop},Sim K H ι st->LRel K H ι st.length loc σ->VRel K H ι st.length x v->f loc x st=.ok o st1->
  (∀H1 ι1 w,Ext H H1 ι ι1 st.length st1.length->Sim K H1 ι1 st1->(match o,w with|some y,some z=>VRel K H1 ι1 st1.length y z|none,none=>True|_,_=>False)->Q w H1)->
  tc (some v::σ) H λb H3=>if b=true then te (some v::σ) H3 λy H4=>Q (some y) H4 else Q none H3
noncomputable def em(K:al)(J:It)(s:Src)(H0:Hp)(ι0:Nat->Addr)(m0:Nat):Prop:=∀H ι st i,Ext H0 H ι0 ι m0 st.length->Sim K H ι st->
 (fc s i st=some none->J.stop i H)/\∀x,fc s i st=some (some x)->J.go i H/\∀v H',J.yld i H v H'->Ext H H' ι ι st.length st.length/\Sim K H' ι st/\VRel K H' ι st.length x v
theorem Sim.tup{K:al}{st:aK}(S:Sim K H ι st)(hp:H p=none):Ext H (bx H p (.tup xs)) ι ι st.length st.length/\Sim K (bx H p (.tup xs)) ι st:=by
 have E:Ext H (bx H p (.tup xs)) ι ι st.length st.length:=⟨⟨ae _,λ_ _=>rfl,λb ys e=>by rw[aD (aw e hp)];exact e,λb ob u e=>by rw[aD (aw e hp)];exact e⟩,λb ob e k=>⟨by rw[aD (aw e hp)];exact e,k⟩⟩
 refine⟨E,S.inj,λn o e=>?_⟩;have hn:n<st.length:=(aL e).1;have hne:ι n≠p:=by obtain⟨_,h,_⟩:=S.obj hn;exact aw h hp
 have old:=S.ob n o e;exact old.move E.toExt0 (aD hne)
theorem em.en{K:al}{H0:Hp}(hn:n<m0):em K (Ew K (ι0 n)) (.en n) H0 ι0 m0:=λH ι st i E S=>by
 simp only[fc];cases q:st[n]? with
 |none=>exact⟨λe=>(by cases e),λx e=>(by cases e)⟩
 |some o=>
  have ob:=S.ob n o q;rw[E.ad n hn] at ob;cases o with
  |dct _|ins _ _=>exact⟨λe=>(by cases e),λx e=>(by cases e)⟩
  |lst xs=>
   obtain⟨vs,h1,r⟩:=ob;have l:=r.length;have h':ez K H (ι0 n) vs:=ez.of h1;refine⟨λe=>?_,λx e=>?_⟩
   ·have e:xs[i]?.map (λx=>D.tup [.int (i:Int),x])=none:=ag e;have e:xs[i]? =none:=by simpa using e
    exact⟨vs,h',by have:=List.getElem?_eq_none_iff.mp e;omega⟩
   ·have e:xs[i]?.map (λx=>D.tup [.int (i:Int),x])=some x:=ag e;cases e2:xs[i]? with
    |none=>rw[e2] at e;cases e
    |some y=>rw[e2] at e;have e:D.tup [.int (i:Int),y]=x:=ag e;subst e;obtain⟨v,hv,rv⟩:=r.get e2;refine⟨⟨vs,v,h',hv⟩,λw H' yy=>?_⟩;obtain⟨p,z,rfl,hp,rfl,hz⟩:=yy;have:=hz vs h';rw[hv] at this;cases this;obtain⟨E1,S1⟩:=S.tup (xs:=[.int (i:Int),v]) hp;exact⟨E1,S1,.tup (.inl (.inl bw)) (.cons (.int _) (.cons (rv.ext E1) .nil))⟩
theorem em.enT{K:al}{a:Addr}{xs:List D}{H0:Hp}(r:VRel K H0 ι0 m0 (.tup xs) (.ref a)):em K (AU K a) (.its (hU 0 xs)) H0 ι0 m0:=λH ι st i E S=>by
 cases r.ext E with
 | @tup _ _ vs h' r=>
  simp only[fc,mJ];have l:=r.length;refine⟨λe=>?_,λx e=>?_⟩
  ·have e:=ag e;have e:xs[i]? =none:=by simpa using e
   exact⟨vs,h',by have:=List.getElem?_eq_none_iff.mp e;omega⟩
  ·have e:=ag e;cases e2:xs[i]? with
   |none=>rw[e2] at e;cases e
   |some y=>rw[e2] at e;have e:D.tup [.int ((0+i:Nat):Int),y]=x:=ag e;rw[Nat.zero_add] at e;subst e;obtain⟨v,hv,rv⟩:=r.get e2;refine⟨⟨vs,v,h',hv⟩,λw H' yy=>?_⟩;obtain⟨p,z,rfl,hp,rfl,hz⟩:=yy;have:=hz vs h';rw[hv] at this;cases this;obtain⟨E1,S1⟩:=S.tup (xs:=[.int (i:Int),v]) hp;exact⟨E1,S1,.tup (.inl (.inl bw)) (.cons (.int _) (.cons (rv.ext E1) .nil))⟩
structure EltG(K:al)(tt:V->Hp->(Option V->Hp->Prop)->Prop)(f:D->M (Option D))(H0:Hp)(ι0:Nat->Addr)(m0:Nat):Prop where
 turn:∀{H:Hp}{ι:Nat->Addr}{st st1:aK}{x:D}{v:V}{o:Option D}{Q:Option V->Hp->Prop},Ext H0 H ι0 ι m0 st.length->Sim K H ι st->VRel K H ι st.length x v->f x st=.ok o st1->
  (∀H1 ι1 w,Ext H H1 ι ι1 st.length st1.length->Sim K H1 ι1 st1->(match o,w with|some y,some z=>VRel K H1 ι1 st1.length y z|none,none=>True|_,_=>False)->Q w H1)->tt v H Q
theorem jh{K:al}{tt:V->Hp->(Option V->Hp->Prop)->Prop}{f:D->M (Option D)}{s:Src}{st st0:aK}{H0:Hp}(ok:EltG K tt f H ι st.length)
  (F:em K J s H ι st.length)(E0:Ext H0 H ι0 ι st0.length st.length)(S:Sim K H ι st)(P:cO K H0 ι0 st0 (bX f s st) Q):∀Dd,H Dd=none->∃W:Nat->Nat->List V->Hp->Prop,(∃m,W 0 m [] (bx H Dd (.lst [])))/\∀i m ys H2,W i m ys H2->
   (J.stop i H2/\Q (.ref Dd) H2)∨(J.go i H2/\∃N:List V->Hp->Prop,(∀ys' H',N ys' H'->∃m',m'<m/\W (i+1) m' ys' H')/\
    ∀x H',J.yld i H2 x H'->tt x H' λw H4=>match w with
     |some y=>H4 Dd=some (.lst ys)/\ys.length<sizeLine/\N (ys++[y]) (bx H4 Dd (.lst (ys++[y])))
     |none=>N ys H4):=by
 intro Dd hD;have sz:sizeLine=16777216:=sizeLine_eq;unfold bX at P;split at P
 case isFalse=>exact P.elim
 case isTrue hz=>
 refine⟨λi m ys H2=>i+m<=1000001/\∃ι2 st2 acc,Ext H H2 ι ι2 st.length st2.length/\Sim K H2 ι2 st2/\H2 Dd=some (.lst ys)/\(∀n,n<st2.length->ι2 n≠Dd)/\VRels K H2 ι2 st2.length acc ys/\acc.length<=i/\
   cO K H0 ι0 st0 (aZ (di f s m i acc) alloc st2) Q,⟨d8 s st+1,by omega,ι,st,[],?_,?_,bw,λn hn=>?_,.nil,ae _,P⟩,?_⟩
 ·exact⟨⟨ae _,λ_ _=>rfl,λb xs e=>by rw[aD (aw e hD)];exact e,λb ob u e=>by rw[aD (aw e hD)];exact e⟩,λb ob e k=>⟨by rw[aD (aw e hD)];exact e,k⟩⟩
 ·refine⟨S.inj,λn o e=>?_⟩;have hn:n<st.length:=(aL e).1;have hne:ι n≠Dd:=by obtain⟨_,h,_⟩:=S.obj hn;exact aw h hD
  have E:Ext0 H (bx H Dd (.lst [])) ι ι st.length st.length:=⟨ae _,λ_ _=>rfl,λb xs e=>by rw[aD (aw e hD)];exact e,λb ob u e=>by rw[aD (aw e hD)];exact e⟩
  have old:=S.ob n o e;exact old.move E (aD hne)
 ·obtain⟨_,h,_⟩:=S.obj hn;exact aw h hD
 ·rintro i m ys H2 ⟨hm,ι2,st2,acc,E2,S2,hDd,ap,ra,la,P2⟩;obtain⟨zs,st9,e9,P9⟩:=aM P2;obtain⟨c1,c2⟩:=F H2 ι2 st2 i E2 S2;cases m with
  |zero=>cases e9
  |succ m=>
   simp only[di] at e9;cases en:fc s i st2 with
   |none=>rw[en] at e9;cases e9
   |some ox=>
    rw[en] at e9;cases ox with
    |none=>
     have e9:R.ok acc st2=R.ok zs st9:=e9;cases e9;refine .inl ⟨c1 en,?_⟩;obtain⟨ι',h1,h2,h3⟩:=S2.add hDd ap ra;have l:(st2++[O.lst acc]).length=st2.length+1:=by simp
     refine P9 H2 ι' (.ref Dd) ?_ h3 ?_
     ·rw[l];have E6:=E0.trans E2;refine⟨⟨Nat.le_succ_of_le E6.le,λn hn=>(h1 n (ao hn E6.le)).trans (E6.ad n hn),E6.tp,E6.fz⟩,λb ob e k=>?_⟩;obtain⟨g1,g2⟩:=E6.fr b ob e k;refine⟨g1,λn hn=>?_⟩;by_cases hn':n=st2.length
      ·rw[hn',h2];obtain⟨g3,_⟩:=E0.fr b ob e k;exact(aw g3 hD).symm
      ·rw[h1 n (by omega)];exact g2 n (by omega)
     ·rw[<-h2,l];exact .ref (aI _)
    |some x=>
     obtain⟨hgo,hyl⟩:=c2 x en
     refine .inr ⟨hgo,λys' H'=>∃ι2 st2 acc,Ext H H' ι ι2 st.length st2.length/\Sim K H' ι2 st2/\H' Dd=some (.lst ys')/\(∀n,n<st2.length->ι2 n≠Dd)/\VRels K H' ι2 st2.length acc ys'/\acc.length<=i+1/\
      cO K H0 ι0 st0 (aZ (di f s m (i+1) acc) alloc st2) Q,λys' H' b=>⟨m,aI _,by omega,b⟩,λv H' y=>?_⟩
     obtain⟨EY,SY,rv⟩:=hyl v H' y;obtain⟨hDd,_⟩:=EY.fr Dd _ hDd ap
     replace E2:=E2.trans EY
     replace ra:=ra.ext EY
     simp only[aZ] at e9;cases e3:f x st2 with
     |bad=>rw[e3] at e9;cases e9
     |ok o st3=>
      rw[e3] at e9
      refine ok.turn (Q:=λw H4=>match w with
       |some y=>H4 Dd=some (.lst ys)/\ys.length<sizeLine/\∃ι2 st2 acc,Ext H (bx H4 Dd (.lst (ys++[y]))) ι ι2 st.length st2.length/\Sim K (bx H4 Dd (.lst (ys++[y]))) ι2 st2/\bx H4 Dd (.lst (ys++[y])) Dd=some (.lst (ys++[y]))/\(∀n,n<st2.length->ι2 n≠Dd)/\VRels K (bx H4 Dd (.lst (ys++[y]))) ι2 st2.length acc (ys++[y])/\acc.length<=i+1/\
         cO K H0 ι0 st0 (aZ (di f s m (i+1) acc) alloc st2) Q
       |none=>∃ι2 st2 acc,Ext H H4 ι ι2 st.length st2.length/\Sim K H4 ι2 st2/\H4 Dd=some (.lst ys)/\(∀n,n<st2.length->ι2 n≠Dd)/\VRels K H4 ι2 st2.length acc ys/\acc.length<=i+1/\
         cO K H0 ι0 st0 (aZ (di f s m (i+1) acc) alloc st2) Q) E2 SY rv e3 λH4 ι4 w E4 S4 r4=>?_
      obtain⟨hDd4,ap4⟩:=E4.fr Dd _ hDd ap;cases o with
      |none=>
       cases w with
       |some _=>exact r4.elim
       |none=>
        have e9':di f s m (i+1) acc st3=.ok zs st9:=e9;refine⟨ι4,st3,acc,E2.trans E4,S4,hDd4,ap4,ra.ext E4,by omega,?_⟩
        unfold aZ;rw[e9'];exact P9
      |some yd=>
       cases w with
       |none=>exact r4.elim
       |some yv=>
        have e9':di f s m (i+1) (acc++[yd]) st3=.ok zs st9:=e9;have lra:=ra.length;refine⟨hDd4,by omega,ι4,st3,acc++[yd],?_⟩
        have E5:Ext0 H4 (bx H4 Dd (.lst (ys++[yv]))) ι4 ι4 st3.length st3.length:=⟨ae _,λ_ _=>rfl,λb xs e=>by rw[aD (fN e hDd4 (by intro z;cases z))];exact e,λb ob u e=>by rw[aD (fN e hDd4 (by intro z;cases z))];exact e⟩
        refine⟨?_,⟨S4.inj,λn ob e=>?_⟩,bw,ap4,VRels.ext0 E5 ((ra.ext E4).append (.cons r4 .nil)),by simp;omega,?_⟩
        ·have E6:=E2.trans E4;refine⟨⟨E6.le,E6.ad,λb xs e=>E5.tp b xs (E6.tp b xs e),λb ob u e=>E5.fz b ob u (E6.fz b ob u e)⟩,λb ob e k=>?_⟩;obtain⟨g1,g2⟩:=E6.fr b ob e k;exact⟨by rw[aD (aw e hD)];exact g1,g2⟩
        ·have hn:n<st3.length:=(aL e).1;have old:=S4.ob n ob e;exact old.move E5 (aD (ap4 n hn))
        ·unfold aZ;rw[e9'];exact P9
theorem CT{K:al}{s:Src}{H0:Hp}(F:c8 K J s H0 ι0 m0):em K J s H0 ι0 m0:=λH ι st i E S=>by obtain⟨h1,h2⟩:=F H ι st i E S;refine⟨h1,λx e=>?_⟩;obtain⟨h3,h4⟩:=h2 x e;refine⟨h3,λv H' y=>?_⟩;obtain⟨rfl,r⟩:=h4 v H' y;exact⟨Ext.refl _ _ _,S,r⟩
theorem io{K:al}{tc:TT}{te:TE}{f:Loc->D->M (Option D)}(ok:EltOk K tc te f){s:Src}{st st0:aK}{H0:Hp}{loc:Loc}
  (F:c8 K J s H ι st.length)(E0:Ext H0 H ι0 ι st0.length st.length)(S:Sim K H ι st)(L:LRel K H ι st.length loc σ)(P:cO K H0 ι0 st0 (bX (f loc) s st) Q):∀Dd,H Dd=none->∃W:Nat->Nat->List V->Hp->Prop,(∃m,W 0 m [] (bx H Dd (.lst [])))/\∀i m ys H2,W i m ys H2->
   (J.stop i H2/\Q (.ref Dd) H2)∨(J.go i H2/\∃N:List V->Hp->Prop,(∀ys' H',N ys' H'->∃m',m'<m/\W (i+1) m' ys' H')/\
    ∀x H',J.yld i H2 x H'->tc (some x::σ) H' λb H3=>if b=true then te (some x::σ) H3 λy H4=>H4 Dd=some (.lst ys)/\ys.length<sizeLine/\N (ys++[y]) (bx H4 Dd (.lst (ys++[y]))) else N ys H3):=
 jh (tt:=λv H' K=>tc (some v::σ) H' λb H3=>if b=true then te (some v::σ) H3 λy H4=>K (some y) H4 else K none H3) ⟨λE S r ee k=>ok.turn S (L.ext E) r ee k⟩ (CT F) E0 S P
section
variable{T:Tab}{g:eB}{X:Cx}{sc:Scope}{N:List Str}{pos p2:Pos}
theorem uG{m:Loc->M D}(h:PE X e (tE X.K m))(he:∀whole,isTrue e X.env whole=(do let v <-whole;standAt e.pos;holding [v] (truthy v))):PT X e (tT X.K m):=
 (zI h he).imp λσ H Q hp=>by
  obtain⟨ι,st,loc,S,L,P⟩:=hp;obtain⟨b,st1,e1,k⟩:=P.inv;exact bh S L e1 λH1 ι1 v E1 S1 r1=>by cases r1;exact⟨b,rfl,k H1 ι1 E1 S1⟩
theorem jf{d:D}(h:PE X e (tC v))(r:∀H ι m,VRel X.K H ι m d v):PE X e (tE X.K (run g (.c d))):=
 h.imp λσ H Q hp=>by obtain⟨ι,st,loc,S,L,P⟩:=hp;rw[run] at P;exact P.same S (r H ι _)
theorem vS(C:Ctx T g X sc N)(hi:gE N x=some i)(hv:C5 sc x):PE X (.Name x pos) (tE X.K (run g (.v i))):=by
 have hN:X.N[i]? =some x:=by rw[C.n];exact dw hi
 obtain⟨h1,h2⟩:=C.nm x (aH (dw hi));refine(zO hN (by rw[C.sc];exact hv) h1 h2).imp λσ H Q hp=>?_
 obtain⟨ι,st,loc,S,L,P⟩:=hp;rw[run] at P;unfold dL at P;cases e:loc[i]? with
 |none=>rw[e] at P;exact P.elim
 |some o=>
  rw[e] at P;cases o with
  |none=>exact P.elim
  |some d=>obtain⟨v,hv,r⟩:=L.at_ i d e;exact⟨v,hv,P.same S r⟩
theorem yG{xs:List Ex}{k:Nat}(ha:PA X es (tA X.K (runs g xs)))(hz:es.length<=1000)(hl:es.length=xs.length):PE X (.Tuple es k pos) (tE X.K (run g (.tup xs))):=
 (zP ha).imp λσ H Q hp=>by obtain⟨ι,st,loc,S,L,P⟩:=hp;rw[run] at P;obtain⟨ds,st1,e1,P⟩:=aM P;have sz:sizeLine=16777216:=sizeLine_eq;refine jM S L e1 λH1 ι1 vs E1 S1 r1=>⟨?_,(P.mono E1).tup S1 r1⟩;have:=runs_len e1;have l:=r1.length;omega
where
 runs_len:∀{xs:List Ex}{loc:Loc}{st st1:aK}{ds:List D},runs g xs loc st=.ok ds st1->ds.length=xs.length
 |[],loc,st,st1,ds,e=>by rw[runs] at e;cases e;rfl
 |x::xs,loc,st,st1,ds,e=>by
  rw[runs] at e;simp only[aZ,ret] at e;split at e
  ·split at e
   ·rename_i e2;cases e;rw[List.length_cons,List.length_cons,runs_len e2]
   ·cases e
  ·cases e
theorem CG{xs:List Ex}(ha:PA X es (tA X.K (runs g xs)))(hz:es.length<=1000)(hl:es.length=xs.length):PE X (.List es pos) (tE X.K (run g (.lst xs))):=
 (zT ha).imp λσ H Q hp=>by obtain⟨ι,st,loc,S,L,P⟩:=hp;rw[run] at P;obtain⟨ds,st1,e1,P⟩:=aM P;have sz:sizeLine=16777216:=sizeLine_eq;refine jM S L e1 λH1 ι1 vs E1 S1 r1=>⟨?_,(P.mono E1).alloc S1 r1⟩;have:=yG.runs_len e1;have l:=r1.length;omega
theorem AO(I:Inv X pins σ H s):sysModules<s.heap.objs.size:=Nat.lt_trans (by decide) (show mainGlobals<s.heap.objs.size from(I.mod.glob.keeps I.bk).lt)
theorem CM:PE X (.Dict [] [] pos) (tE X.K (run g .emp)):=by intro pins s σ H Q I ⟨ι,st,loc,S,L,P⟩;rw[run] at P;refine wpAny_Dict_empty ⟨.ref s.heap.objs.size,_,I.laid (a:=s.heap.objs.size) (o:= .dK []) (t':=s.toks) (λ_ _ q=>ac _ q) (ae _) ?_,rfl,P.allocD S _ (I.hok.fresh (ae _))⟩;exact⟨Nat.zero_le _,beq_eq_false_iff_ne.mpr (Ne.symm (aj (AO I))),[],.nil,Heap.DictOf.new s.heap⟩
theorem rm{a b:Ex}{f:D->D->M D}(h:tE X.K (λloc=>aZ (run g a loc) λx=>aZ (run g b loc) λy=>f x y) σ H Q):AX (rD X.K f) (tE X.K (run g a)) (tE X.K (run g b)) σ H Q:=by obtain⟨ι,st,loc,S,L,P⟩:=h;obtain⟨x,st1,e1,P⟩:=aM P;obtain⟨y,st2,e2,P⟩:=aM P;exact bh S L e1 λH1 ι1 vx E1 S1 r1=>bh S1 (L.ext E1) e2 λH2 ι2 vy E2 S2 r2=>⟨ι2,st2,x,y,S2,r1.ext E2,r2,P.mono (E1.trans E2)⟩
theorem CO{a' b':Ex}{op:Operator}{o:Bo}(ho:C3 op=some o)(ha:PE X a (tE X.K (run g a')))(hb:PE X b (tE X.K (run g b'))):PE X (.BinOp a op b pos) (tE X.K (run g (.bin o a' b'))):=by
 have e:op=o.op:=by cases op<;>cases ho<;>rfl
 subst e;refine(B9 (zY o) ha hb).imp λσ H Q h=>rm ?_;obtain⟨ι,st,loc,S,L,P⟩:=h;rw[run] at P;exact⟨ι,st,loc,S,L,P⟩
theorem CF{a':Ex}(ha:PE X a (tE X.K (run g a'))):PE X (.UnaryOp .USub a pos) (tE X.K (run g (.neg a'))):=
 (yr tO ha).imp λσ H Q hp=>by
  obtain⟨ι,st,loc,S,L,P⟩:=hp;rw[run] at P;obtain⟨x,st1,e1,P⟩:=aM P;obtain⟨i,st2,e2,P⟩:=aM P;obtain⟨e3,rfl⟩:=bC e2;have:=oY e3;subst this;exact bh S L e1 λH1 ι1 v E1 S1 r1=>by cases r1;exact⟨i,rfl,(P.mono E1).same S1 (.int _)⟩
theorem CC{a':Ex}(ha:PE X a (tE X.K (run g a'))):PE X (.UnaryOp .Not a pos) (tE X.K (run g (.not a'))):=
 (zR ha).imp λσ H Q hp=>by
  obtain⟨ι,st,loc,S,L,P⟩:=hp;rw[run] at P;obtain⟨x,st1,e1,P⟩:=aM P;obtain⟨i,st2,e2,P⟩:=aM P;obtain⟨e3,rfl⟩:=bC e2;have:=cy e3;subst this;exact bh S L e1 λH1 ι1 v E1 S1 r1=>by cases r1;exact⟨i,rfl,(P.mono E1).same S1 (.bl _)⟩
theorem Bs{a':Ex}(ha:PT X a (tT X.K (run g a'))):PT X (.UnaryOp .Not a pos) (tT X.K (run g (.not a'))):=
 (zJ ha).imp λσ H Q hp=>by obtain⟨ι,st,loc,S,L,P⟩:=hp;rw[run] at P;obtain⟨x,st1,e1,P⟩:=ei P;obtain⟨i,st2,e2,P⟩:=ei P;obtain⟨e3,rfl⟩:=bC e2;have:=cy e3;subst this;exact kF S L e1 λH1 ι1 E1 S1=>P H1 ι1 E1 S1
theorem CP{a' b':Ex}(ha:PE X a (tE X.K (run g a')))(hb:PE X (.BoolOp .And (b::r) pos) (tE X.K (run g b'))):PE X (.BoolOp .And (a::b::r) pos) (tE X.K (run g (.and a' b'))):=
 (zV ha hb).imp λσ H Q hp=>by
  obtain⟨ι,st,loc,S,L,P⟩:=hp;rw[run] at P;obtain⟨x,st1,e1,P⟩:=aM P;obtain⟨i,st2,e2,P⟩:=aM P;obtain⟨e3,rfl⟩:=bC e2;have:=cy e3;subst this;refine bh S L e1 λH1 ι1 v E1 S1 r1=>?_;cases r1;refine⟨i,rfl,?_⟩;cases i with
  |true=>rw[if_pos rfl];exact⟨ι1,st2,loc,S1,L.ext E1,P.mono E1⟩
  |false=>rw[if_neg au];exact(P.mono E1).same S1 (.bl false)
theorem Eg{a' b':Ex}(ha:PE X a (tE X.K (run g a')))(hb:PE X (.BoolOp .Or (b::r) pos) (tE X.K (run g b'))):PE X (.BoolOp .Or (a::b::r) pos) (tE X.K (run g (.or a' b'))):=
 (B8 ha hb).imp λσ H Q hp=>by
  obtain⟨ι,st,loc,S,L,P⟩:=hp;rw[run] at P;obtain⟨x,st1,e1,P⟩:=aM P;obtain⟨i,st2,e2,P⟩:=aM P;obtain⟨e3,rfl⟩:=bC e2;have:=cy e3;subst this;refine bh S L e1 λH1 ι1 v E1 S1 r1=>?_;cases r1;refine⟨i,rfl,?_⟩;cases i with
  |false=>rw[if_neg au];exact⟨ι1,st2,loc,S1,L.ext E1,P.mono E1⟩
  |true=>rw[if_pos rfl];exact(P.mono E1).same S1 (.bl true)
theorem yq{op:BoolOp}{t:TT}(h:PT X (.BoolOp op es pos) t):PW X (.BoolOp op es pos) t:=λwh pins s σ H Q I q=>by have:=h pins s σ H Q I q;exact this
theorem Bw{a' b':Ex}(ha:PT X a (tT X.K (run g a')))(hb:PT X (.BoolOp .And (b::r) pos) (tT X.K (run g b'))):PT X (.BoolOp .And (a::b::r) pos) (tT X.K (run g (.and a' b'))):=
 (zH ha (yq hb)).pt.imp λσ H Q hp=>by
  obtain⟨ι,st,loc,S,L,P⟩:=hp;rw[run] at P;obtain⟨x,st1,e1,P⟩:=ei P;obtain⟨i,st2,e2,P⟩:=ei P;obtain⟨e3,rfl⟩:=bC e2;have:=cy e3;subst this;refine kF S L e1 λH1 ι1 E1 S1=>?_;cases i with
  |true=>rw[if_pos rfl];exact⟨ι1,st2,loc,S1,L.ext E1,P.mono E1⟩
  |false=>rw[if_neg au];exact P H1 ι1 E1 S1
theorem Dx{a' b':Ex}(ha:PT X a (tT X.K (run g a')))(hb:PT X (.BoolOp .Or (b::r) pos) (tT X.K (run g b'))):PT X (.BoolOp .Or (a::b::r) pos) (tT X.K (run g (.or a' b'))):=
 (B3 ha (yq hb)).pt.imp λσ H Q hp=>by
  obtain⟨ι,st,loc,S,L,P⟩:=hp;rw[run] at P;obtain⟨x,st1,e1,P⟩:=ei P;obtain⟨i,st2,e2,P⟩:=ei P;obtain⟨e3,rfl⟩:=bC e2;have:=cy e3;subst this;refine kF S L e1 λH1 ι1 E1 S1=>?_;cases i with
  |false=>rw[if_neg au];exact⟨ι1,st2,loc,S1,L.ext E1,P.mono E1⟩
  |true=>rw[if_pos rfl];exact P H1 ι1 E1 S1
theorem Br{op:BoolOp}{t:TT}(ha:PT X a t):PT X (.BoolOp op [a] pos) t:=by
 cases op with
 |And=>exact(xc ha).pt
 |Or=>exact(zG ha).pt
theorem CN(hu:X.A.units+100<cLine){a' b':Ex}{op:CmpOp}(hm:behindInMarks op b=false)(ha:PE X a (tE X.K (run g a')))(hb:PE X b (tE X.K (run g b'))):PE X (.Compare a [op] [b] pos) (tE X.K (run g (.cmp op a' b'))):=
 (rG (jx hu op) ha hb hm).imp λσ H Q hp=>by obtain⟨ι,st,loc,S,L,P⟩:=hp;rw[run] at P;exact rm ⟨ι,st,loc,S,L,P⟩
theorem uY:kx X (compareOp .In) (λx y H Q=>∃z a ks,x=.str z/\y=.ref a/\mm X.prog X.w X.K a ks/\Q (.bl ((ks.map (·.1)).contains z)) H):=by
 intro pins s σ H x y v u Q I rx ry h;obtain⟨z,a,ks,rfl,rfl,⟨hs,o,ho,hd⟩,q⟩:=h;cases(show u=Value.ref a from ry);obtain⟨vs,dd,hk,_⟩:=hd s.heap (I.kIn a o ho);refine wpAny_in_of (k:=Sum.inr z) (iZ (k:=Sum.inr z) rx) hs dd.mapOf ?_
 have e:(valueAt vs (Sum.inr z:Key)).isSome=(ks.map (·.1)).contains z:=by
  unfold valueAt;rw[Option.isSome_map,List.isSome_find?]
  have:∀(vs:List (Key×Value))(ks:List Str),vs.map (·.1)=ks.map Sum.inr->(vs.any λkv=>decide (kv.1=(Sum.inr z:Key)))=ks.contains z:=by
   intro vs
   induction vs with
   |nil=>intro ks h;cases ks with
    |nil=>rfl
    |cons=>cases h
   |cons p r ih=>
    intro ks h;cases ks with
    |nil=>cases h
    |cons k ks=>
     injection h with h1 h2;have h1:p.1=Sum.inr k:=h1;rw[List.any_cons,List.contains_cons,ih ks h2,h1];congr 1;by_cases hz:k=z
     ·subst hz;simp
     ·simp[hz,Ne.symm hz,Sum.inr.injEq]
  exact this vs _ hk
 rw[e];exact⟨.bl _,H,I.tok _,rfl,q⟩
theorem vn{a':Ex}{ks:List (Str×D)}{b:Addr}(hd:mm X.prog X.w X.K b ks)(h:tE X.K (run g (.inG (ks.map (·.1)) a')) σ H Q):AX (λx y H Q=>∃z a ks,x=.str z/\y=.ref a/\mm X.prog X.w X.K a ks/\Q (.bl ((ks.map (·.1)).contains z)) H) (tE X.K (run g a')) (tC (.ref b)) σ H Q:=by
 obtain⟨ι,st,loc,S,L,P⟩:=h;rw[run] at P;obtain⟨x,st1,e1,P⟩:=aM P;refine bh S L e1 λH1 ι1 v E1 S1 r1=>?_;cases r1 with
 |str z=>exact⟨z,b,ks,rfl,rfl,hd,(show cO X.K H ι st (.ok (.bl ((ks.map (·.1)).contains z)) st1) Q from P) H1 ι1 (.bl _) E1 S1 (.bl _)⟩
 |_=>exact P.elim
theorem m_{m:Loc->M D}{t:TE}{Q:Bool->Hp->Prop}(k:∀Q',tE X.K m σ H Q'->t σ H Q')(h:tT X.K m σ H Q):tR t σ H Q:=by
 refine k _ ?_;obtain⟨ι,st,loc,S,L,P⟩:=h;obtain⟨b,st1,e,q⟩:=P.inv;exact bh S L e λH1 ι1 v E1 S1 r1=>by cases r1;exact⟨b,rfl,q H1 ι1 E1 S1⟩
theorem CK{a':Ex}{ks:List (Str×D)}(C:Ctx T g X sc N)(hg:be sc x=true)(hk:T.gds.lookup x=some ks)(ha:PE X a (tE X.K (run g a'))):PE X (.Compare a [.In] [.Name x p2] pos) (tE X.K (run g (.inG (ks.map (·.1)) a')))/\PT X (.Compare a [.In] [.Name x p2] pos) (tT X.K (run g (.inG (ks.map (·.1)) a'))):=by
 obtain⟨hdb,b,hm,hd⟩:=C.gds x ks hk
 have hgl:Gl X x:=by show X.env.scope.names.lookup _=some .globalImplicit;rw[C.sc];simpa[be] using hg
 have hb:PE X (.Name x p2) (tC (.ref b)):=nz hgl hm rfl hdb;exact⟨(rG uY ha hb rfl).imp λσ H Q h=>vn hd h,(rA uY ha hb rfl).imp λσ H Q h=>m_ (λQ' hp=>vn hd hp) h⟩
theorem D4:Dc X (λx y H Q=>∃z a kvs d,x=.ref a/\y=.str z/\mm X.prog X.w X.K a kvs/\kvs.lookup z=some d/\∀v,(∀H ι m,VRel X.K H ι m d v)->Q v H):=by intro value slice pins s σ H vx vy ux uy Q I rx ry h hs;obtain⟨z,a,kvs,d,rfl,rfl,⟨_,o,ho,hd⟩,hl,q⟩:=h;cases(show ux=Value.ref a from rx);obtain⟨vs,dd,_,hv⟩:=hd s.heap (I.kIn a o ho);obtain⟨u,v,h1,h2,h3⟩:=hv z d hl;exact tail_any dd.typeIs PySem.F.slot_dict_getitem.lookup (wpAny_getItem_of (k:=Sum.inr z) (iZ (k:=Sum.inr z) ry) dd.mapOf h1 ⟨v,H,I.tok _,h2,q v h3⟩) hs
theorem CH{a':Ex}{kvs:List (Str×D)}(C:Ctx T g X sc N)(hg:be sc x=true)(hk:T.gds.lookup x=some kvs)(hs:gS a=true)(ha:PE X a (tE X.K (run g a'))):PE X (.Subscript (.Name x p2) a pos) (tE X.K (run g (.ixG kvs a'))):=by
 obtain⟨hdb,b,hm,hd⟩:=C.gds x kvs hk
 have hgl:Gl X x:=by show X.env.scope.names.lookup _=some .globalImplicit;rw[C.sc];simpa[be] using hg
 have hb:PE X (.Name x p2) (tC (.ref b)):=nz hgl hm rfl hdb;refine(yt D4 hb ha (λo i=>by cases a<;>first|rfl|cases hs)).imp λσ H Q hp=>?_
 obtain⟨ι,st,loc,S,L,P⟩:=hp;rw[run] at P;obtain⟨y,st1,e1,P⟩:=aM P;refine bh S L e1 λH1 ι1 v E1 S1 r1=>?_;cases r1 with
 |str z=>
  cases hz:kvs.lookup z with
  |none=>simp only[ve,hz] at P;exact P.elim
  |some d=>simp only[ve,hz] at P;exact⟨z,b,kvs,d,rfl,rfl,hd,hz,λv hv=>(show cO X.K H ι st (.ok d st1) Q from P) H1 ι1 v E1 S1 (hv _ _ _)⟩
 |_=>exact P.elim
theorem VRels.rev{K:al}:∀{ds:List D}{vs:List V},VRels K H ι m ds vs->VRels K H ι m ds.reverse vs.reverse
 |_,_,.nil=>.nil
 |_,_,.cons h t=>by rw[List.reverse_cons,List.reverse_cons];exact(VRels.rev t).append (.cons h .nil)
theorem Ef{a':Ex}{k:Nat}{p5:Pos}(ha:PE X a (tE X.K (run g a'))):PE X (.Subscript a (.Slice none none (some (.UnaryOp .USub (.Constant (.int 1) k p3) p4)) p5) pos) (tE X.K (run g (.rv a'))):=by
 refine(B7 ha (yr tO uU)).imp λσ H Q hp=>?_;obtain⟨ι,st,loc,S,L,P⟩:=hp;rw[run] at P;obtain⟨x,st1,e1,P⟩:=aM P;refine bh S L e1 λH1 ι1 v E1 S1 r1=>⟨1,rfl,rfl,?_⟩;unfold DS at P;split at P
 ·split at P
  ·rename_i xs q;cases r1 with
   |ref hn=>
    obtain⟨ys,h1,h2⟩:=S1.ob _ _ q;exact⟨_,ys,rfl,ez.of h1,λp hp=>P.mono E1|>.alloc S1 h2.rev p hp⟩
  ·exact P.elim
 ·exact P.elim
theorem Bv(hu:X.A.units+100<cLine){a' b':Ex}{op:CmpOp}(hm:behindInMarks op b=false)(ha:PE X a (tE X.K (run g a')))(hb:PE X b (tE X.K (run g b'))):PT X (.Compare a [op] [b] pos) (tT X.K (run g (.cmp op a' b'))):=
 (rA (jx hu op) ha hb hm).imp λσ H Q h=>m_ (λQ' hp=>by obtain⟨ι,st,loc,S,L,P⟩:=hp;rw[run] at P;exact rm ⟨ι,st,loc,S,L,P⟩) h
theorem oI{a b c:Ex}{op:CmpOp}(h:tE X.K (run g (.chain op op' a b c)) σ H Q):pR (rD X.K (cx op)) (rD X.K (cx op')) (tE X.K (run g a)) (tE X.K (run g b)) (tE X.K (run g c)) σ H Q:=by
 obtain⟨ι,st,loc,S,L,P⟩:=h;rw[run] at P;obtain⟨x,st1,e1,P⟩:=aM P;obtain⟨y,st2,e2,P⟩:=aM P;obtain⟨z,st3,e3,P⟩:=aM P;obtain⟨k,st4,e4,P⟩:=aM P;obtain⟨e5,rfl⟩:=bC e4;have:=cy e5;subst this;refine bh S L e1 λH1 ι1 vx E1 S1 r1=>bh S1 (L.ext E1) e2 λH2 ι2 vy E2 S2 r2=>⟨ι2,st2,x,y,S2,r1.ext E2,r2,?_⟩;rw[e3];intro H3 ι3 vz E3 S3 r3;cases r3;refine⟨k,rfl,?_⟩;have E:=(E1.trans E2).trans E3;cases k with
 |true=>rw[if_pos rfl];obtain⟨w,st5,e5,P⟩:=aM (show cO X.K H ι st (aZ (run g c loc) (λw=>cx op' y w) st4) Q from P);exact bh S3 (L.ext E) e5 λH5 ι5 vw E5 S5 r5=>⟨ι5,st5,y,w,S5,(r2.ext E3).ext E5,r5,P.mono (E.trans E5)⟩
 |false=>rw[if_neg au];exact(P.mono E).same S3 (.bl false)
theorem xV(hu:X.A.units+100<cLine){a' b' c':Ex}{op:CmpOp}(hm:behindInMarks op' c=false)(ha:PE X a (tE X.K (run g a')))(hb:PE X b (tE X.K (run g b')))(hc:PE X c (tE X.K (run g c'))):PE X (.Compare a [op,op'] [b,c] pos) (tE X.K (run g (.chain op op' a' b' c'))):=
 (uW (jx hu op) (jx hu op') ha hb hc hm).imp λσ H Q h=>oI h
theorem wA(hu:X.A.units+100<cLine){a' b' c':Ex}{op:CmpOp}(hm:behindInMarks op' c=false)(ha:PE X a (tE X.K (run g a')))(hb:PE X b (tE X.K (run g b')))(hc:PE X c (tE X.K (run g c'))):PT X (.Compare a [op,op'] [b,c] pos) (tT X.K (run g (.chain op op' a' b' c'))):=
 (uH (jx hu op) (jx hu op') ha hb hc hm).imp λσ H Q h=>m_ (λQ' h'=>oI h') h
theorem Eh{a' b':Ex}(hu:X.A.units+100<cLine)(hs:gS b=true)(ha:PE X a (tE X.K (run g a')))(hb:PE X b (tE X.K (run g b'))):PE X (.Subscript a b pos) (tE X.K (run g (.ix a' b'))):=
 (yt (D5 hu) ha hb (λo i=>by cases b<;>first|rfl|cases hs)).imp λσ H Q hp=>by obtain⟨ι,st,loc,S,L,P⟩:=hp;rw[run] at P;exact rm ⟨ι,st,loc,S,L,P⟩
theorem Az{lo hi:Option Expr}{a' l' h':Ex}{hl hh:Bool}{tl th:TO}(ha:PE X a (tE X.K (run g a')))(hlo:PO X lo tl)(hhi:PO X hi th)
  (kl:∀{H:Hp}{ι:Nat->Addr}{st st1:aK}{loc:Loc}{σ:L2.St}{o:Option Int}{Q:Option Int->Hp->Prop},Sim X.K H ι st->LRel X.K H ι st.length loc σ->(if hl=true then aZ (run g l' loc) λz=>aZ (dL (jE z)) λi=>ret (some i) else ret none) st=R.ok o st1->
   (∀H1 ι1,Ext H H1 ι ι1 st.length st1.length->Sim X.K H1 ι1 st1->Q o H1)->tl σ H Q)
  (kh:∀{H:Hp}{ι:Nat->Addr}{st st1:aK}{loc:Loc}{σ:L2.St}{o:Option Int}{Q:Option Int->Hp->Prop},Sim X.K H ι st->LRel X.K H ι st.length loc σ->(if hh=true then aZ (run g h' loc) λz=>aZ (dL (jE z)) λi=>ret (some i) else ret none) st=R.ok o st1->
   (∀H1 ι1,Ext H H1 ι ι1 st.length st1.length->Sim X.K H1 ι1 st1->Q o H1)->th σ H Q):PE X (.Subscript a (.Slice lo hi none p2) pos) (tE X.K (run g (.sl a' l' h' hl hh))):=
 (uR DN ha hlo hhi).imp λσ H Q hp=>by obtain⟨ι,st,loc,S,L,P⟩:=hp;rw[run] at P;obtain⟨x,st1,e1,P⟩:=aM P;obtain⟨ol,st2,e2,P⟩:=aM P;obtain⟨oh,st3,e3,P⟩:=aM P;refine bh S L e1 λH1 ι1 vx E1 S1 r1=>kl S1 (L.ext E1) e2 λH2 ι2 E2 S2=>kh S2 ((L.ext E1).ext E2) e3 λH3 ι3 E3 S3=>⟨ι3,st3,x,S3,(r1.ext E2).ext E3,P.mono ((E1.trans E2).trans E3)⟩
theorem rH{l':Ex}{st st1:aK}{loc:Loc}{o:Option Int}{Q:Option Int->Hp->Prop}(S:Sim X.K H ι st)(L:LRel X.K H ι st.length loc σ)(e:(if false=true then aZ (run g l' loc) λz=>aZ (dL (jE z)) λi=>ret (some i) else ret none) st=R.ok o st1)
  (k:∀H1 ι1,Ext H H1 ι ι1 st.length st1.length->Sim X.K H1 ι1 st1->Q o H1):qQ σ H Q:=by
 rw[if_neg au] at e;cases e;exact k H ι (Ext.refl _ _ _) S
theorem iW{l':Ex}{st st1:aK}{loc:Loc}{o:Option Int}{Q:Option Int->Hp->Prop}(S:Sim X.K H ι st)(L:LRel X.K H ι st.length loc σ)(e:(if true=true then aZ (run g l' loc) λz=>aZ (dL (jE z)) λi=>ret (some i) else ret none) st=R.ok o st1)
  (k:∀H1 ι1,Ext H H1 ι ι1 st.length st1.length->Sim X.K H1 ι1 st1->Q o H1):yj (tE X.K (run g l')) σ H Q:=by
 rw[if_pos rfl] at e;simp only[aZ,ret] at e;cases e1:run g l' loc st with
 |bad=>rw[e1] at e;cases e
 |ok z st2=>
  rw[e1] at e;simp only[dL] at e;cases e2:jE z with
  |none=>rw[e2] at e;cases e
  |some i=>
   rw[e2] at e;cases e;have:=oY e2;subst this;exact bh S L e1 λH1 ι1 v E1 S1 r1=>by cases r1;exact⟨i,rfl,k H1 ι1 E1 S1⟩
theorem CI{c' a' b':Ex}(hc:PT X c (tT X.K (run g c')))(ha:PE X a (tE X.K (run g a')))(hb:PE X b (tE X.K (run g b'))):PE X (.IfExp c a b pos) (tE X.K (run g (.ite c' a' b'))):=
 (uV hc ha hb).imp λσ H Q hp=>by
  obtain⟨ι,st,loc,S,L,P⟩:=hp;rw[run] at P;obtain⟨x,st1,e1,P⟩:=aM P;obtain⟨i,st2,e2,P⟩:=aM P;obtain⟨e3,rfl⟩:=bC e2;have:=cy e3;subst this;refine kF S L e1 λH1 ι1 E1 S1=>?_;cases i with
  |true=>rw[if_pos rfl];exact⟨ι1,st2,loc,S1,L.ext E1,P.mono E1⟩
  |false=>rw[if_neg au];exact⟨ι1,st2,loc,S1,L.ext E1,P.mono E1⟩
theorem Ei{as:List Expr}{xs:List Ex}(C:Ctx T g X sc N)(hg:be sc f=true)(hi:gE T.fns f=some i)(ha:PA X (a::as) (tA X.K (runs g xs)))(hl:(a::as).length=xs.length)
  (he:starEach (a::as) X.env=(false,eval a X.env)::starEach as X.env)(hpl:(backTo pos (starEach as X.env)).any (·.1)=false):PE X (.Call (.Name f p2) (a::as) [] pos) (tE X.K (run g (.fn i xs))):=by
 obtain⟨hd,ad,fd,ps,k,hm,kp,hb,hr,har,F⟩:=C.fns i f (dw hi)
 have hgl:Gl X f:=by show X.env.scope.names.lookup f=some .globalImplicit;rw[C.sc];simpa[be] using hg
 refine(xn F hr hgl hm kp hb .nil yw ha hd he hpl).imp λσ H Q hp=>?_;obtain⟨ι,st,loc,S,L,P⟩:=hp;rw[run] at P;obtain⟨ds,st1,e1,P⟩:=aM P;refine jM S L e1 λH1 ι1 vs E1 S1 r1=>?_;rw[List.append_nil];refine⟨?_,ι1,st1,ds,S1,r1,(gy.val P).mono E1⟩;by_cases hps:ds.length=ps.length
 ·rw[<-r1.length];exact hps
 ·have P2:=gy.val (E:=E0) P;rw[har ds st1 hps] at P2;exact P2.elim
theorem Ej{b:Bt}{as:List Expr}{xs:List Ex}(C:Ctx T g X sc N)(hcm:T.calm=true)(hg:be sc f=true)(hb:AM.lookup f=some b)(ha:PA X (a::as) (tA X.K (runs g xs)))
  (he:starEach (a::as) X.env=(false,eval a X.env)::starEach as X.env)(hpl:(backTo pos (starEach as X.env)).any (·.1)=false):PE X (.Call (.Name f p2) (a::as) [] pos) (tE X.K (run g (.bt b xs))):=by
 have hgl:Gl X f:=by show X.env.scope.names.lookup f=some .globalImplicit;rw[C.sc];simpa[be] using hg
 have hbl:∀x:Str,x∈tf->X.mg x=none:=C.blt
 have key:PE X (.Call (.Name f p2) (a::as) [] pos) (DI (rB X.K b) (tA X.K (runs g xs))):=by
  have hmem:=az hb;have cc:h_ X b.val (rB X.K b):=AL (C.calm hcm) b;simp only[AM,List.mem_cons,List.mem_nil_iff,Prod.mk.injEq,or_false] at hmem;rcases hmem with⟨rfl,rfl⟩|⟨rfl,rfl⟩|⟨rfl,rfl⟩|⟨rfl,rfl⟩|⟨rfl,rfl⟩|⟨rfl,rfl⟩
  ·exact kX cc hgl (hbl _ (by decide+kernel)) PySem.boot_len ha (by decide+kernel) (by decide+kernel) he hpl
  all_goals first
   |exact mB cc hgl (hbl _ (by decide+kernel)) (by decide+kernel) ha (by decide+kernel) (by decide+kernel) he hpl
   |exact kX cc hgl (hbl _ (by decide+kernel)) (by decide+kernel) ha (by decide+kernel) (by decide+kernel) he hpl
 refine key.imp λσ H Q hp=>?_;obtain⟨ι,st,loc,S,L,P⟩:=hp;rw[run] at P;obtain⟨ds,st1,e1,P⟩:=aM P;exact jM S L e1 λH1 ι1 vs E1 S1 r1=>⟨ι1,st1,ds,S1,r1,P.mono E1⟩
theorem wx{t:Str}{ty:Ty}(h:wy.lookup t=some ty):bootBuiltins t=some (.type ty.name)/\t≠ "__name__" /\(t==("__debug__":Str))=false/\t∈tf:=by
 have hmem:=az h;simp only[wy,List.mem_cons,List.mem_nil_iff,Prod.mk.injEq,or_false] at hmem;rcases hmem with⟨rfl,rfl⟩|⟨rfl,rfl⟩|⟨rfl,rfl⟩|⟨rfl,rfl⟩<;>exact⟨by decide+kernel,by decide+kernel,by decide+kernel,by decide+kernel⟩
theorem CJ{t:Str}{ty:Ty}{a':Ex}(C:Ctx T g X sc N)(hg:be sc "isinstance"=true)(hgt:be sc t=true)(ht:wy.lookup t=some ty)(ha:PE X a (tE X.K (run g a')))
  (he:starEach [a,.Name t p3] X.env=(false,eval a X.env)::starEach [.Name t p3] X.env):PE X (.Call (.Name "isinstance" p2) [a,.Name t p3] [] pos) (tE X.K (run g (.isi a' ty))):=by
 have gl:∀{x:Str},be sc x=true->Gl X x:=λ{x} h=>by show X.env.scope.names.lookup x=some .globalImplicit;rw[C.sc];simpa[be] using h
 obtain⟨b1,b2,b3,b4⟩:=wx ht
 have cc:h_ X (.builtin "isinstance") (λvs H Q=>∃ι st d v k,vs=[v,.ty ty.name]/\Sim X.K H ι st/\VRel X.K H ι st.length d v/\i0 st ty d=some k/\Q (.bl k) H):=by
  intro pins s σ H vs us Q I r h;obtain⟨ι,st,d,v,k,rfl,S,rv,e,q⟩:=h;cases r with
  |cons r1 r2=>
   cases r2 with
   |cons r2 r3=>cases r3;cases r2;exact Am I S rv r1 e q
 have ht':PE X (.Name t p3) (tC (.ty ty.name)):=xo (gl hgt) (C.blt t b4) b1 rfl b2 b3;refine(kX cc (gl hg) (C.blt _ (by decide+kernel)) (by decide+kernel) (bZ ha (bZ ht' dP) he) (by decide+kernel) (by decide+kernel) he rfl).imp λσ H Q hp=>?_
 obtain⟨ι,st,loc,S,L,P⟩:=hp;rw[run] at P;obtain⟨x,st1,e1,P⟩:=aM P;refine bh S L e1 λH1 ι1 v E1 S1 r1=>?_;cases e2:i0 st1 ty x with
 |none=>rw[e2] at P;exact P.elim
 |some k=>rw[e2] at P;exact⟨ι1,st1,x,v,k,rfl,S1,r1,e2,(P.mono E1).same S1 (.bl k)⟩
end
set_option maxHeartbeats 8000000
section
variable{T:Tab}{g:eB}{X:Cx}{sc:Scope}{N:List Str}{pos px:Pos}
theorem dg(C:Ctx T g X sc N)(h:dR sc scope N x=true):CompScope X x scope/\x∉X.N/\(x==("__debug__":Str))=false/\(x==("__classdict__":Str))=false:=by
 unfold dR at h;simp only[Bool.and_eq_true,List.all_eq_true] at h;obtain⟨⟨⟨⟨⟨h1,h2⟩,h3⟩,h4⟩,h5⟩,h6⟩:=h;have hx:x∉N:=by simpa using h3
 refine⟨⟨by simpa using h1,λy hy=>?_,λy hy hl=>?_,by simpa using h2,λy hy hf=>?_,λy hy hl=>?_⟩,by rw[C.n];exact hx,by simpa using h4,by simpa using h5⟩
 ·obtain⟨⟨a,b⟩,c⟩:=h6 y hy;simpa using a
 ·obtain⟨⟨a,b⟩,c⟩:=h6 y hy;rw[hl] at b;simp at b;exact b.1
 ·obtain⟨⟨a,b⟩,c⟩:=h6 y hy;rw[hf] at c;have c':sc.names.lookup y.1=some .cell∨sc.names.lookup y.1=some .free:=by simpa using c
  show X.env.scope.names.lookup y.1=_∨X.env.scope.names.lookup y.1=_;rw[C.sc];exact c'
 ·obtain⟨⟨a,b⟩,c⟩:=h6 y hy;rw[hl] at b;simp at b;rw[C.n];exact b.2
theorem lL(C:Ctx T g X sc N)(h:dR sc scope N x=true)(fp:List Addr)(s:Shared)(H:Hp):Ctx T g (bF X x scope fp s H) (ju sc scope) (x::N):=by
 obtain⟨h1,h2,h3,h4⟩:=dg C h;refine⟨?_,?_,List.nodup_cons.mpr ⟨by rw[<-C.n];exact h2,C.nd⟩,λy hy=>?_,C.calm,C.un,C.fns,C.csts,C.blt,C.icl,C.mks,C.ums,C.gds⟩
 ·show relabel scope X.env=ju sc scope;rw[<-C.sc];rfl
 ·show x::X.N=x::N;rw[C.n]
 ·rcases List.mem_cons.mp hy with rfl|hy
  ·exact⟨h3,h4⟩
  ·exact C.nm y hy
theorem jI{K:al}{e:Ex}:EltOk K wB (tE K (run g e)) (λloc x=>aZ (run g e (some x::loc)) λy=>ret (some y)) where
 turn:=λ{H ι st st1 loc σ x v o Q} S L rv e1 k=>by
  unfold wB;refine D6 ?_;simp only[aZ,ret] at e1;cases e2:run g e (some x::loc) st with
  |bad=>rw[e2] at e1;cases e1
  |ok y st2=>rw[e2] at e1;cases e1;exact bh S (L.cons rv) e2 λH1 ι1 w E1 S1 r1=>k H1 ι1 (some w) E1 S1 r1
theorem qU{s':Ex}{k:Loc->Src->M D}(h:tE X.K (λloc=>aZ (run g s' loc) λd=>aZ (dL (c6 false d)) λs=>k loc s) σ H Q)
  (hk:∀{J:It}{s:Src}{ι ι1:Nat->Addr}{st st1:aK}{loc:Loc}{H1:Hp},c8 X.K J s H1 ι1 st1.length->Ext H H1 ι ι1 st.length st1.length->Sim X.K H1 ι1 st1->LRel X.K H1 ι1 st1.length loc σ->cO X.K H ι st (k loc s st1) Q->RR J H1)
  (hbad:∀loc n st,(∀xs,st[n]?≠some (.lst xs))->k loc (.at n) st=.bad):Cn X.K (tE X.K (run g s')) σ H RR:=by
 obtain⟨ι,st,loc,S,L,P⟩:=h;obtain⟨d,st1,e1,P⟩:=aM P;obtain⟨s,st2,e2,P⟩:=aM P;obtain⟨e3,rfl⟩:=bC e2;refine bh S L e1 λH1 ι1 v E1 S1 r1=>?_;cases r1 with
 |tup h r=>cases e3;exact⟨_,rfl,.inr ⟨⟨_,h⟩,hk (c8.tup h r) E1 S1 (L.ext E1) P⟩⟩
 |fl h r=>cases e3;exact⟨_,rfl,.inl ⟨⟨_,h.sql⟩,hk (c8.fl h r) E1 S1 (L.ext E1) P⟩⟩
 | @ref n hn=>
  cases e3;cases q:st2[n]? with
  |none=>
   rw[hbad loc n st2 (λxs z=>by rw[q] at z;cases z)] at P
   exact P.elim
  |some o=>
   cases o with
   |lst xs=>obtain⟨vs,h1,_⟩:=S1.ob n _ q;exact⟨_,rfl,.inl ⟨⟨vs,ez.of h1⟩,hk (c8.ref hn) E1 S1 (L.ext E1) P⟩⟩
   |_=>
    rw[hbad loc n st2 (λxs z=>by rw[q] at z;cases z)] at P
    exact P.elim
 |_=>cases e3
theorem wD{s':Ex}{k:Loc->Src->M D}(h:tE X.K (λloc=>aZ (run g s' loc) λd=>aZ (dL (c6 true d)) λs=>k loc s) σ H Q)
  (hk:∀{J:It}{s:Src}{ι ι1:Nat->Addr}{st st1:aK}{loc:Loc}{H1:Hp},c8 X.K J s H1 ι1 st1.length->Ext H H1 ι ι1 st.length st1.length->Sim X.K H1 ι1 st1->LRel X.K H1 ι1 st1.length loc σ->cO X.K H ι st (k loc s st1) Q->RR J H1):
  yE (qR (tE X.K (run g s')) tU) σ H RR:=by
 obtain⟨ι,st,loc,S,L,P⟩:=h;obtain⟨d,st1,e1,P⟩:=aM P;obtain⟨s,st2,e2,P⟩:=aM P;obtain⟨e3,rfl⟩:=bC e2;refine bh S L e1 λH1 ι1 v E1 S1 r1=>?_;cases r1 with
 |int j=>
  simp only[c6] at e3;split at e3
  ·rename_i hj;cases e3;exact⟨j,rfl,by omega,by omega,hk c8.rng E1 S1 (L.ext E1) P⟩
  ·cases e3
 |_=>cases e3
theorem rL{st:aK}(h:∀xs,st[n]?≠some (.lst xs)):fc (.at n) i st=none:=by
 unfold fc;show(match st[n]? with|some (.lst xs)=>some xs[i]?|_=>none)=none
 cases q:st[n]? with
 |none=>rfl
 |some o=>
  cases o with
  |lst xs=>exact absurd q (h xs)
  |_=>rfl
theorem pq{f:D->M (Option D)}(n:Nat)(st:aK)(h:∀xs,st[n]?≠some (.lst xs)):bX f (.at n) st=.bad:=by
 unfold bX;split
 ·simp only[aZ,di,rL h]
 ·rfl
noncomputable def hZ(g:eB)(X:Cx)(x:Str)(px:Pos)(iter:Expr)(ifs:List Expr)(elt:Expr)(scope:Scope)(y:Ex):Prop:=
 ∃wi tc te,PI X (.Name x px) iter wi/\(∀fp s H,wf (bF X x scope fp s H) ifs tc)/\(∀fp s H,PE (bF X x scope fp s H) elt te)/\(∀v,foldedSetIterable iter X.env v=pure v)/\∀σ H Q,tE X.K (run g y) σ H Q->qS wi tc te σ H Q
theorem hZ.pe{y:Ex}(C:Ctx T g X sc N)(hcm:T.calm=true)(hc:dR sc scope N x=true)(h:hZ g X x px iter ifs elt scope y):PE X (.ListComp elt [⟨.Name x px,iter,ifs,0⟩] scope pos) (tE X.K (run g y)):=by
 obtain⟨wi,tc,te,a,b,c,d,e⟩:=h;obtain⟨h1,h2,_,_⟩:=dg C hc;exact(rF (C.calm hcm) h1 h2 (by rw[C.n];exact C.nd) a b c d).imp e
theorem hZ.ps{z:Str}{y:Ex}{py:Pos}(C:Ctx T g X sc N)(hcm:T.calm=true)(hc:dR sc scope N x=true)(h:hZ g X x px iter ifs elt scope y)(hz:X.N[i]? =some z)(hl:L2.Loc X.env.scope z)(hf:X.fn z=true∨X.env.scope.names.lookup z=some .local):
  PS X (.Assign [.Name z py] (.ListComp elt [⟨.Name x px,iter,ifs,0⟩] scope pos) spos) (pS (tE X.K (run g y)) (d_ i)):=by
 obtain⟨wi,tc,te,a,b,c,d,e⟩:=h;obtain⟨h1,h2,_,_⟩:=dg C hc;exact λpins s σ H D I q=>p9 (C.calm hcm) h1 h2 (by rw[C.n];exact C.nd) a b c d hz hl hf pins s σ H D I (e _ _ _ q)
variable{x:Str}{elt it:Expr}{scope:Scope}{s' e':Ex}
theorem AE(C:Ctx T g X sc N)(hc:dR sc scope N x=true)(hs:PE X it (tE X.K (run g s')))(he:∀fp s H,PE (bF X x scope fp s H) elt (tE X.K (run g e')))(hf:∀v,foldedSetIterable it X.env v=pure v):
  hZ g X x px it [] elt scope (.comp false s' e'):=by
 refine⟨_,_,_,nv hs,λ_ _ _=>ie,he,hf,λσ H Q hp=>?_⟩;obtain⟨ι,st,loc,S,L,P⟩:=hp;rw[run] at P;exact qU (k:=λloc s=>bX (λx=>aZ (run g e' (some x::loc)) λy=>ret (some y)) s) ⟨ι,st,loc,S,L,P⟩ (λ{J s ι ι1 st st1 loc H1} F E S1 L1 P1=>io (loc:=loc) (f:=λloc x=>aZ (run g e' (some x::loc)) λy=>ret (some y)) jI F E S1 L1 P1) (λ_=>pq)
variable{a:Expr}{p3 p4:Pos}
theorem xR(C:Ctx T g X sc N)(hc:dR sc scope N x=true)(hg:be sc "range"=true)(hst:starEach [a] X.env=[(false,eval a X.env)])(hs:PE X a (tE X.K (run g s')))(he:∀fp s H,PE (bF X x scope fp s H) elt (tE X.K (run g e'))):
  hZ g X x px (.Call (.Name "range" p3) [a] [] p4) [] elt scope (.comp true s' e'):=by
 have hgl:Gl X "range":=by show X.env.scope.names.lookup _=some .globalImplicit;rw[C.sc];simpa[be] using hg
 refine⟨_,_,_,my hgl (C.blt _ (by decide+kernel)) (bZ hs dP hst) hst,λ_ _ _=>ie,he,λ_=>rfl,λσ H Q hp=>?_⟩
 obtain⟨ι,st,loc,S,L,P⟩:=hp;rw[run] at P;exact wD (k:=λloc s=>bX (λx=>aZ (run g e' (some x::loc)) λy=>ret (some y)) s) ⟨ι,st,loc,S,L,P⟩ (λ{J s ι ι1 st st1 loc H1} F E S1 L1 P1=>io (loc:=loc) (f:=λloc x=>aZ (run g e' (some x::loc)) λy=>ret (some y)) jI F E S1 L1 P1)
end
section
variable{T:Tab}{g:eB}{X:Cx}{sc:Scope}{N:List Str}{px p3 p4:Pos}{x:Str}{elt a b:Expr}{scope:Scope}{a' b' e':Ex}
theorem xU(C:Ctx T g X sc N)(hc:dR sc scope N x=true)(hg:be sc "range"=true)(hst:starEach [a,b] X.env=(false,eval a X.env)::starEach [b] X.env)(hst2:starEach [b] X.env=[(false,eval b X.env)])(ha:PE X a (tE X.K (run g a')))(hb:PE X b (tE X.K (run g b')))(he:∀fp s H,PE (bF X x scope fp s H) elt (tE X.K (run g e'))):
  hZ g X x px (.Call (.Name "range" p3) [a,b] [] p4) [] elt scope (.comp2 a' b' e'):=by
 have hgl:Gl X "range":=by show X.env.scope.names.lookup _=some .globalImplicit;rw[C.sc];simpa[be] using hg
 refine⟨_,_,_,sD hgl (C.blt _ (by decide+kernel)) (bZ ha (bZ hb dP hst2) hst) (by rw[hst,hst2]) hst2,λ_ _ _=>ie,he,λ_=>rfl,λσ H Q hp=>?_⟩
 obtain⟨ι,st,loc,S,L,P⟩:=hp;rw[run] at P;obtain⟨d,st1,e1,P⟩:=aM P;obtain⟨d2,st2,e2,P⟩:=aM P;obtain⟨s,st3,e3,P⟩:=aM P;obtain⟨e4,rfl⟩:=bC e3;refine bh S L e1 λH1 ι1 v E1 S1 r1=>bh S1 (L.ext E1) e2 λH2 ι2 v2 E2 S2 r2=>?_;unfold j7 at e4;split at e4
 ·split at e4
  ·rename_i hj;cases e4;cases r1;cases r2;exact⟨_,_,rfl,⟨by omega,by omega,by omega,by omega⟩,io (loc:=loc) (f:=λloc x=>aZ (run g e' (some x::loc)) λy=>ret (some y)) jI c8.rng2 (E1.trans E2) S2 (L.ext (E1.trans E2)) P⟩
  ·cases e4
 ·cases e4
end
theorem jk{T:Tab}{x:Ex}(h:cE T n sc N b=some x)(op:CmpOp):behindInMarks op b=false:=by
 cases n with
 |zero=>cases h
 |succ n=>cases b<;>first|rfl|cases h
theorem ku{T:Tab}{x:Ex}(h:cE T n sc N b=some x)(env:Env)(v:Value):foldedSetIterable b env v=pure v:=by
 cases n with
 |zero=>cases h
 |succ n=>cases b<;>first|rfl|cases h
theorem cr{T:Tab}{x:Ex}(h:cE T n sc N b=some x)(es:List Expr)(env:Env):starEach (b::es) env=(false,eval b env)::starEach es env:=by
 cases n with
 |zero=>cases h
 |succ n=>cases b<;>first|rfl|cases h
noncomputable def cD:D->Bool
 | .tup _=>false
 |_=>true
theorem VRel.seqB{K:al}{st:aK}{d:D}{xs:List D}(S:Sim K H ι st)(r:VRel K H ι st.length d v)(e:a8 st d=some xs):∃a vs,v=.ref a/\lX K (cD d) H a vs/\VRels K H ι st.length xs vs:=by
 cases r with
 |tup h r=>cases e;exact⟨_,_,rfl,h,r⟩
 |fl h r=>cases e;exact⟨_,_,rfl,h.sql,r⟩
 | @ref n hn=>
  simp only[a8] at e;cases q:st[n]? with
  |none=>rw[q] at e;cases e
  |some o=>
   rw[q] at e;cases o with
   |lst zs=>cases e;obtain⟨vs,h1,h2⟩:=S.ob n _ q;exact⟨_,vs,rfl,ez.of h1,h2⟩
   |_=>cases e
 |_=>cases e
theorem em.zp{K:al}{a b:Addr}{x y:D}{H0:Hp}(r1:VRel K H0 ι0 m0 x (.ref a))(r2:VRel K H0 ι0 m0 y (.ref b)):em K (Et K (cD x) (cD y) a b) (.zp x y) H0 ι0 m0:=λH ι st i E S=>by
 simp only[fc];cases q1:a8 st x with
 |none=>exact⟨λe=>(by cases e),λx e=>(by cases e)⟩
 |some xs=>
  cases q2:a8 st y with
  |none=>exact⟨λe=>(by cases e),λx e=>(by cases e)⟩
  |some ys=>
   obtain⟨_,vs,z,h',r⟩:=(r1.ext E).seqB S q1;cases z;obtain⟨_,ws,z,g1,g2⟩:=(r2.ext E).seqB S q2;cases z;have l:=r.length;have l2:=g2.length;dsimp only;refine⟨λe=>?_,λx e=>?_⟩
   ·have e:=ag e;refine⟨vs,ws,h',g1,?_⟩;cases e1:xs[i]? with
    |none=>exact .inl (by have:=List.getElem?_eq_none_iff.mp e1;omega)
    |some x=>
     cases e2:ys[i]? with
     |none=>exact .inr (by have:=List.getElem?_eq_none_iff.mp e2;omega)
     |some y=>rw[e1,e2] at e;cases e
   ·have e:=ag e;cases e1:xs[i]? with
    |none=>rw[e1] at e;cases e
    |some x1=>
     cases e2:ys[i]? with
     |none=>rw[e1,e2] at e;cases e
     |some y1=>rw[e1,e2] at e;have e:D.tup [x1,y1]=x:=ag e;subst e;obtain⟨v,hv,rv⟩:=r.get e1;obtain⟨u,hu,ru⟩:=g2.get e2;refine⟨⟨vs,ws,v,u,h',g1,hv,hu⟩,λw H' yy=>?_⟩;obtain⟨p,z1,z2,rfl,hp,rfl,hz1,hz2⟩:=yy;have k1:=hz1 vs h';rw[hv] at k1;cases k1;have k2:=hz2 ws g1;rw[hu] at k2;cases k2;obtain⟨E1,S1⟩:=S.tup (xs:=[v,u]) hp;exact⟨E1,S1,.tup (.inl (.inl bw)) (.cons (rv.ext E1) (.cons (ru.ext E1) .nil))⟩
theorem c8.toG{K:al}{H0:Hp}{s:Src}(F:c8 K J s H0 ι0 m0):em K J s H0 ι0 m0:=λH ι st i E S=>
 ⟨(F H ι st i E S).1,λx e=>⟨((F H ι st i E S).2 x e).1,λv H' y=>by obtain⟨rfl,r⟩:=((F H ι st i E S).2 x e).2 v H' y;exact⟨Ext.refl _ _ _,S,r⟩⟩⟩
section
variable{T:Tab}{g:eB}{X:Cx}{sc scope:Scope}{N:List Str}{pos px py pt p3 p4:Pos}{x y:Str}
theorem eh(h:db sc scope N x y=true):dR sc scope N x=true/\scope.names.lookup y=some .local/\y∉N/\x≠y/\(y==("__debug__":Str))=false/\(y==("__classdict__":Str))=false:=by
 unfold db at h;simp only[Bool.and_eq_true] at h;obtain⟨⟨⟨⟨⟨h1,h2⟩,h3⟩,h4⟩,h5⟩,h6⟩:=h;exact⟨h1,by simpa using h2,by simpa using h3,by simpa using h4,by simpa using h5,by simpa using h6⟩
theorem jJ(C:Ctx T g X sc N)(h:db sc scope N x y=true)(fp:List Addr)(s:Shared)(H:Hp):Ctx T g (bj X x y scope fp s H) (ju sc scope) (x::y::N):=by
 obtain⟨h1,h2,h3,h4,h5,h6⟩:=eh h;have C1:=lL C h1 fp s H;have nx:x∉N:=(List.nodup_cons.mp C1.nd).1;refine⟨C1.sc,?_,?_,λz hz=>?_,C1.calm,C1.un,C1.fns,C1.csts,C1.blt,C1.icl,C1.mks,C1.ums,C1.gds⟩
 ·show x::y::X.N=x::y::N;rw[C.n]
 ·refine List.nodup_cons.mpr ⟨λz=>?_,List.nodup_cons.mpr ⟨h3,C.nd⟩⟩;rcases List.mem_cons.mp z with z|z
  ·exact h4 z
  ·exact nx z
 ·rcases List.mem_cons.mp hz with rfl|hz
  ·exact C1.nm _ List.mem_cons_self
  ·rcases List.mem_cons.mp hz with rfl|hz
   ·exact⟨h5,h6⟩
   ·exact C.nm z hz
theorem Ay{f:D->M (Option D)}(n:Nat)(st:aK)(h:∀xs,st[n]?≠some (.lst xs)):bX f (.en n) st=.bad:=by
 have hb:∀i,fc (.en n) i st=none:=λi=>by
  unfold fc;show(match st[n]? with|some (.lst xs)=>some (xs[i]?.map λx=>D.tup [.int (i:Int),x])|_=>none)=none
  cases q:st[n]? with
  |none=>rfl
  |some o=>
   cases o with
   |lst xs=>exact absurd q (h xs)
   |_=>rfl
 unfold bX;split
 ·simp only[aZ,di,hb]
 ·rfl
noncomputable def fJ(g:eB)(X:Cx)(x y:Str)(px py:Pos)(k:Nat)(pt:Pos)(iter:Expr)(ifs:List Expr)(elt:Expr)(scope:Scope)(z:Ex):Prop:=
 ∃wi gg tc te,PI X (.Tuple [.Name x px,.Name y py] k pt) iter wi/\(∀fp s H,PG (bj X x y scope fp s H) (.Tuple [.Name x px,.Name y py] k pt) gg)/\(∀fp s H,wf (bj X x y scope fp s H) ifs tc)/\(∀fp s H,PE (bj X x y scope fp s H) elt te)/\(∀v,foldedSetIterable iter X.env v=pure v)/\∀σ H Q,tE X.K (run g z) σ H Q->j6 wi gg tc te σ H Q
theorem fJ.pe{k:Nat}{z:Ex}(C:Ctx T g X sc N)(hcm:T.calm=true)(hc:db sc scope N x y=true)(h:fJ g X x y px py k pt iter ifs elt scope z):PE X (.ListComp elt [⟨.Tuple [.Name x px,.Name y py] k pt,iter,ifs,0⟩] scope pos) (tE X.K (run g z)):=by obtain⟨wi,gg,tc,te,a,b,c,d,e,f⟩:=h;obtain⟨h1,h2,_,_⟩:=dg C (eh hc).1;exact(mz (C.calm hcm) h1 h2 a b c d e).imp f
theorem fJ.ps{k:Nat}{z:Ex}{nm:Str}{pn:Pos}(C:Ctx T g X sc N)(hcm:T.calm=true)(hc:db sc scope N x y=true)(h:fJ g X x y px py k pt iter ifs elt scope z)(hz:X.N[i]? =some nm)(hl:L2.Loc X.env.scope nm)(hf:X.fn nm=true∨X.env.scope.names.lookup nm=some .local):
  PS X (.Assign [.Name nm pn] (.ListComp elt [⟨.Tuple [.Name x px,.Name y py] k pt,iter,ifs,0⟩] scope pos) spos) (pS (tE X.K (run g z)) (d_ i)):=by
 obtain⟨wi,gg,tc,te,a,b,c,d,e,f⟩:=h;obtain⟨h1,h2,_,_⟩:=dg C (eh hc).1;exact λpins s σ H D I q=>oK (C.calm hcm) h1 h2 (by rw[C.n];exact C.nd) a b c d e hz hl hf pins s σ H D I (f _ _ _ q)
theorem yU{a':Ex}{k:Loc->Src->M D}(h:tE X.K (λloc=>aZ (run g a' loc) λd=>aZ (dL (lE d)) λs=>k loc s) σ H Q)
  (hk:∀{J:It}{s:Src}{ι ι1:Nat->Addr}{st st1:aK}{loc:Loc}{H1:Hp},em X.K J s H1 ι1 st1.length->Ext H H1 ι ι1 st.length st1.length->Sim X.K H1 ι1 st1->LRel X.K H1 ι1 st1.length loc σ->cO X.K H ι st (k loc s st1) Q->RR J H1)
  (hbad:∀loc n st,(∀xs,st[n]?≠some (.lst xs))->k loc (.en n) st=.bad):vq X.K (qR (tE X.K (run g a')) tU) σ H RR:=by
 obtain⟨ι,st,loc,S,L,P⟩:=h;obtain⟨d,st1,e1,P⟩:=aM P;obtain⟨s,st2,e2,P⟩:=aM P;obtain⟨e3,rfl⟩:=bC e2;refine bh S L e1 λH1 ι1 v E1 S1 r1=>?_;have r1':=r1;cases r1 with
 | @ref n hn=>
  cases e3;cases q:st2[n]? with
  |none=>rw[hbad loc n st2 (λxs z=>by rw[q] at z;cases z)] at P;exact P.elim
  |some o=>
   cases o with
   |lst xs=>obtain⟨vs,h1,_⟩:=S1.ob n _ q;exact⟨_,rfl,.inl ⟨⟨vs,ez.of h1⟩,hk (em.en hn) E1 S1 (L.ext E1) P⟩⟩
   |_=>rw[hbad loc n st2 (λxs z=>by rw[q] at z;cases z)] at P;exact P.elim
 |tup hq r=>cases e3;exact⟨_,rfl,.inr ⟨⟨_,hq⟩,hk (em.enT r1') E1 S1 (L.ext E1) P⟩⟩
 |_=>cases e3
theorem xS{k:Nat}{a' z:Ex}{tc:TT}{te:TE}{B:Loc->M (Option D)}(C:Ctx T g X sc N)(hcm:T.calm=true)(hc:db sc scope N x y=true)(hg:be sc "enumerate"=true)(hst:starEach [a] X.env=[(false,eval a X.env)])(hs:PE X a (tE X.K (run g a')))
  (ht:∀fp s H,wf (bj X x y scope fp s H) ifs tc)(he:∀fp s H,PE (bj X x y scope fp s H) elt te)
  (hz:∀loc,run g z loc=aZ (run g a' loc) λd=>aZ (dL (lE d)) λs=>bX (λx=>match x with| .tup [a,b]=>B (some a::some b::loc)|_=>stuck) s)
  (hB:∀{H:Hp}{ι:Nat->Addr}{st st1:aK}{loc:Loc}{σ:L2.St}{o:Option D}{Q:Option V->Hp->Prop},Sim X.K H ι st->LRel X.K H ι st.length loc σ->B loc st=.ok o st1->
   (∀H1 ι1 w,Ext H H1 ι ι1 st.length st1.length->Sim X.K H1 ι1 st1->(match o,w with|some y,some z=>VRel X.K H1 ι1 st1.length y z|none,none=>True|_,_=>False)->Q w H1)->tc σ H λb H5=>if b=true then te σ H5 λy H4=>Q (some y) H4 else Q none H5):
  fJ g X x y px py k pt (.Call (.Name "enumerate" p3) [a] [] p4) ifs elt scope z:=by
 have hgl:Gl X "enumerate":=by show X.env.scope.names.lookup _=some .globalImplicit;rw[C.sc];simpa[be] using hg
 obtain⟨h1,h2,h3,h4,h5,h6⟩:=eh hc;obtain⟨c1,c2,_,_⟩:=dg C h1;have lx:(relabel scope X.env).names.lookup x=some .local:=lookup_relabel_local c1.own;have ly:(relabel scope X.env).names.lookup y=some .local:=lookup_relabel_local h2
 have nd:(x::y::X.N).Nodup:=by have:=(jJ C hc [] X.s₀ (λ_=>none)).nd;rw[C.n];exact this
 refine⟨_,vK X.K 2 (iE (d_ 0) (iE (d_ 1) sR)),_,_,oN hgl (C.blt _ (by decide+kernel)) (bZ hs dP hst) hst,
  (λfp s H=>uP (X:=bj X x y scope fp s H) (C.calm hcm) (gT (fX (i:=0) nd rfl (.inl lx) (.inr lx)) (gT (fX (i:=1) nd rfl (.inl ly) (.inr ly)) nw))),ht,he,λ_=>rfl,λσ H Q ⟨ι,st,loc,S,L,P⟩=>?_⟩
 rw[hz] at P;refine yU (k:=λloc s=>bX (λx=>match x with| .tup [a,b]=>B (some a::some b::loc)|_=>stuck) s) ⟨ι,st,loc,S,L,P⟩ (λ{J s ι ι1 st st1 loc H1} F E S1 L1 P1=>?_) (λ_=>Ay)
 refine jh (tt:=λv H' K=>∀o1 o2:Option V,vK X.K 2 (iE (d_ 0) (iE (d_ 1) sR)) v (o1::o2::σ) H' λσ2 H3=>(∃p1 p2,σ2=p1::p2::σ)/\tc σ2 H3 λb H5=>if b=true then te σ2 H5 λy H4=>K (some y) H4 else K none H5) ⟨?_⟩ F E S1 P1
 intro H2 ι2 st3 st4 z v o K E2 S2 rv ee k o1 o2;split at ee
 ·cases rv with
  |tup hq rr=>
   cases rr with
   |cons ra rr=>
    cases rr with
    |cons rb rr=>cases rr;exact⟨_,_,rfl,hq,rfl,_,_,rfl,_,_,rfl,rfl,⟨_,_,rfl⟩,hB S2 (((L1.ext E2).cons rb).cons ra) ee k⟩
 ·cases ee
theorem og{st st1:aK}{loc:Loc}{o:Option D}{Q:Option V->Hp->Prop}{e':Ex}(S:Sim X.K H ι st)(L:LRel X.K H ι st.length loc σ)(k:∀H1 ι1 w,Ext H H1 ι ι1 st.length st1.length->Sim X.K H1 ι1 st1->(match o,w with|some y,some z=>VRel X.K H1 ι1 st1.length y z|none,none=>True|_,_=>False)->Q w H1)(ee:aZ (run g e' loc) (λy=>ret (some y)) st=.ok o st1):tE X.K (run g e') σ H λy H4=>Q (some y) H4:=by
 cases e5:run g e' loc st with
 |bad=>simp only[aZ,e5] at ee;cases ee
 |ok w st5=>simp only[aZ,ret,e5] at ee;cases ee;exact bh S L e5 λH5 ι5 w E5 S5 r5=>k H5 ι5 (some w) E5 S5 r5
theorem xT{k:Nat}{a' e':Ex}(C:Ctx T g X sc N)(hcm:T.calm=true)(hc:db sc scope N x y=true)(hg:be sc "enumerate"=true)(hst:starEach [a] X.env=[(false,eval a X.env)])(hs:PE X a (tE X.K (run g a')))(he:∀fp s H,PE (bj X x y scope fp s H) elt (tE X.K (run g e'))):
  fJ g X x y px py k pt (.Call (.Name "enumerate" p3) [a] [] p4) [] elt scope (.compE a' e'):=
 xS C hcm hc hg hst hs (λ_ _ _=>ie) he (B:=λloc=>aZ (run g e' loc) λy=>ret (some y)) (λ_=>by rw[run]<;>rfl) λ{H ι st st1 loc σ o Q} S L ee k=>Eq.mpr (if_pos (e:=Q none H) (rfl:true=true)) (og S L k ee)
theorem pr{k:Nat}(C:Ctx T g X sc N)(hcm:T.calm=true)(hc:db sc scope N x y=true):∀fp s H,PG (bj X x y scope fp s H) (.Tuple [.Name x px,.Name y py] k pt) (vK X.K 2 (iE (d_ 0) (iE (d_ 1) sR))):=by
 obtain⟨h1,h2,h3,h4,h5,h6⟩:=eh hc;obtain⟨c1,c2,_,_⟩:=dg C h1;have lx:(relabel scope X.env).names.lookup x=some .local:=lookup_relabel_local c1.own;have ly:(relabel scope X.env).names.lookup y=some .local:=lookup_relabel_local h2
 have nd:(x::y::X.N).Nodup:=by have:=(jJ C hc [] X.s₀ (λ_=>none)).nd;rw[C.n];exact this
 exact λfp s H=>uP (X:=bj X x y scope fp s H) (C.calm hcm) (gT (fX (i:=0) nd rfl (.inl lx) (.inr lx)) (gT (fX (i:=1) nd rfl (.inl ly) (.inr ly)) nw))
theorem mL{H1:Hp}{st1:aK}{loc:Loc}{e':Ex}(L:LRel X.K H1 ι1 st1.length loc σ):
  EltG X.K (λv H' K=>∀o1 o2:Option V,vK X.K 2 (iE (d_ 0) (iE (d_ 1) sR)) v (o1::o2::σ) H' λσ2 H3=>(∃p1 p2,σ2=p1::p2::σ)/\wB σ2 H3 λb H5=>if b=true then tE X.K (run g e') σ2 H5 λy H4=>K (some y) H4 else K none H5) (pairF λa b=>run g e' (some a::some b::loc)) H1 ι1 st1.length:=⟨by
 intro H2 ι2 st3 st4 z v o K E2 S2 rv ee k o1 o2;unfold pairF at ee;split at ee
 ·cases rv with
  |tup hq rr=>
   cases rr with
   |cons ra rr=>
    cases rr with
    |cons rb rr=>cases rr;exact⟨_,_,rfl,hq,rfl,_,_,rfl,_,_,rfl,rfl,⟨_,_,rfl⟩,Eq.mpr (if_pos (e:=K none H2) (rfl:true=true)) (og S2 (((L.ext E2).cons rb).cons ra) k ee)⟩
 ·cases ee⟩
theorem xQ{k:Nat}{s' e':Ex}(C:Ctx T g X sc N)(hcm:T.calm=true)(hc:db sc scope N x y=true)(hs:PE X it (tE X.K (run g s')))(hf:∀v,foldedSetIterable it X.env v=pure v)(he:∀fp s H,PE (bj X x y scope fp s H) elt (tE X.K (run g e'))):
  fJ g X x y px py k pt it [] elt scope (.compU s' e'):=by
 refine⟨_,_,_,_,nv hs,pr C hcm hc,λfp s H=>ie,he,hf,λσ H Q hp=>?_⟩;obtain⟨ι,st,loc,S,L,P⟩:=hp;rw[run] at P;exact qU (k:=λloc s=>bX (pairF λa b=>run g e' (some a::some b::loc)) s) (Q:=Q) ⟨ι,st,loc,S,L,P⟩ (λ{J s ι ι1 st st1 loc H1} F E S1 L1 P1=>jh (mL L1) (c8.toG F) E S1 P1) (λ_=>pq)
theorem yc{x y:D}{st:aK}(i:Nat)(h:a8 st x=none∨a8 st y=none):fc (.zp x y) i st=none:=by
 simp only[fc];rcases h with h|h
 ·rw[h]
 ·rw[h];cases a8 st x<;>rfl
theorem tm{f:D->M (Option D)}{x y:D}{st:aK}(h:a8 st x=none∨a8 st y=none):bX f (.zp x y) st=.bad:=by
 unfold bX;split
 ·simp only[aZ,di,yc 0 h]
 ·rfl
theorem xP{k:Nat}{a1 a2 e':Ex}(C:Ctx T g X sc N)(hcm:T.calm=true)(hc:db sc scope N x y=true)(hg:be sc "zip"=true)(hst:starEach [a,b] X.env=(false,eval a X.env)::starEach [b] X.env)(hst2:starEach [b] X.env=[(false,eval b X.env)])
  (ha:PE X a (tE X.K (run g a1)))(hb:PE X b (tE X.K (run g a2)))(he:∀fp s H,PE (bj X x y scope fp s H) elt (tE X.K (run g e'))):
  fJ g X x y px py k pt (.Call (.Name "zip" p3) [a,b] [] p4) [] elt scope (.compZ a1 a2 e'):=by
 have hgl:Gl X "zip":=by show X.env.scope.names.lookup _=some .globalImplicit;rw[C.sc];simpa[be] using hg
 refine⟨_,_,_,_,uO hgl (C.blt _ (by decide+kernel)) (bZ ha (bZ hb dP hst2) hst) hst hst2,pr C hcm hc,λfp s H=>ie,he,λ_=>rfl,λσ H Q hp=>?_⟩
 obtain⟨ι,st,loc,S,L,P⟩:=hp;rw[run] at P;obtain⟨d,st1,e1,P⟩:=aM P;obtain⟨d2,st2,e2,P⟩:=aM P;obtain⟨s,st3,e3,P⟩:=aM P;obtain⟨e4,rfl⟩:=bC e3;refine bh S L e1 λH1 ι1 v E1 S1 r1=>bh S1 (L.ext E1) e2 λH2 ι2 v2 E2 S2 r2=>?_;cases e4;cases q1:a8 st3 d with
 |none=>rw[tm (.inl q1)] at P;exact P.elim
 |some xs=>
  cases q2:a8 st3 d2 with
  |none=>rw[tm (.inr q2)] at P;exact P.elim
  |some ys=>obtain⟨_,vs,z,h1,_⟩:=(r1.ext E2).seqB S2 q1;cases z;obtain⟨_,ws,z,h2,_⟩:=r2.seqB S2 q2;cases z;exact⟨_,_,_,_,rfl,⟨vs,h1⟩,⟨ws,h2⟩,jh (mL (L.ext (E1.trans E2))) (em.zp (r1.ext E2) r2) (E1.trans E2) S2 P⟩
end
theorem DRels.zip{K:al}:∀{ks:List Str}{ds:List D}{vs:List V},VRels K H ι m ds vs->DRels K H ι m ((ks.zip ds).map λp=>(Sum.inr p.1,p.2)) ((ks.zip vs).map λq=>((Sum.inr q.1:Key),q.2))
 |[],_,_,_=>.nil
 |_::_,_,_,.nil=>.nil
 |_::_,_,_,.cons h t=>.cons h (DRels.zip t)
section
variable{T:Tab}{g:eB}{X:Cx}{sc:Scope}{N:List Str}{pos p1 p2 q1 q2:Pos}
theorem ln(C:Ctx T g X sc N)(h:be sc x=true):Gl X x:=by show X.env.scope.names.lookup _=some .globalImplicit;rw[C.sc];simpa[be] using h
theorem DRels.anyK{K:al}{k:Key}{kvs:List (Key×D)}{vs:List (Key×V)}(h:DRels K H ι m kvs vs):(kvs.any λkv=>decide (kv.1=k))=vs.any λkv=>decide (kv.1=k):=by
 induction h with
 |nil=>rfl
 |cons h t ih=>rw[List.any_cons,List.any_cons,ih]
theorem DRels.repl{K:al}{k:Key}{d:D}{kvs:List (Key×D)}{vs:List (Key×V)}(h:DRels K H ι m kvs vs)(q:VRel K H ι m d v):DRels K H ι m (kvs.map λkv=>if kv.1=k then(kv.1,d) else kv) (vs.map λkv=>if kv.1=k then(kv.1,v) else kv):=by
 induction h with
 |nil=>exact .nil
 | @cons k' d' v' ds vs h t ih=>
  rw[List.map_cons,List.map_cons];by_cases e:k'=k
  ·rw[if_pos e,if_pos e];exact .cons q ih
  ·rw[if_neg e,if_neg e];exact .cons h ih
theorem DRels.put{K:al}{k:Key}{d:D}{kvs:List (Key×D)}{vs:List (Key×V)}(h:DRels K H ι m kvs vs)(q:VRel K H ι m d v):DRels K H ι m (c9 kvs k d) (putK vs k v):=by
 unfold c9 putK;rw[h.anyK];split
 ·exact h.repl q
 ·exact h.append (.cons q .nil)
theorem rC{K:al}{H:Hp}{ι:Nat->Addr}{m:Nat}:∀{ds:List D}{vs:List V}{ps:List (Key×D)},nr ds=some ps->VRels K H ι m ds vs->∃qs,Er K H qs vs/\DRels K H ι m ps qs
 |[],_,_,h,.nil=>by cases h;exact⟨[],.nil,.nil⟩
 |d::ds,_,_,h,.cons (v:=v) (vs:=vs) r t=>by
  obtain⟨p,h1,h⟩:=bs h;obtain⟨ps,h2,rfl⟩:=map_some h;obtain⟨qs,q1,q2⟩:=rC h2 t;cases d with
  |tup xs=>
   obtain⟨z,h3,h1⟩:=bs h1;obtain⟨k,h4,rfl⟩:=map_some h1;cases eU h3;cases r with
   |tup hq rr=>
    cases rr with
    |cons ra rr=>
     cases rr with
     |cons rb rr=>cases rr;have:=nE h4 ra;subst this;exact⟨(k,_)::qs,.cons ⟨_,rfl,hq⟩ q1,.cons rb q2⟩
  |_=>cases h1
theorem o_{K:al}{H:Hp}{ι:Nat->Addr}{m:Nat}:∀{ps:List (Key×D)}{qs:List (Key×V)},DRels K H ι m ps qs->∀{acc:List (Key×D)}{bcc:List (Key×V)},DRels K H ι m acc bcc->DRels K H ι m (ps.foldl (λacc p=>c9 acc p.1 p.2) acc) (qs.foldl (λacc p=>putK acc p.1 p.2) bcc)
 |_,_,.nil,_,_,q=>q
 |_,_,.cons h t,_,_,q=>o_ t (q.put h)
theorem AC{a':Ex}(C:Ctx T g X sc N)(hcm:T.calm=true)(hg:be sc "list"=true)(hg2:be sc "reversed"=true)(hst:starEach [a] X.env=[(false,eval a X.env)])(ha:PE X a (tE X.K (run g a'))):
  PE X (.Call (.Name "list" p1) [.Call (.Name "reversed" p2) [a] [] q2] [] q1) (tE X.K (run g (.lrev a'))):=by
 refine(uT (C.calm hcm) (ln C hg) (C.blt _ (by decide+kernel)) (ln C hg2) (C.blt _ (by decide+kernel)) ha hst).imp λσ H Q hp=>?_
 obtain⟨ι,st,loc,S,L,P⟩:=hp;rw[run] at P;obtain⟨x,st1,e1,P⟩:=aM P;refine bh S L e1 λH1 ι1 v E1 S1 r1=>?_;cases r1 with
 |tup h r=>exact⟨_,_,rfl,h,λp hp=>(show cO X.K H ι st (alloc _ st1) Q from P).mono E1|>.alloc S1 r.rev p hp⟩
 |_=>exact P.elim
theorem xO{a':Ex}(C:Ctx T g X sc N)(hcm:T.calm=true)(hg:be sc "dict"=true)(hst:starEach [a] X.env=[(false,eval a X.env)])(ha:PE X a (tE X.K (run g a'))):PE X (.Call (.Name "dict" p1) [a] [] q1) (tE X.K (run g (.dictP a'))):=by
 refine(mB (qB (C.calm hcm)) (ln C hg) (C.blt _ (by decide+kernel)) (by decide+kernel) (bZ ha dP hst) (by decide+kernel) (by decide+kernel) hst rfl).imp λσ H Q hp=>?_
 obtain⟨ι,st,loc,S,L,P⟩:=hp;rw[run] at P;obtain⟨x,st1,e1,P⟩:=aM P;refine bh S L e1 λH1 ι1 v E1 S1 r1=>?_;unfold lI at P;split at P
 ·split at P
  ·rename_i xs q;split at P
   ·rename_i ps hps;cases r1 with
    |ref hn=>
     obtain⟨ys,h1,h2⟩:=S1.ob _ _ q;obtain⟨vs,k1,k2⟩:=rC hps h2;refine⟨_,ys,vs,rfl,h1,k1,λp hp=>?_⟩;obtain⟨ι',E,e,S'⟩:=S1.laid (o:= .dct (iF ps)) (ho:= .dK (qv vs)) hp (λι' g1 g2=>⟨qv vs,bw,(o_ k2 .nil).ext0 ⟨Nat.le_succ _,g1,λb xs e=>by rw[aD (aw e hp)];exact e,λb ob u e=>by rw[aD (aw e hp)];exact e⟩⟩)
     have l:(st1++[O.dct (iF ps)]).length=st1.length+1:=by simp
     refine P _ ι' (.ref p) (by rw[l];exact E1.trans E) S' ?_
     rw[<-e,l];exact .ref (aI _)
   ·exact P.elim
  ·exact P.elim
 ·exact P.elim
theorem ir(hk:fj o=true)(m:Str)(env:Env):attributeBase o m env (eval o env)=eval o env:=by
 cases o with
 |Name=>rfl
 |Attribute=>rfl
 |Subscript=>rfl
 |Call f as ks p=>
  cases f with
  |Attribute=>rfl
  |Name=>
   cases as with
   |nil=>cases hk
   |cons=>rfl
  |_=>cases hk
 |_=>cases hk
theorem VRels.dropLast{K:al}{ds:List D}(r:VRels K H ι m ds vs):VRels K H ι m ds.dropLast vs.dropLast:=by rw[List.dropLast_eq_take,List.dropLast_eq_take,<-r.length];exact r.take _
theorem AA{o':Ex}{m:Str}(hm:vh m=true)(hl:(ap.endLine==cp.line)=true)(hb:attributeBase o m X.env (eval o X.env)=eval o X.env)(ho:PE X o (tE X.K (run g o'))):
  PE X (.Call (.Attribute o m ap) [] [] cp) (tE X.K (run g (.pop o' false))):=by
 have hm:m= "pop":=by simpa[vh] using hm
 subst hm;refine(uX PySem.F.plainAttrs_list PySem.F.slot_list_pop PySem.F.type_list_pop Aa ho hb hl).imp λσ H Q hp=>?_;obtain⟨ι,st,loc,S,L,P⟩:=hp;rw[run] at P;obtain⟨x,st1,e1,P⟩:=aM P;refine bh S L e1 λH1 ι1 v E1 S1 r1=>?_;unfold oM at P;split at P
 ·rename_i n;split at P
  ·rename_i xs q;rw[if_neg (by decide)] at P
   split at P
   ·rename_i y hy;cases r1 with
    |ref hn=>
     obtain⟨vs,g1,g2⟩:=S1.ob _ _ q;obtain⟨u,hu,ru⟩:=g2.get hy;obtain⟨E4,S4⟩:=S1.write q g2.dropLast;have E4':Ext H1 (bx H1 (ι1 n) (.lst vs.dropLast)) ι1 ι1 st1.length (st1.set n (O.lst xs.dropLast)).length:=by rw[aA];exact E4
     exact⟨.inl ⟨rfl,vs,ez.of g1⟩,_,vs,u,rfl,rfl,g1,by rw[<-g2.length];exact hu,P _ ι1 _ (E1.trans E4') S4 (ru.ext E4')⟩
   ·exact P.elim
  ·exact P.elim
 ·exact P.elim
noncomputable def SD(T:Tab)(g:eB)(n:Nat):Prop:=∀{X:Cx}{sc:Scope}{N:List Str}{es:List Expr}{xs:List Ex}{ks:List Str}{keys:List (Option Expr)}(pos:Pos),Ctx T g X sc N->s_ T n sc N es=some xs->r8 keys=some ks->ks.length=es.length->
 ∃trs,C8 X pos keys es trs/\keys.length=es.length/\keys.all (·.isSome)=true/\∀{σ:L2.St}{H:Hp}{ι:Nat->Addr}{st:aK}{loc:Loc}{ds:List D}{st1:aK}{Q:List (V×V)->Hp->Prop},Sim X.K H ι st->LRel X.K H ι st.length loc σ->runs g xs loc st=.ok ds st1->
  (∀H1 ι1 vs,Ext H H1 ι ι1 st.length st1.length->Sim X.K H1 ι1 st1->VRels X.K H1 ι1 st1.length ds vs->Q ((ks.zip vs).map λp=>(V.str p.1,p.2)) H1)->nb trs σ H Q
theorem wT(h:∀{X:Cx}{sc:Scope}{N:List Str}{e:Expr}{x:Ex},Ctx T g X sc N->cE T n sc N e=some x->PE X e (tE X.K (run g x)))(hs:SD T g n):SD T g (n+1):=by
 intro X sc N es xs ks keys pos C e hk hl;cases keys with
 |nil=>
  cases hk;cases es with
  |cons=>cases hl
  |nil=>
   cases e;exact⟨[],xk,rfl,rfl,λ{σ H ι st loc ds st1 Q} S L e1 k=>by rw[runs] at e1;cases e1;exact k H ι [] (Ext.refl _ _ _) S .nil⟩
 |cons k r=>
  obtain⟨kk,h0,hk⟩:=bs hk;obtain⟨ks2,hq,rfl⟩:=map_some hk;obtain⟨_,_,rfl⟩:=tX h0;cases es with
  |nil=>cases hl
  |cons a0 as0=>
   obtain⟨e',e2,e⟩:=bs e;obtain⟨r',r2,rfl⟩:=map_some e;obtain⟨trs,h1,h2,h3,h4⟩:=hs pos C r2 hq (by simpa using hl)
   refine⟨_,uL uQ (h C e2) h1,by simp[h2],by simp[h3],λ{σ H ι st loc ds st1 Q} S L e1 k=>?_⟩
   rw[runs] at e1;unfold aZ at e1;cases e5:run g e' loc st with
   |bad=>rw[e5] at e1;cases e1
   |ok d st2=>
    rw[e5] at e1;simp only[aZ] at e1;cases e6:runs g r' loc st2 with
    |bad=>rw[e6] at e1;cases e1
    |ok ds2 st3=>rw[e6] at e1;cases e1;show tE X.K (run g e') σ H _;exact bh S L e5 λH1 ι1 v E1 S1 r1=>h4 S1 (L.ext E1) e6 λH2 ι2 vs E2 S2 r2=>k H2 ι2 (v::vs) (E1.trans E2) S2 (.cons (r1.ext E2) r2)
theorem AD{k:Option Expr}{ks:List (Option Expr)}{ks':List Str}{xs:List Ex}(hs:SD T g n)(C:Ctx T g X sc N)(hk:r8 (k::ks)=some ks')(he:s_ T n sc N es=some xs)(hl:ks'.length=es.length)(h15:ks'.length<=15)(hn:ks'.Nodup):
  PE X (.Dict (k::ks) es pos) (tE X.K (run g (.dict ks' xs))):=by
 obtain⟨trs,h1,h2,h3,h4⟩:=hs pos C he hk hl;refine(xm h1 h3 h2 (by simp) (by rw[h2,<-hl];exact h15)).imp λσ H Q hp=>?_
 obtain⟨ι,st,loc,S,L,P⟩:=hp;intro p hp;rw[run] at P;obtain⟨ds,st1,e1,P⟩:=aM P;have E0:Ext H (bx H p (.dK [])) ι ι st.length st.length:=⟨⟨ae _,λ_ _=>rfl,λb ys e=>by rw[aD (aw e hp)];exact e,λb ob u e=>by rw[aD (aw e hp)];exact e⟩,λb ob e k=>⟨by rw[aD (aw e hp)];exact e,k⟩⟩
 have hap:∀n,n<st.length->ι n≠p:=λn hn=>by obtain⟨_,h,_⟩:=S.obj hn;exact aw h hp
 have S0:Sim X.K (bx H p (.dK [])) ι st:=by refine⟨S.inj,λn o e=>?_⟩;have hn:n<st.length:=(aL e).1;have old:=S.ob n o e;exact old.move E0.toExt0 (aD (hap n hn))
 refine h4 S0 (L.ext E0) e1 λH1 ι1 vs E1 S1 r1=>?_;obtain⟨hp1,ap1⟩:=E1.fr p _ bw hap;have lv:=r1.length;unfold v4 at P;split at P
 ·rename_i hkd;refine⟨hp1,(ks'.zip vs).map (λq=>((Sum.inr q.1:Key),q.2)),?_,by simp;omega,?_⟩
  ·rw[List.map_map];rfl
  ·have hmk:gV [] ((ks'.zip vs).map (λq=>((Sum.inr q.1:Key),q.2)))=(ks'.zip vs).map (λq=>((Sum.inr q.1:Key),q.2)):=by
    rw[jQ _ [] ?_ (λk _=>rfl),List.nil_append];rw[List.map_map];have e3:(λq:Key×V=>q.1) ∘ (λq:Str×V=>((Sum.inr q.1:Key),q.2))=(λs:Str=>(Sum.inr s:Key)) ∘ Prod.fst:=rfl;rw[e3,<-List.map_map,List.map_fst_zip (by omega)]
    exact List.Pairwise.map _ (λa b hab z=>hab (Sum.inr.inj z)) hn
   rw[hmk];generalize hkv:(ks'.zip vs).map (λq=>((Sum.inr q.1:Key),q.2))=kvs;have E2:Ext0 H1 (bx H1 p (.dK kvs)) ι1 ι1 st1.length st1.length:=⟨ae _,λ_ _=>rfl,λb ys e=>by rw[aD (fN e hp1 (by intro z;cases z))];exact e,λb ob u e=>by rw[aD (fN e hp1 (by intro z;cases z))];exact e⟩
   have S2:Sim X.K (bx H1 p (.dK kvs)) ι1 st1:=by refine⟨S1.inj,λn o e=>?_⟩;have hn:n<st1.length:=(aL e).1;have old:=S1.ob n o e;exact old.move E2 (aD (ap1 n hn))
   have rd:DRels X.K (bx H1 p (.dK kvs)) ι1 st1.length ((ks'.zip ds).map λp=>(Sum.inr p.1,p.2)) kvs:=by have q:=DRels.zip (ks:=ks') (VRels.ext0 E2 r1);rw[hkv] at q;exact q
   obtain⟨ι',g1,g2,g3⟩:=S2.addD bw ap1 rd;have l:(st1++[O.dct ((ks'.zip ds).map λp=>(Sum.inr p.1,p.2))]).length=st1.length+1:=by simp
   refine P _ ι' (.ref p) ?_ g3 ?_
   ·rw[l];have E6:=E0.trans E1;refine⟨⟨Nat.le_succ_of_le E6.le,λn hn=>(g1 n (ao hn E6.le)).trans (E6.ad n hn),λb ys e=>E2.tp b ys (E6.tp b ys e),λb ob u e=>E2.fz b ob u (E6.fz b ob u e)⟩,λb ob e k=>?_⟩;obtain⟨g4,g5⟩:=E6.fr b ob e k;refine⟨by rw[aD (aw e hp)];exact g4,λn hn=>?_⟩
    by_cases hn':n=st1.length
    ·rw[hn',g2];exact(aw e hp).symm
    ·rw[g1 n (by omega)];exact g5 n (by omega)
   ·rw[<-g2,l];exact .ref (aI _)
 ·exact P.elim
end
section
variable{T:Tab}{g:eB}{X:Cx}{sc:Scope}{N:List Str}{pos p2:Pos}
theorem FRels.look_none{K:al}{ds:List (Str×D)}{vs:List (Str×V)}(h:FRels K H ι m ds vs)(e:ds.lookup f=none):vs.lookup f=none:=by
 induction h with
 |nil=>rfl
 | @cons k d' v ds vs h t ih=>
  rw[List.lookup_cons] at e ⊢;cases q:f==k with
  |true=>rw[q] at e;cases e
  |false=>rw[q] at e;exact ih e
theorem nC{c:Str}(h:c∈T.ics f):∃ic∈T.icl,ic.x=c/\f∈ic.flds:=by obtain⟨p,hp,rfl⟩:=List.mem_map.mp h;obtain⟨h1,h2⟩:=List.mem_filter.mp hp;exact⟨p,h1,rfl,List.contains_iff_mem.mp h2⟩
theorem xv{m c:Str}(h:(T.ims m).lookup c=some j):∃ic∈T.icl,ic.x=c/\(m,j)∈ic.mts:=by
 obtain⟨ic,h1,h2⟩:=List.mem_filterMap.mp (az h);cases q:ic.mts.lookup m with
 |none=>rw[q] at h2;cases h2
 |some i=>rw[q] at h2;cases h2;exact⟨ic,h1,rfl,az q⟩
theorem CL{o':Ex}(C:Ctx T g X sc N)(hb:attributeBase o f X.env (eval o X.env)=eval o X.env)(ho:PE X o (tE X.K (run g o'))):PE X (.Attribute o f pos) (tE X.K (run g (.fld o' f [] (T.ics f)))):=by
 refine(zU ho hb).imp λσ H Q hp=>?_;obtain⟨ι,st,loc,S,L,P⟩:=hp;rw[run] at P;obtain⟨x,st1,e1,P⟩:=aM P;unfold lA at P;split at P
 ·rename_i n;split at P
  ·rename_i c fs q;split at P
   ·rename_i d hl;split at P
    ·rename_i hc;obtain⟨ic,hi,rfl,hf⟩:=nC hc;obtain⟨C0,n0,cl,na,_⟩:=C.icl ic hi;refine bh S L e1 λH1 ι1 v E1 S1 r1=>?_;cases r1 with
     |ref hn=>obtain⟨C1,dx,vs,n1,h1,h2,_⟩:=S1.ob n _ q;rw[n0] at n1;cases n1;obtain⟨w,lw,rw'⟩:=h2.look hl;exact⟨_,C0,dx,vs,w,rfl,h1,cl,na f hf,lw,(P.mono E1).same S1 rw'⟩
    ·exact P.elim
   ·exact P.elim
  ·exact P.elim
 ·exact P.elim
theorem Sim.aside{K:al}{st:aK}(S:Sim K H ι st)(hp:H p=none)(ho:HO):Ext H (bx H p ho) ι ι st.length st.length/\Sim K (bx H p ho) ι st:=by
 have E:Ext H (bx H p ho) ι ι st.length st.length:=⟨⟨ae _,λ_ _=>rfl,λb xs e=>by rw[aD (aw e hp)];exact e,λb ob u e=>by rw[aD (aw e hp)];exact e⟩,λb ob e k=>⟨by rw[aD (aw e hp)];exact e,k⟩⟩
 exact⟨E,S.inj,λn o e=>(S.ob n o e).move E.toExt0 (aD (by obtain⟨_,h,_⟩:=S.obj (aL e).1;exact aw h hp))⟩
theorem CD{as:List Expr}{xs:List Ex}(C:Ctx T g X sc N)(hg:be sc x=true)(hi:T.mks.lookup x=some j)(ha:PA X (a::as) (tA X.K (runs g xs)))
  (he:starEach (a::as) X.env=(false,eval a X.env)::starEach as X.env)(hpl:(backTo pos (starEach as X.env)).any (·.1)=false):PE X (.Call (.Name x p2) (a::as) [] pos) (tE X.K (run g (.new x j xs))):=by
 obtain⟨hd,C0,ad,fd,ps,k,hn,hm,mk,hb,hr,har,F⟩:=C.mks x j (az hi);refine(xl mk F hr (ln C hg) hm hb .nil yw ha hd he hpl).imp λσ H Q hp=>?_;obtain⟨ι,st,loc,S,L,P⟩:=hp;rw[run] at P;obtain⟨ds,st1,e1,P⟩:=aM P;refine jM S L e1 λH1 ι1 vs E1 S1 r1 ax dx hx hdx hne=>?_;rw[List.append_nil];unfold mC at P;obtain⟨r,st2,e2,P⟩:=aM P;obtain⟨E2,S2⟩:=S1.aside hdx (.own ax);have hx2:bx H1 dx (.own ax) ax=none:=by rw[aD hne.symm];exact hx
 obtain⟨ι2,E3,e3,S3⟩:=S2.laid (o:= .ins x []) (ho:= .ins C0 dx []) hx2 (λι' h1 h2=>⟨C0,dx,[],hn,bw,.nil,by decide⟩)
 have l:(st1++[O.ins x []]).length=st1.length+1:=by simp
 have rr:VRels X.K (bx (bx H1 dx (.own ax)) ax (.ins C0 dx [])) ι2 (st1++[O.ins x []]).length (.ref st1.length::ds) (.ref ax::vs):=by rw[l];refine .cons ?_ (r1.ext (E2.trans E3));rw[<-e3];exact .ref (aI _)
 have hlen:(V.ref ax::vs).length=ps.length:=by
  rw[<-rr.length];by_cases hps:(D.ref st1.length::ds).length=ps.length
  ·exact hps
  ·rw[har _ _ hps] at e2;cases e2
 refine⟨hlen,ι2,_,_,S3,rr,?_⟩;rw[e2];cases r with
 |x n=>exact P.elim
 |v d=>
  cases d with
  |non=>
   intro H' ι' v E' S' rv;cases rv;have E4:Ext H H' ι ι' st.length st2.length:=((E1.trans E2).trans (by rw[<-l] at E3;exact E3)).trans E'
   refine⟨rfl,P H' ι' _ E4 S' ?_⟩;have e4:ι' st1.length=ax:=(E'.ad _ (by rw[l];exact aI _)).trans e3
   rw[<-e4];have:=E'.le;rw[l] at this;exact .ref this
  |_=>exact P.elim
theorem rO{m:Str}{xs:List Ex}{t:TA}{x:D}{loc:Loc}{H1:Hp}{st st1:aK}(C:Ctx T g X sc N)(S1:Sim X.K H1 ι1 st1)(L:LRel X.K H ι st.length loc σ)(E1:Ext H H1 ι ι1 st.length st1.length)(r1:VRel X.K H1 ι1 st1.length x v)
  (P:cO X.K H ι st (aZ (iY m (T.ims m) x) (λj=>aZ (runs g xs loc) λds=>aZ (g j (x::ds)) λr=>dL r.val?) st1) Q)
  (ht:∀Q':List V->Hp->Prop,tA X.K (runs g xs) σ H1 Q'->t σ H1 Q'):
  ∃a C dx fs f k fd ps sp,v=.ref a/\H1 a=some (.ins C dx fs)/\fs.lookup m=none/\Cls X.K C/\Meth X.K C m f/\FnOk X.prog X.w X.K X.mg X.base (nY X.prog X.w) k f fd ps sp/\Room k X.A/\Binds X.K fd ps []/\t σ H1 λvs H2=>∀E:XK,sp (.ref a::vs) H2 Q E:=by
 obtain⟨j,st2,e2,P2⟩:=aM P;obtain⟨ds,st3,e3,P3⟩:=aM P2;unfold iY at e2;cases x with
 |ref nn=>
  dsimp only at e2;split at e2
  ·rename_i c fs q;split at e2
   ·rename_i i hl hj;cases e2;obtain⟨ic,hi,rfl,hm⟩:=xv hj;obtain⟨C0,n0,cl,na,ms⟩:=C.icl ic hi;obtain⟨a,fd,ps,k,M,hb,hr,har,F⟩:=ms m _ hm;have rr:=r1;cases r1 with
    |ref hn=>
     obtain⟨C1,dx,vs,n1,h1,h2,_⟩:=S1.ob nn _ q;rw[n0] at n1;cases n1;refine⟨_,C0,dx,vs,a,k,fd,ps,_,rfl,h1,h2.look_none hl,cl,M,F,hr,hb,ht _ (jM S1 (L.ext E1) e3 λH2 ι2 ws E2 S2 r2 E=>?_)⟩;have r3:VRels X.K H2 ι2 st3.length (.ref nn::ds) (.ref (ι1 nn)::ws):= .cons (rr.ext E2) r2;refine⟨?_,ι2,st3,_,S2,r3,(gy.val P3).mono (E1.trans E2)⟩;rw[<-r3.length];by_cases hps:(D.ref nn::ds).length=ps.length
     ·exact hps
     ·have P4:=gy.val (E:=E) P3;rw[har _ _ hps] at P4;exact P4.elim
   ·cases e2
  ·cases e2
 |_=>cases e2
theorem vN{as:List Expr}(hpl:(backTo pos (starEach as X.env)).any (·.1)=false)(hz:as.length<29):methodCallForm (as.length+([]:List Keyword).length) (backTo pos (starEach as X.env)) (backToKw pos (keywordEach [] X.env))=true:=by
 unfold methodCallForm
 have h1:(backTo pos (starEach as X.env)).all (!·.1)=true:=by
  rw[List.all_eq_true];intro p hp;cases q:p.1 with
  |false=>rfl
  |true=>have:=List.any_eq_false.mp hpl p hp;rw[q] at this;exact absurd rfl this
 rw[h1];have h2:(backToKw pos (keywordEach [] X.env)).all (·.1.isSome)=true:=rfl;have h3:(backToKw pos (keywordEach [] X.env)).isEmpty=true:=rfl;rw[h2,h3];simp only[Bool.and_self,Bool.true_and,List.length_nil,Nat.add_zero,if_true,decide_eq_true_eq];omega
theorem AB{as:List Expr}{o':Ex}{m:Str}{xs:List Ex}(C:Ctx T g X sc N)(hl:(ap.endLine==pos.line)=true)(hz:(a::as).length<29)(hb:attributeBase o m X.env (eval o X.env)=eval o X.env)(ho:PE X o (tE X.K (run g o')))(ha:PA X (a::as) (tA X.K (runs g xs)))
  (he:starEach (a::as) X.env=(false,eval a X.env)::starEach as X.env)(hpl:(backTo pos (starEach as X.env)).any (·.1)=false)(hpl1:(backTo pos (starEach (a::as) X.env)).any (·.1)=false):PE X (.Call (.Attribute o m ap) (a::as) [] pos) (tE X.K (run g (.meth o' m (T.ims m) xs))):=by
 refine(uS ho hb hl (vN hpl1 hz) ha he hpl).imp λσ H Q hp=>?_;obtain⟨ι,st,loc,S,L,P⟩:=hp;rw[run] at P;obtain⟨x,st1,e1,P⟩:=aM P;exact bh S L e1 λH1 ι1 v E1 S1 r1=>rO C S1 L E1 r1 P λ_ h=>h
theorem xN{o':Ex}{m:Str}(C:Ctx T g X sc N)(hl:(ap.endLine==pos.line)=true)(hb:attributeBase o m X.env (eval o X.env)=eval o X.env)(ho:PE X o (tE X.K (run g o'))):PE X (.Call (.Attribute o m ap) [] [] pos) (tE X.K (run g (.meth o' m (T.ims m) []))):=by refine(sF ho hb hl).imp λσ H Q hp=>?_;obtain⟨ι,st,loc,S,L,P⟩:=hp;rw[run] at P;obtain⟨x,st1,e1,P⟩:=aM P;refine bh S L e1 λH1 ι1 v E1 S1 r1=>rO C S1 L E1 r1 P λQ' h=>?_;obtain⟨ι2,st2,loc2,S2,L2',P2⟩:=h;rw[runs] at P2;exact P2 H1 ι2 [] (Ext.refl _ _ _) S2 .nil
theorem Ee{as:List Expr}{m:Str}{xs:List Ex}(C:Ctx T g X sc N)(hu:Dg T sc o m=some j)(hl:(ap.endLine==pos.line)=true)(hz:(a::as).length<29)(ha:PA X (a::as) (tA X.K (runs g xs)))
  (he:starEach (a::as) X.env=(false,eval a X.env)::starEach as X.env)(hpl:(backTo pos (starEach as X.env)).any (·.1)=false)(hpl1:(backTo pos (starEach (a::as) X.env)).any (·.1)=false):PE X (.Call (.Attribute o m ap) (a::as) [] pos) (tE X.K (run g (.fn j xs))):=by
 obtain⟨x,px,rfl,hg,hm⟩:=ww hu;obtain⟨hd,C0,ad,fd,ps,k,hmg,u,hb,hr,har,F⟩:=C.ums x m j hm;refine(B6 (ln C hg) hmg hd u F hr hb hl (vN hpl1 hz) ha he hpl).imp λσ H Q hp=>?_;obtain⟨ι,st,loc,S,L,P⟩:=hp;rw[run] at P;obtain⟨ds,st1,e1,P⟩:=aM P;refine jM S L e1 λH1 ι1 vs E1 S1 r1 E=>⟨?_,ι1,st1,ds,S1,r1,(gy.val P).mono E1⟩;by_cases hps:ds.length=ps.length
 ·rw[<-r1.length];exact hps
 ·have P2:=gy.val (E:=E) P;rw[har ds st1 hps] at P2;exact P2.elim
end
set_option maxHeartbeats 16000000
noncomputable def Plain(es:List Expr)(env:Env)(pos:Pos):Prop:=(backTo pos (starEach es env)).any (·.1)=false
theorem qa{env:Env}(h:starEach (e::es) env=(false,eval e env)::starEach es env)(k:Plain es env pos):Plain (e::es) env pos:=by unfold Plain at k ⊢;rw[h];simpa[backTo] using k
noncomputable def SX(g:eB)(X:Cx)(e:Expr)(x:Ex):Prop:=PE X e (tE X.K (run g x))/\PT X e (tT X.K (run g x))
noncomputable def SE(T:Tab)(g:eB)(n:Nat):Prop:=∀{X:Cx}{sc:Scope}{N:List Str}{e:Expr}{x:Ex},Ctx T g X sc N->cE T n sc N e=some x->SX g X e x
noncomputable def C6(T:Tab)(g:eB)(n:Nat):Prop:=∀{X:Cx}{sc:Scope}{N:List Str}{es:List Expr}{xs:List Ex},Ctx T g X sc N->s_ T n sc N es=some xs->
 PA X es (tA X.K (runs g xs))/\es.length=xs.length/\(∀pos,Plain es X.env pos)/\∀e r,es=e::r->starEach (e::r) X.env=(false,eval e X.env)::starEach r X.env/\∀pos,Plain r X.env pos
noncomputable def SC(T:Tab)(g:eB)(n:Nat):Prop:=∀{X:Cx}{sc scope:Scope}{N:List Str}{x:Str}{elt src:Expr}{ifs:List Expr}{y:Ex}{px:Pos},Ctx T g X sc N->dR sc scope N x=true->
 (mS T n sc N false src x elt ifs scope=some y->hZ g X x px src ifs elt scope y)/\
 (∀p3 p4,be sc "range"=true->mS T n sc N true src x elt ifs scope=some y->hZ g X x px (.Call (.Name "range" p3) [src] [] p4) ifs elt scope y)
theorem ui{T:Tab}{g:eB}(h:SE T g n)(hs:C6 T g n):C6 T g (n+1):=by
 intro X sc N es xs C e;cases es with
 |nil=>cases e;refine⟨dP.imp λσ H Q hp=>?_,rfl,λpos=>rfl,λ_ _ z=>nomatch z⟩;obtain⟨ι,st,loc,S,L,P⟩:=hp;rw[runs] at P;exact P H ι [] (Ext.refl _ _ _) S .nil
 |cons a0 as0=>
  obtain⟨e1,e2,e⟩:=bs e;obtain⟨r1,r2,rfl⟩:=map_some e;have h1:=h C e2;obtain⟨h2,h3,h4,_⟩:=hs C r2;have st:=cr e2 as0 X.env;refine⟨(bZ h1.1 h2 st).imp λσ H Q hp=>?_,by simp[h3],λpos=>qa st (h4 pos),λa b z=>by cases z;exact⟨st,h4⟩⟩
  obtain⟨ι,st,loc,S,L,P⟩:=hp;rw[runs] at P;obtain⟨d,st1,e1,P⟩:=pw P;obtain⟨ds,st2,e2,P⟩:=pw P;exact bh S L e1 λH1 ι1 v E1 S1 r1=>jM S1 (L.ext E1) e2 λH2 ι2 vs E2 S2 r2=>P H2 ι2 (v::vs) (E1.trans E2) S2 (.cons (r1.ext E2) r2)
theorem wU{T:Tab}{g:eB}(h:SE T g n):SC T g (n+1):=by
 intro X sc scope N x elt src ifs y px C hc
 have k:∀{b:Bool},mS T (n+1) sc N b src x elt ifs scope=some y->∃s' e',cE T n sc N src=some s'/\(∀fp s H,PE (bF X x scope fp s H) elt (tE X.K (run g e')))/\ifs=[]/\y=.comp b s' e':=by
  intro b e;obtain⟨s',e1,e⟩:=bs e;obtain⟨e',e2,e⟩:=bs e;cases ifs with
  |nil=>cases e;exact⟨s',e',e1,λfp s H=>(h (lL C hc fp s H) e2).1,rfl,rfl⟩
  |cons=>cases e
 refine⟨λe=>?_,λp3 p4 hg e=>?_⟩
 ·obtain⟨s',e',e1,h2,rfl,rfl⟩:=k e;exact AE C hc (h C e1).1 h2 (ku e1 X.env)
 ·obtain⟨s',e',e1,h2,rfl,rfl⟩:=k e;exact xR C hc hg (cr e1 [] X.env) (h C e1).1 h2
theorem Bu{g:eB}{c' a' b':Ex}(hc:PT X c (tT X.K (run g c')))(ha:PT X a (tT X.K (run g a')))(hb:PT X b (tT X.K (run g b'))):PT X (.IfExp c a b pos) (tT X.K (run g (.ite c' a' b'))):=by
 intro pins s σ H Q I h;obtain⟨ι,st,loc,S,L,P⟩:=h;rw[run] at P;obtain⟨x,st1,e1,P⟩:=ei P;obtain⟨i,st2,e2,P⟩:=ei P;obtain⟨e3,rfl⟩:=bC e2;have:=cy e3;subst this;refine isTrue_IfExp (bQ (hc pins s σ H (λk H1=>if k=true then tT X.K (run g a') σ H1 Q else tT X.K (run g b') σ H1 Q) I (kF S L e1 λH1 ι1 E1 S1=>?_)) λk s1 ⟨H1,I1,q1⟩=>?_)
 ·cases i with
  |true=>rw[if_pos rfl];exact⟨ι1,st2,loc,S1,L.ext E1,P.mono E1⟩
  |false=>rw[if_neg au];exact⟨ι1,st2,loc,S1,L.ext E1,P.mono E1⟩
 ·cases k with
  |true=>exact ha pins s1 σ H1 Q I1 (by simpa using q1)
  |false=>exact hb pins s1 σ H1 Q I1 (by simpa using q1)
theorem both{m:Loc->M D}(h:PE X e (tE X.K m))(he:∀whole,isTrue e X.env whole=(do let v <-whole;standAt e.pos;holding [v] (truthy v))):PE X e (tE X.K m)/\PT X e (tT X.K m):=⟨h,uG h he⟩
theorem sf{T:Tab}{g:eB}(h:SE T g n)(hc:SC T g n){gens:List Comprehension}{y:Ex}(C:Ctx T g X sc N)(ex:cE T (n+1) sc N (.ListComp elt gens scope pos)=some y){G:Prop}
  (k1:∀x px it ifs,gens=[⟨.Name x px,it,ifs,0⟩]->T.calm=true->dR sc scope N x=true->hZ g X x px it ifs elt scope y->G)
  (k2:∀x z px py k pt it ifs,gens=[⟨.Tuple [.Name x px,.Name z py] k pt,it,ifs,0⟩]->T.calm=true->db sc scope N x z=true->fJ g X x z px py k pt it ifs elt scope y->G):G:=by
 obtain⟨q,hg,ex⟩:=bs ex;have hg:=vB hg;obtain⟨t,it,ifs⟩:=q;rcases kj ex with⟨x,hx,ex⟩|⟨_,ex⟩
 ·obtain⟨px,e⟩:=eF hx;cases e;obtain⟨⟨hcm,hk⟩,ex⟩:=fS ex;refine k1 x px it ifs hg hcm hk ?_;rcases kj ex with⟨p,hp,ex⟩|⟨_,ex⟩
  ·obtain⟨hg2,p3,p4,e⟩:=uu hp;cases e;cases ifs with
   |cons=>cases ex
   |nil=>obtain⟨a',e1,ex⟩:=bs ex;obtain⟨b',e2,ex⟩:=bs ex;obtain⟨e',e3,rfl⟩:=map_some ex;exact xU C hk hg2 (cr e1 _ _) (cr e2 [] _) (h C e1).1 (h C e2).1 λfp s H=>(h (lL C hk fp s H) e3).1
  rcases kj ex with⟨⟨r,a⟩,hr,ex⟩|⟨_,ex⟩
  ·obtain⟨p3,p4,e⟩:=iq hr;cases e;rcases D2 ex with⟨⟨e,hg2⟩,ex⟩|ex
   ·cases e;exact(hc C hk).2 _ _ hg2 ex
   ·exact(hc C hk).1 ex
  ·exact(hc C hk).1 ex
 ·obtain⟨⟨x,z⟩,hz,ex⟩:=bs ex;obtain⟨⟨hk,hcm⟩,ex⟩:=fS ex;obtain⟨_,_,_,_,e⟩:=sH hz;cases e;obtain⟨e',e2,ex⟩:=bs ex;have he:=λfp s H=>(h (jJ C hk fp s H) e2).1;refine k2 _ _ _ _ _ _ _ _ hg hcm hk ?_;cases ifs with
  |cons=>cases ex
  |nil=>
   rcases kj ex with⟨a,ha,ex⟩|⟨_,ex⟩
   ·obtain⟨a',e1,rfl⟩:=map_some ex;obtain⟨hg2,_,_,e⟩:=mK ha;cases e;exact xT C hcm hk hg2 (cr e1 [] _) (h C e1).1 he
   rcases kj ex with⟨w,ha,ex⟩|⟨_,ex⟩
   ·obtain⟨a',e1,ex⟩:=bs ex;obtain⟨b',e3,rfl⟩:=map_some ex;obtain⟨hg2,_,_,e⟩:=nZ ha;cases e;exact xP C hcm hk hg2 (cr e1 _ _) (cr e3 [] _) (h C e1).1 (h C e3).1 he
   ·obtain⟨a',e1,rfl⟩:=map_some ex;exact xQ C hcm hk (h C e1).1 (ku e1 X.env) he
theorem xM{T:Tab}{g:eB}{o':Ex}{m:Str}{xs:List Ex}(C:Ctx T g X sc N)(hl:(ap.endLine==pos.line)=true)(hz:args.length<29)(hb:attributeBase o m X.env (eval o X.env)=eval o X.env)(ho:PE X o (tE X.K (run g o')))
  (hA:PA X args (tA X.K (runs g xs))/\args.length=xs.length/\(∀pos,Plain args X.env pos)/\∀e r,args=e::r->starEach (e::r) X.env=(false,eval e X.env)::starEach r X.env/\∀pos,Plain r X.env pos):PE X (.Call (.Attribute o m ap) args [] pos) (tE X.K (run g (.meth o' m (T.ims m) xs))):=by
 obtain⟨h1,h2,h0,h3⟩:=hA;cases args with
 |nil=>have:xs=[]:=List.length_eq_zero_iff.mp h2.symm;subst this;exact xN C hl hb ho
 |cons a as=>obtain⟨h4,h5⟩:=h3 _ _ rfl;exact AB C hl hz hb ho h1 h4 (h5 _) (h0 _)
theorem CB{T:Tab}{g:eB}{m:Str}{xs:List Ex}(C:Ctx T g X sc N)(hu:Dg T sc o m=some j)(hl:(ap.endLine==pos.line)=true)(hz:args.length<29)(hne:(!args.isEmpty)=true)
  (hA:PA X args (tA X.K (runs g xs))/\args.length=xs.length/\(∀pos,Plain args X.env pos)/\∀e r,args=e::r->starEach (e::r) X.env=(false,eval e X.env)::starEach r X.env/\∀pos,Plain r X.env pos):PE X (.Call (.Attribute o m ap) args [] pos) (tE X.K (run g (.fn j xs))):=by
 obtain⟨h1,h2,h0,h3⟩:=hA;cases args with
 |nil=>cases hne
 |cons a as=>obtain⟨h4,h5⟩:=h3 _ _ rfl;exact Ee C hu hl hz h1 h4 (h5 _) (h0 _)
theorem wS{T:Tab}{g:eB}(h:SE T g n)(hs:C6 T g n){fp:Pos}{x:Ex}(C:Ctx T g X sc N)(ex:cE T (n+1) sc N (.Call (.Name f fp) args [] cp)=some x):SX g X (.Call (.Name f fp) args [] cp) x:=by
 obtain⟨hg,ex⟩:=fS ex;rcases kj ex with⟨a,hr,ex⟩|⟨_,ex⟩
 ·obtain⟨hk,ex⟩:=fS ex;obtain⟨a',ha,rfl⟩:=map_some ex;obtain⟨rfl,_,_,rfl⟩:=vg hr;exact both (AC C hk.2 hg hk.1.1 (cr ha [] _) (h C ha).1) λ_=>rfl
 rcases kj ex with⟨a,hr,ex⟩|⟨_,ex⟩
 ·obtain⟨hk,ex⟩:=fS ex;obtain⟨a',ha,rfl⟩:=map_some ex;obtain⟨rfl,hr⟩:=fS hr;obtain⟨c,h1,hr⟩:=bs hr;cases dv h1;have:c=a:=by cases c<;>cases hr;rfl
  subst this;exact both (xO C hk.2 hg (cr ha [] _) (h C ha).1) λ_=>rfl
 cases args with
 |nil=>cases ex
 |cons a as=>
  have kk:∀{xs:List Ex},s_ T n sc N (a::as)=some xs->PA X (a::as) (tA X.K (runs g xs))/\(a::as).length=xs.length/\starEach (a::as) X.env=(false,eval a X.env)::starEach as X.env/\∀pos,Plain as X.env pos:=λhx=>by obtain⟨h1,h2,_,h3⟩:=hs C hx;exact⟨h1,h2,h3 _ _ rfl⟩
  rcases kj ex with⟨i,hi,ex⟩|⟨_,ex⟩
  ·obtain⟨xs,hx,rfl⟩:=map_some ex;obtain⟨h1,h2,h4,h5⟩:=kk hx;exact both (Ei C hg hi h1 h2 h4 (h5 _)) λ_=>rfl
  rcases kj ex with⟨j,hj,ex⟩|⟨_,ex⟩
  ·obtain⟨xs,hx,rfl⟩:=map_some ex;obtain⟨h1,_,h4,h5⟩:=kk hx;exact both (CD C hg hj h1 h4 (h5 _)) λ_=>rfl
  rcases kj ex with⟨b,hb,ex⟩|⟨_,ex⟩
  ·obtain⟨hcm,ex⟩:=fS ex;obtain⟨xs,hx,rfl⟩:=map_some ex;obtain⟨h1,_,h4,h5⟩:=kk hx;exact both (Ej C hcm hg hb h1 h4 (h5 _)) λ_=>rfl
  obtain⟨hf,ex⟩:=fS ex;obtain⟨t',h1,ex⟩:=bs ex;obtain⟨t,h2,ex⟩:=bs ex;obtain⟨hgt,ex⟩:=fS ex;obtain⟨a',ha,ex⟩:=bs ex;have hh:=dv h1;have h3:=eF h2;rcases kj ex with⟨ty,ht,ex⟩|⟨_,ex⟩
  ·cases ex;obtain⟨_,rfl⟩:=h3;subst hh hf;exact both (CJ C hg hgt ht (h C ha).1 (cr ha _ _)) λ_=>rfl
  cases ex
theorem wR{T:Tab}{g:eB}(h:SE T g n)(hs:C6 T g n)(hc:SC T g n)(hd:SD T g n):SE T g (n+1):=by
 intro X sc N e x C ex;cases e with
 |Constant k _ _=>
  cases k with
  |int=>cases ex;exact both (jf (X:=X) (g:=g) uU (d:= .int _) (λ_ _ _=>.int _)) λ_=>rfl
  |str=>cases ex;exact both (jf (X:=X) (g:=g) uQ (d:= .str _) (λ_ _ _=>.str _)) λ_=>rfl
  |bool=>cases ex;exact both (jf (X:=X) (g:=g) B_ (d:= .bl _) (λ_ _ _=>.bl _)) λ_=>rfl
  |none=>cases ex;exact both (jf (X:=X) (g:=g) zS (d:= .non) (λ_ _ _=>.non)) λ_=>rfl
  |_=>cases ex
 |Name y _=>
  obtain⟨k,q,ex⟩:=bs ex;cases k with
  |«local»=>obtain⟨i,hi,rfl⟩:=map_some ex;exact both (vS C hi (.inl q)) λ_=>rfl
  |cell=>obtain⟨i,hi,rfl⟩:=map_some ex;exact both (vS C hi (.inr (.inl q))) λ_=>rfl
  |free=>obtain⟨i,hi,rfl⟩:=map_some ex;exact both (vS C hi (.inr (.inr q))) λ_=>rfl
  |globalImplicit=>
   obtain⟨d,hd,rfl⟩:=map_some ex;obtain⟨a1,u,v,a2,a3,a4⟩:=C.csts _ _ hd;exact both (jf (nz (by show X.env.scope.names.lookup _=_;rw[C.sc];exact q) a2 a3 a1) a4) λ_=>rfl
  |_=>cases ex
 |Tuple es _ _=>obtain⟨hz,ex⟩:=fS ex;obtain⟨xs,hx,rfl⟩:=map_some ex;obtain⟨h1,h2,_⟩:=hs C hx;exact both (yG h1 hz h2) λ_=>rfl
 |List es _=>obtain⟨hz,ex⟩:=fS ex;obtain⟨xs,hx,rfl⟩:=map_some ex;obtain⟨h1,h2,_⟩:=hs C hx;exact both (CG h1 hz h2) λ_=>rfl
 |Dict ks vs _=>
  cases ks with
  |nil=>
   cases vs with
   |nil=>cases ex;exact both (CM (X:=X) (g:=g)) λ_=>rfl
   |cons=>cases ex
  |cons k ks=>obtain⟨ks',hk,ex⟩:=bs ex;obtain⟨vs',he,ex⟩:=bs ex;obtain⟨hl,ex⟩:=fS ex;cases ex;exact both (AD hd C hk he hl.1 hl.2.1 hl.2.2) λ_=>rfl
 |BinOp a op b _=>obtain⟨a',e1,ex⟩:=bs ex;obtain⟨o,e2,ex⟩:=bs ex;obtain⟨b',e3,rfl⟩:=map_some ex;exact both (CO e2 (h C e1).1 (h C e3).1) λ_=>rfl
 |UnaryOp op a _=>
  cases op with
  |Not=>obtain⟨a',ha,rfl⟩:=map_some ex;exact⟨CC (h C ha).1,Bs (h C ha).2⟩
  |USub=>obtain⟨a',ha,rfl⟩:=map_some ex;exact both (CF (h C ha).1) λ_=>rfl
  |_=>cases ex
 |BoolOp op es p=>
  rcases es with _|⟨a,_|⟨b,r⟩⟩
  ·cases ex
  ·exact⟨zQ (h C ex).1,Br (h C ex).2⟩
  ·obtain⟨a',e1,ex⟩:=bs ex;obtain⟨b',e2,rfl⟩:=map_some ex;cases op with
   |And=>exact⟨CP (h C e1).1 (h C e2).1,Bw (h C e1).2 (h C e2).2⟩
   |Or=>exact⟨Eg (h C e1).1 (h C e2).1,Dx (h C e1).2 (h C e2).2⟩
 |Compare a ops bs' _=>
  rcases kj ex with⟨ks,hk,ex⟩|⟨_,ex⟩
  ·obtain⟨a',e1,rfl⟩:=map_some ex;obtain⟨op,ho,hk⟩:=bs hk;cases op with
   |In=>obtain⟨b,hb,hk⟩:=bs hk;obtain⟨y,hy,hk⟩:=bs hk;obtain⟨hg,hk⟩:=fS hk;obtain⟨kvs,hk9,rfl⟩:=map_some hk;cases dv ho;cases dv hb;obtain⟨_,rfl⟩:=eF hy;exact CK C hg hk9 (h C e1).1
   |_=>cases hk
  rcases kj ex with⟨op,ho,ex⟩|⟨_,ex⟩
  ·obtain⟨b,hb,ex⟩:=bs ex;obtain⟨a',e1,ex⟩:=bs ex;obtain⟨b',e2,rfl⟩:=map_some ex;cases dv ho;cases dv hb;exact⟨CN C.un (jk e2 _) (h C e1).1 (h C e2).1,Bv C.un (jk e2 _) (h C e1).1 (h C e2).1⟩
  ·obtain⟨o,ho,ex⟩:=bs ex;obtain⟨b,hb,ex⟩:=bs ex;obtain⟨a',e1,ex⟩:=bs ex;obtain⟨b',e2,ex⟩:=bs ex;obtain⟨c',e3,rfl⟩:=map_some ex;cases eU ho;cases eU hb;exact⟨xV C.un (jk e3 _) (h C e1).1 (h C e2).1 (h C e3).1,wA C.un (jk e3 _) (h C e1).1 (h C e2).1 (h C e3).1⟩
 |Subscript a b _=>
  rcases kj ex with⟨⟨lo,hi⟩,hq,ex⟩|⟨_,ex⟩
  ·obtain⟨p,rfl⟩:=wJ hq;cases lo with
   |none=>obtain⟨hh,e0,ex⟩:=bs ex;cases e0;obtain⟨a',e1,ex⟩:=bs ex;obtain⟨h',e2,rfl⟩:=map_some ex;exact both (Az (h C e1).1 rE (ki (h C e2).1) rH iW) λ_=>rfl
   |some l=>
    obtain⟨a',e1,ex⟩:=bs ex;obtain⟨l',e2,ex⟩:=bs ex;cases hi with
    |none=>cases ex;exact both (Az (h C e1).1 (ki (h C e2).1) rE iW rH) λ_=>rfl
    |some hh=>obtain⟨h',e3,rfl⟩:=map_some ex;exact both (Az (h C e1).1 (ki (h C e2).1) (ki (h C e3).1) iW iW) λ_=>rfl
  rcases kj ex with⟨u,hu,ex⟩|⟨_,ex⟩
  ·obtain⟨_,_,_,_,rfl⟩:=wL hu;obtain⟨a',e1,rfl⟩:=map_some ex;exact both (Ef (h C e1).1) λ_=>rfl
  obtain⟨hp,ex⟩:=fS ex;rcases kj ex with⟨kvs,hk,ex⟩|⟨_,ex⟩
  ·obtain⟨b',e2,rfl⟩:=map_some ex;obtain⟨y,hy,hk2⟩:=bs hk;obtain⟨hg,hk3⟩:=fS hk2;obtain⟨_,rfl⟩:=eF hy;exact both (CH C hg hk3 hp (h C e2).1) λ_=>rfl
  ·obtain⟨a',e1,ex⟩:=bs ex;obtain⟨b',e2,rfl⟩:=map_some ex;exact both (Eh C.un hp (h C e1).1 (h C e2).1) λ_=>rfl
 |Call f args kws cp=>
  cases kws with
  |cons=>cases ex
  |nil=>
   cases f with
   |Name f _=>exact wS h hs C ex
   |Attribute o m ap=>
    rcases kj ex with⟨j,hu,ex⟩|⟨_,ex⟩
    ·obtain⟨hm,ex⟩:=fS ex;simp only[Bool.and_eq_true,decide_eq_true_eq] at hm;obtain⟨xs,hx,rfl⟩:=map_some ex;exact both (CB C hu hm.1.1 hm.1.2 hm.2 (hs C hx)) λ_=>rfl
    rcases D2 ex with⟨hm,ex⟩|ex
    ·simp only[Bool.and_eq_true] at hm;cases args with
     |cons=>cases ex
     |nil=>obtain⟨o',ho,rfl⟩:=map_some ex;exact both (AA hm.1.1 hm.1.2 (ir hm.2 _ _) (h C ho).1) λ_=>rfl
    ·obtain⟨hm,ex⟩:=fS ex;simp only[Bool.and_eq_true,decide_eq_true_eq] at hm;obtain⟨o',e1,ex⟩:=bs ex;obtain⟨as',e2,rfl⟩:=map_some ex;exact both (xM C hm.1.2 hm.2 (ir hm.1.1 _ _) (h C e1).1 (hs C e2)) λ_=>rfl
   |_=>cases ex
 |ListComp elt gens scope pos=>
  exact sf h hc C ex (λx px it ifs e hcm hk hd=>by cases e;exact both (hd.pe C hcm hk) λ_=>rfl) λx z px py k pt it ifs e hcm hk hd=>by cases e;exact both (hd.pe C hcm hk) λ_=>rfl
 |IfExp c a b _=>obtain⟨c',e1,ex⟩:=bs ex;obtain⟨a',e2,ex⟩:=bs ex;obtain⟨b',e3,rfl⟩:=map_some ex;exact⟨CI (h C e1).2 (h C e2).1 (h C e3).1,Bu (h C e1).2 (h C e2).2 (h C e3).2⟩
 |Attribute o f _=>obtain⟨hf,ex⟩:=fS ex;obtain⟨o',ho,rfl⟩:=map_some ex;exact both (CL C (ir hf _ _) (h C ho).1) λ_=>rfl
 |_=>cases ex
theorem sound(T:Tab)(g:eB):∀n,SE T g n/\C6 T g n/\SC T g n/\SD T g n
 |0=>by
  refine⟨?_,?_,?_,?_⟩
  ·intro X sc N e x C h;cases h
  ·intro X sc N e x C h;cases h
  ·intro X sc scope N x elt src ifs y px C hc;exact⟨λh=>(by cases h),λ_ _ _ h=>(by cases h)⟩
  ·intro X sc N es xs ks keys pos C h;cases h
 |n+1=>by obtain⟨a,b,c,d⟩:=sound T g n;exact⟨wR a b c d,ui a b,wU a,wT (λC e=>(a C e).1) d⟩
noncomputable def fB(K:al)(Xw:Addr->L2.St->Hp->Prop)(H:Hp)(ι:Nat->Addr)(st:aK)(r:R Fl)(D:Ends):Prop:=match r with
 | .ok (.nx loc) st'=>∀H' ι' σ',Ext H H' ι ι' st.length st'.length->Sim K H' ι' st'->LRel K H' ι' st'.length loc σ'->D.nx σ' H'
 | .ok (.rt d) st'=>∀H' ι' v,Ext H H' ι ι' st.length st'.length->Sim K H' ι' st'->VRel K H' ι' st'.length d v->D.rt v H'
 | .ok (.ex n loc) st'=>∀H' ι' σ',Ext H H' ι ι' st.length st'.length->Sim K H' ι' st'->LRel K H' ι' st'.length loc σ'->Xw (ι' n) σ' H'
 | .bad=>False
noncomputable def tS(K:al)(Xw:Addr->L2.St->Hp->Prop)(m:Loc->M Fl):TS:=λD σ H=>∃ι st loc,Sim K H ι st/\LRel K H ι st.length loc σ/\fB K Xw H ι st (m loc st) D
section
variable{K:al}{Xw:Addr->L2.St->Hp->Prop}{H:Hp}{ι:Nat->Addr}{st:aK}
theorem aG{m:M α}{f:α->M Fl}{st0:aK}{D:Ends}(P:fB K Xw H ι st (aZ m f st0) D):∃a st1,m st0=.ok a st1/\fB K Xw H ι st (f a st1) D:=by
 unfold aZ at P;cases e:m st0 with
 |ok a st1=>rw[e] at P;exact⟨a,st1,rfl,P⟩
 |bad=>rw[e] at P;exact P.elim
theorem fB.mono{r:R Fl}{D:Ends}{H1:Hp}{st1:aK}(P:fB K Xw H ι st r D)(E:Ext H H1 ι ι1 st.length st1.length):fB K Xw H1 ι1 st1 r D:=by
 cases r with
 |ok f st2=>
  cases f with
  |nx loc=>exact λH' ι' σ' E' S' r'=>P H' ι' σ' (E.trans E') S' r'
  |rt d=>exact λH' ι' v E' S' r'=>P H' ι' v (E.trans E') S' r'
  |ex n loc=>exact λH' ι' σ' E' S' r'=>P H' ι' σ' (E.trans E') S' r'
 |bad=>exact P
end
theorem _root_.L2.PS.imp{X:Cx}{s:Stmt}{t t':TS}(h:PS X s t)(k:∀D σ H,t' D σ H->t D σ H):PS X s t':=λpins s σ H D I q=>h pins s σ H D I (k D σ H q)
theorem _root_.L2.PSs.imp{X:Cx}{s:List Stmt}{t t':TS}(h:PSs X s t)(k:∀D σ H,t' D σ H->t D σ H):PSs X s t':=λpins s σ H D I q=>h pins s σ H D I (k D σ H q)
section
variable{T:Tab}{g:eB}{X:Cx}{sc:Scope}{N:List Str}{pos p2 p3:Pos}{Xw:Addr->L2.St->Hp->Prop}
theorem iL(C:Ctx T g X sc N)(h:isLocal sc x=true):L2.Loc X.env.scope x:=by show X.env.scope.names.lookup x=_∨X.env.scope.names.lookup x=_;rw[C.sc];simpa[isLocal] using h
theorem p0{e':Ex}{D:Ends}(h:tS X.K Xw (exec g (.set i e')) D σ H):pS (tE X.K (run g e')) (d_ i) D σ H:=by obtain⟨ι,st,loc,S,L,P⟩:=h;rw[exec] at P;obtain⟨d,st1,e1,P⟩:=aG P;exact bh S L e1 λH1 ι1 v E1 S1 r1=>P H1 ι1 _ E1 S1 ((L.ext E1).set i r1)
theorem wX{i:Expr}{o' i' e':Ex}(hu:X.A.units+1<cLine)(hp:gS i=true)(hn:xC e=true)(ho:PE X o (tE X.K (run g o')))(hi:PE X i (tE X.K (run g i')))(he:PE X e (tE X.K (run g e'))):PS X (.Assign [.Subscript o i p2] e pos) (tS X.K Xw (exec g (.setix o' i' e'))):=by
 refine((uK he (zN ho hi set_list (λv=>by cases i<;>first|rfl|cases hp)) (by cases e<;>rfl) (by cases e<;>rfl)).or (xj hu ho hi he (by cases e<;>first|rfl|cases hn))).imp λD σ H hp=>?_
 obtain⟨ι,st,loc,S,L,P⟩:=hp;rw[exec] at P;obtain⟨d,st1,e1,P⟩:=aG P;obtain⟨x,st2,e2,P⟩:=aG P;obtain⟨k,st3,e3,P⟩:=aG P;obtain⟨u,st4,e4,P⟩:=aG P;have sz:sizeLine=16777216:=sizeLine_eq;unfold dS at e4;cases x with
 |ref n0=>
  dsimp only at e4;split at e4
  ·rename_i xs q;split at e4
   ·split at e4
    ·rename_i j hj;cases e4;refine .inl (bh S L e1 λH1 ι1 v E1 S1 r1=>bh S1 (L.ext E1) e2 λH2 ι2 vx E2 S2 r2=>bh S2 ((L.ext E1).ext E2) e3 λH3 ι3 vk E3 S3 r3=>?_);have r2':=r2.ext E3;have r1':=(r1.ext E2).ext E3;cases r2' with
     |ref hn=>
      cases r3;obtain⟨vs,g1,g2⟩:=S3.ob _ _ q;have rr:=g2.set j r1';obtain⟨E4,S4⟩:=S3.write q rr;refine⟨_,_,_,j,rfl,rfl,g1,by rw[<-g2.length];exact hj,?_⟩
      have E5:=(E1.trans E2).trans E3;have E4':Ext H3 (bx H3 (ι3 n0) (.lst (vs.set j v))) ι3 ι3 st3.length (st3.set n0 (O.lst (xs.set j d))).length:=by rw[aA];exact E4
      exact P _ ι3 σ (E5.trans E4') S4 (((L.ext E5)).ext E4')
    ·cases e4
   ·cases e4
  ·rename_i kvs q;split at e4
   ·rename_i kk hk;split at e4
    ·rename_i hl;cases e4;refine .inr (bh S L e1 λH1 ι1 v E1 S1 r1=>bh S1 (L.ext E1) e2 λH2 ι2 vx E2 S2 r2=>bh S2 ((L.ext E1).ext E2) e3 λH3 ι3 vk E3 S3 r3=>?_);have r2':=r2.ext E3;have r1':=(r1.ext E2).ext E3;have hv:=nE hk r3;subst hv;cases r2' with
     |ref hn=>
      obtain⟨vs,g1,g2⟩:=S3.ob _ _ q;have ll:=g2.length;obtain⟨E4,S4⟩:=S3.writeD q (g2.put (k:=kk) r1');refine⟨_,_,rfl,v8.k (k:=kk) g1 (by omega),?_⟩
      have E5:=(E1.trans E2).trans E3;have E4':Ext H3 (bx H3 (ι3 n0) (.dK (putK vs kk v))) ι3 ι3 st3.length (st3.set n0 (O.dct (c9 kvs kk d))).length:=by rw[aA];exact E4
      exact P _ ι3 σ (E5.trans E4') S4 (((L.ext E5)).ext E4')
    ·cases e4
   ·cases e4
  ·cases e4
 |_=>cases e4
theorem BJ{e':Ex}(he:PE X e (tE X.K (run g e'))):PS X (.Return (some e) pos) (tS X.K Xw (exec g (.ret e'))):=
 (zK he).imp λD σ H hp=>by obtain⟨ι,st,loc,S,L,P⟩:=hp;rw[exec] at P;obtain⟨d,st1,e1,P⟩:=aG P;exact bh S L e1 λH1 ι1 v E1 S1 r1=>P H1 ι1 v E1 S1 r1
theorem uj{s₀:Stmt}:PS X s₀ (tS X.K Xw (exec g .stop)):=by intro pins s σ H D I h;obtain⟨ι,st,loc,S,L,P⟩:=h;rw[exec] at P;exact False.elim P
theorem zl:PS X (.Return none pos) (tS X.K Xw (exec g .ret0)):=
 xh.imp λD σ H hp=>by obtain⟨ι,st,loc,S,L,P⟩:=hp;rw[exec] at P;exact P H ι .non (Ext.refl _ _ _) S .non
theorem DQ{e':Ex}(hk:gZ e=false)(hm:∃n sc N,cE T n sc N e=some e')(he:PE X e (tE X.K (run g e'))):PS X (.Expr e pos) (tS X.K Xw (exec g (.ex e'))):=by
 obtain⟨n,sc',N',hm⟩:=hm
 have hs:swapsWith e none pos.line X.env=pure false:=by
  cases n with
  |zero=>cases hm
  |succ n=>cases e<;>first|rfl|(cases hm;done)|cases hk
 refine(kg he hs).imp λD σ H hp=>?_;obtain⟨ι,st,loc,S,L,P⟩:=hp;rw[exec] at P;obtain⟨d,st1,e1,P⟩:=aG P;exact bh S L e1 λH1 ι1 v E1 S1 r1=>P H1 ι1 σ E1 S1 (L.ext E1)
theorem BS{o' e':Ex}{m:Str}(hm:ld m=true)(hl:(ap.endLine==cp.line)=true)(hst:starEach [e] X.env=[(false,eval e X.env)])(hb:attributeBase o m X.env (eval o X.env)=eval o X.env)(ho:PE X o (tE X.K (run g o')))(he:PE X e (tE X.K (run g e'))):
  PS X (.Expr (.Call (.Attribute o m ap) [e] [] cp) pos) (tS X.K Xw (exec g (.app o' e'))):=by
 have hm:m= "append":=by simpa[ld] using hm
 subst hm;refine(kg (yu PySem.F.plainAttrs_list PySem.F.slot_list_append PySem.F.type_list_append jz ho (bZ he dP hst) hb (by rw[hst];rfl) hl hst rfl)).imp λD σ H hp=>?_
 obtain⟨ι,st,loc,S,L,P⟩:=hp;rw[exec] at P;obtain⟨x,st1,e1,P⟩:=aG P;obtain⟨u0,st0,e0,P⟩:=aG P;obtain⟨d,st2,e2,P⟩:=aG P;obtain⟨u,st3,e3,P⟩:=aG P;have sz:sizeLine=16777216:=sizeLine_eq;unfold append at e3;split at e3
 ·rename_i n z1 z0;split at e3
  ·rename_i xs q;split at e3
   ·rename_i hz;cases e3;simp only[fP] at e0;split at e0
    ·rename_i zs q0;cases e0;refine bh S L e1 λH1 ι1 vx E1 S1 r1=>?_;cases r1 with
     |ref hn=>
      obtain⟨ws,w1,_⟩:=S1.ob _ _ q0;refine⟨.inl ⟨rfl,ws,ez.of w1⟩,bh S1 (L.ext E1) e2 λH2 ι2 v E2 S2 r2=>?_⟩;obtain⟨vs,g1,g2⟩:=S2.ob _ _ q;have l:=g2.length;have rr:=g2.append (.cons r2 .nil);obtain⟨E4,S4⟩:=S2.write q rr;rw[E2.ad n hn] at g1 E4 S4;refine⟨_,_,_,rfl,rfl,g1,by omega,?_⟩
      have E5:=E1.trans E2;have E4':Ext H2 (bx H2 (ι1 n) (.lst (vs++[v]))) ι2 ι2 st2.length (st2.set n (O.lst (xs++[d]))).length:=by rw[aA];exact E4
      exact P _ ι2 σ (E5.trans E4') S4 ((L.ext E5).ext E4')
    ·cases e0
   ·cases e3
  ·cases e3
 ·cases e3
theorem BR{e':Ex}{p:Pos}(hN:X.N.Nodup)(hi:X.N[i]? =some x)(hx:L2.Loc X.env.scope x)(hf:X.fn x=true)(he:PE X e (tE X.K (run g e'))):
  PS X (.AugAssign (.Name x p) .Add e pos) (tS X.K Xw (exec g (.aug i e'))):=by
 refine(zM hN hi hx he Ao (.inl hf)).imp λD σ H hp=>?_;obtain⟨ι,st,loc,S,L,P⟩:=hp;rw[exec] at P;obtain⟨a,st0,e0,P⟩:=aG P;obtain⟨y,st1,e1,P⟩:=aG P;obtain⟨z,st2,e2,P⟩:=aG P;rw[run] at e0;unfold dL at e0;split at e0
 ·rename_i d hd;cases e0
  have hd':loc[i]? =some (some a):=by
   cases q:loc[i]? with
   |none=>rw[q] at hd;cases hd
   |some o=>rw[q] at hd;cases o with
    |none=>cases hd
    |some w=>cases hd;rfl
  obtain⟨v,hv,r⟩:=L.at_ i _ hd';refine⟨v,hv,bh S L e1 λH1 ι1 w E1 S1 r1=>?_⟩;unfold qE at e2;split at e2
  ·cases e2;cases r;cases r1;exact⟨_,_,rfl,rfl,P _ ι1 _ E1 S1 ((L.ext E1).set i (.int _))⟩
  ·cases e2
 ·cases e0
theorem BO{o' e':Ex}{m:Str}(hm:k_ m=true)(hl:(ap.endLine==cp.line)=true)(hst:starEach [e] X.env=[(false,eval e X.env)])(hb:attributeBase o m X.env (eval o X.env)=eval o X.env)(ho:PE X o (tE X.K (run g o')))(he:PE X e (tE X.K (run g e'))):
  PS X (.Expr (.Call (.Attribute o m ap) [e] [] cp) pos) (tS X.K Xw (exec g (.ext o' e'))):=by
 have hm:m= "extend":=by simpa[k_] using hm
 subst hm;refine(kg (yu PySem.F.plainAttrs_list PySem.F.slot_list_extend PySem.F.type_list_extend qd ho (bZ he dP hst) hb (by rw[hst];rfl) hl hst rfl)).imp λD σ H hp=>?_
 obtain⟨ι,st,loc,S,L,P⟩:=hp;rw[exec] at P;obtain⟨x,st1,e1,P⟩:=aG P;obtain⟨u0,st0,e0,P⟩:=aG P;obtain⟨d,st2,e2,P⟩:=aG P;obtain⟨u,st3,e3,P⟩:=aG P;have sz:sizeLine=16777216:=sizeLine_eq;cases x with
 |ref n=>
  simp only[fP] at e0;split at e0
  ·rename_i zs q0;cases e0;refine bh S L e1 λH1 ι1 vx E1 S1 r1=>?_;cases r1 with
   |ref hn=>
    obtain⟨ws,w1,_⟩:=S1.ob _ _ q0;refine⟨.inl ⟨rfl,ws,ez.of w1⟩,bh S1 (L.ext E1) e2 λH2 ι2 v E2 S2 r2=>?_⟩;have E5:=E1.trans E2;unfold extend at e3;split at e3
    ·rename_i n1 m1 zz1;cases zz1;split at e3
     ·rename_i xs ys q qm;split at e3
      ·rename_i hz;cases e3;cases r2 with
       |ref hm2=>
        obtain⟨vs,g1,g2⟩:=S2.ob _ _ q;obtain⟨us,k1,k2⟩:=S2.ob _ _ qm;have l:=g2.length;have l2:=k2.length;obtain⟨E4,S4⟩:=S2.write q (g2.append k2);rw[E2.ad n hn] at g1 E4 S4;refine⟨_,_,_,_,rfl,rfl,g1,.inl k1,by omega,?_⟩
        have E4':Ext H2 (bx H2 (ι1 n) (.lst (vs++us))) ι2 ι2 st2.length (st2.set n (O.lst (xs++ys))).length:=by rw[aA];exact E4
        exact P _ ι2 σ (E5.trans E4') S4 ((L.ext E5).ext E4')
      ·cases e3
     ·cases e3
    ·rename_i zz1;cases zz1;split at e3
     ·rename_i xs q;split at e3
      ·rename_i hz;cases e3;cases r2 with
       |tup h2 k2=>
        obtain⟨vs,g1,g2⟩:=S2.ob _ _ q;have l:=g2.length;have l2:=k2.length;obtain⟨E4,S4⟩:=S2.write q (g2.append k2);rw[E2.ad n hn] at g1 E4 S4;refine⟨_,_,_,_,rfl,rfl,g1,.inr h2,by omega,?_⟩
        exact P _ ι2 σ (E5.trans (by rw[aA];exact E4)) S4 ((L.ext E5).ext (by rw[aA];exact E4))
      ·cases e3
     ·cases e3
    ·cases e3
  ·cases e0
 |_=>cases e0
theorem DP{a b:List Stmt}{c':Ex}{a' b':List S}(hc:PT X c (tT X.K (run g c')))(ha:PSs X a (tS X.K Xw (execs g a')))(hb:PSs X b (tS X.K Xw (execs g b'))):PS X (.If c a b pos) (tS X.K Xw (exec g (.ite c' a' b'))):=
 (B4 hc ha hb).imp λD σ H hp=>by
  obtain⟨ι,st,loc,S,L,P⟩:=hp;rw[exec] at P;obtain⟨x,st1,e1,P⟩:=aG P;obtain⟨i,st2,e2,P⟩:=aG P;obtain⟨e3,rfl⟩:=bC e2;have:=cy e3;subst this;refine kF S L e1 λH1 ι1 E1 S1=>?_;cases i with
  |true=>rw[if_pos rfl];exact⟨ι1,st2,loc,S1,L.ext E1,P.mono E1⟩
  |false=>rw[if_neg au];exact⟨ι1,st2,loc,S1,L.ext E1,P.mono E1⟩
theorem zn:PS X (.Pass pos) (tS X.K Xw (exec g .pass)):=
 xi.imp λD σ H hp=>by obtain⟨ι,st,loc,S,L,P⟩:=hp;rw[exec] at P;exact P H ι σ (Ext.refl _ _ _) S L
theorem ze{body:List Stmt}{c':Ex}{b':List S}(hp:PassesOwn (model X.prog X.w) X.A X.env X.xe)(hc:PT X c (tT X.K (run g c')))(hb:PSs X body (tS X.K Xw (execs g b'))):PS X (.While c body [] pos) (tS X.K Xw (exec g (.whil c' b'))):=by
 refine(uJ hp hc hb).imp λD σ H hp=>?_;obtain⟨ι,st,loc,S,L,P⟩:=hp;rw[exec] at P;refine⟨λm σ2 H2=>∃ι2 st2 loc2,Ext H H2 ι ι2 st.length st2.length/\Sim X.K H2 ι2 st2/\LRel X.K H2 ι2 st2.length loc2 σ2/\fB X.K Xw H ι st (dM (run g c') (execs g b') m loc2 st2) D,⟨o6,ι,st,loc,Ext.refl _ _ _,S,L,P⟩,?_⟩;rintro m σ2 H2 ⟨ι2,st2,loc2,E2,S2,L2',P2⟩;cases m with
 |zero=>exact P2.elim
 |succ m=>
  rw[dM] at P2;obtain⟨x,st3,e3,P3⟩:=aG P2;obtain⟨b,st4,e4,P4⟩:=aG P3;obtain⟨e5,rfl⟩:=bC e4;have:=cy e5;subst this;refine kF S2 L2' e3 λH3 ι3 E3 S3=>?_;cases b with
  |false=>rw[if_neg au];exact P4 H3 ι3 σ2 (E2.trans E3) S3 (L2'.ext E3)
  |true=>
   rw[if_pos rfl];refine⟨λσ4 H4=>∃ι4 st5 loc5,Ext H H4 ι ι4 st.length st5.length/\Sim X.K H4 ι4 st5/\LRel X.K H4 ι4 st5.length loc5 σ4/\fB X.K Xw H ι st (dM (run g c') (execs g b') m loc5 st5) D,λσ' H' q=>⟨m,aI _,q⟩,?_⟩;rw[if_pos rfl] at P4;obtain⟨r,st6,e6,P6⟩:=aG P4;refine⟨ι3,st4,loc2,S3,L2'.ext E3,?_⟩;rw[e6];cases r with
   |nx loc3=>exact λH4 ι4 σ4 E4 S4 L4=>⟨ι4,st6,loc3,(E2.trans E3).trans E4,S4,L4,P6⟩
   |rt d=>exact λH4 ι4 w E4 S4 r4=>P6 H4 ι4 w ((E2.trans E3).trans E4) S4 r4
   |ex n l=>exact λH4 ι4 σ4 E4 S4 L4=>P6 H4 ι4 σ4 ((E2.trans E3).trans E4) S4 L4
noncomputable def nM:List Nat->wd
 |[]=>sR
 |i::is=>iE (d_ i) (nM is)
theorem gU(C:Ctx T g X sc N)(hfn:∀y,X.fn y=true):∀{ts:List Expr}{is:List Nat},oj sc N ts=some is->A3 X ts (nM is)/\(assignEach ts X.env).length=is.length/\(assignEach ts X.env).findIdx? (·.1)=none
 |[],is,h=>by cases h;exact⟨nw,rfl,rfl⟩
 |t::r,is,h=>by
  obtain⟨x,hx,h⟩:=bs h;obtain⟨hl,h⟩:=fS h;obtain⟨i,hi,h⟩:=bs h;obtain⟨is',hr,rfl⟩:=map_some h;obtain⟨px,rfl⟩:=eF hx;obtain⟨h1,h2,h3⟩:=gU C hfn hr;refine⟨gT (fX (i:=i) (by rw[C.n];exact C.nd) (by rw[C.n];exact dw hi) (iL C hl) (.inl (hfn x))) h1 rfl,?_,?_⟩
  ·show(assignEach r X.env).length+1=is'.length+1;rw[h2]
  ·show(((false,assign (.Name x px) X.env)::assignEach r X.env).findIdx? (·.1))=none;rw[List.findIdx?_cons,h3];rfl
theorem kZ{K:al}{H:Hp}{ι:Nat->Addr}{m:Nat}{Q:L2.St->Hp->Prop}:∀{is:List Nat}{ds:List D}{vs:List V}{loc:Loc}{σ:L2.St},VRels K H ι m ds vs->ds.length=is.length->LRel K H ι m loc σ->(∀σ',LRel K H ι m (cV is ds loc) σ'->Q σ' H)->nM is vs σ H Q
 |[],_,_,_,_,.nil,_,L,k=>⟨rfl,k _ L⟩
 |i::is,_,_,_,_,.cons (v:=v) (vs:=vs) h t,hl,L,k=>⟨v,vs,rfl,kZ t (by simpa using hl) (L.set i h) k⟩
 |[],_,_,_,_,.cons _ _,hl,_,_=>by simp at hl
 |_::_,_,_,_,_,.nil,hl,_,_=>by simp at hl
theorem BI{e':Ex}{k:Nat}(C:Ctx T g X sc N)(hcm:T.calm=true)(hfn:∀y,X.fn y=true)(hn:gZ e=true)(ht:oj sc N ts=some is)(he:PE X e (tE X.K (run g e'))):PS X (.Assign [.Tuple ts k p2] e pos) (tS X.K Xw (exec g (.unp is e'))):=by
 obtain⟨h1,h2,h3⟩:=gU C hfn ht;refine(uK he (ny (C.calm hcm) h1 h2 h3) (by cases e<;>first|rfl|(simp[gZ] at hn;done)) (by cases e<;>first|rfl|(simp[gZ] at hn;done))).imp λD σ H hp=>?_
 obtain⟨ι,st,loc,S,L,P⟩:=hp;rw[exec] at P;obtain⟨d,st1,e1,P⟩:=aG P;obtain⟨ds,st2,e2,P⟩:=aG P;refine bh S L e1 λH1 ι1 v E1 S1 r1=>?_;unfold items? at e2;split at e2
 ·rename_i xs es;split at e2
  ·rename_i hl;cases e2;obtain⟨a,vs,rfl,hq,rv⟩:=r1.seq S1 es;exact⟨a,vs,rfl,hq,by rw[<-rv.length];exact hl,kZ rv hl (L.ext E1) λσ' L'=>P H1 ι1 σ' E1 S1 L'⟩
  ·cases e2
 ·cases e2
theorem BQ{o':Ex}(hl:(ap.endLine==cp.line)=true)(hb:attributeBase o "clear" X.env (eval o X.env)=eval o X.env)(ho:PE X o (tE X.K (run g o'))):
  PS X (.Expr (.Call (.Attribute o "clear" ap) [] [] cp) pos) (tS X.K Xw (exec g (.clr o'))):=by
 refine(kg (uX PySem.F.plainAttrs_list PySem.F.slot_list_clear PySem.F.type_list_clear u5 ho hb hl)).imp λD σ H hp=>?_;obtain⟨ι,st,loc,S,L,P⟩:=hp;rw[exec] at P;obtain⟨x,st1,e1,P⟩:=aG P;obtain⟨u,st3,e3,P⟩:=aG P;refine bh S L e1 λH1 ι1 vx E1 S1 r1=>?_;unfold qy at e3;split at e3
 ·rename_i n;split at e3
  ·rename_i xs q;cases e3;cases r1 with
   |ref hn=>
    obtain⟨vs,g1,g2⟩:=S1.ob _ _ q;obtain⟨E4,S4⟩:=S1.write q .nil;have E4':Ext H1 (bx H1 (ι1 n) (.lst [])) ι1 ι1 st1.length (st1.set n (O.lst [])).length:=by rw[aA];exact E4
    exact⟨.inl ⟨rfl,vs,ez.of g1⟩,_,vs,rfl,rfl,g1,P _ ι1 σ (E1.trans E4') S4 ((L.ext E1).ext E4')⟩
  ·cases e3
 ·cases e3
theorem nN{s:Src}{st st0:aK}{H0:Hp}{loc:Loc}{D:Ends}{b':List S}
  (F:c8 X.K J s H ι st.length)(E0:Ext H0 H ι0 ι st0.length st.length)(Sm:Sim X.K H ι st)(L:LRel X.K H ι st.length loc σ)(P:fB X.K Xw H0 ι0 st0 (eG (λx loc'=>execs g b' (loc'.set i (some x))) s loc st) D):
  ∃W:Nat->Nat->L2.St->Hp->Prop,(∃m,W 0 m σ H)/\∀k m σ H,W k m σ H->
   (J.stop k H/\D.nx σ H)∨(J.go k H/\∃Nn:L2.St->Hp->Prop,(∀σ' H',Nn σ' H'->∃m',m'<m/\W (k+1) m' σ' H')/\∀x H',J.yld k H x H'->d_ i x σ H' λσ2 H2=>tS X.K Xw (execs g b') {D with nx:=Nn,ct:=Nn,bk:=D.nx} σ2 H2):=by
 refine⟨λk m σ2 H2=>∃ι2 st2 loc2,Ext H H2 ι ι2 st.length st2.length/\Sim X.K H2 ι2 st2/\LRel X.K H2 ι2 st2.length loc2 σ2/\fB X.K Xw H0 ι0 st0 (eg (λx loc'=>execs g b' (loc'.set i (some x))) s m k loc2 st2) D,⟨d8 s st+1,ι,st,loc,Ext.refl _ _ _,Sm,L,P⟩,?_⟩;rintro k m σ2 H2 ⟨ι2,st2,loc2,E2,S2,L2',P2⟩;obtain⟨c1,c2⟩:=F H2 ι2 st2 k E2 S2;cases m with
 |zero=>exact P2.elim
 |succ m=>
  simp only[eg] at P2;cases en:fc s k st2 with
  |none=>rw[en] at P2;exact P2.elim
  |some ox=>
   rw[en] at P2;cases ox with
   |none=>exact .inl ⟨c1 en,P2 H2 ι2 σ2 (E0.trans E2) S2 L2'⟩
   |some x=>
    obtain⟨hgo,hyl⟩:=c2 x en;refine .inr ⟨hgo,λσ3 H3=>∃ι3 st3 loc3,Ext H H3 ι ι3 st.length st3.length/\Sim X.K H3 ι3 st3/\LRel X.K H3 ι3 st3.length loc3 σ3/\fB X.K Xw H0 ι0 st0 (eg (λx loc'=>execs g b' (loc'.set i (some x))) s m (k+1) loc3 st3) D,λσ' H' q=>⟨m,aI _,q⟩,λv H' y=>?_⟩;obtain⟨rfl,rv⟩:=hyl v H' y;obtain⟨r,st3,e3,P3⟩:=aG P2;refine⟨ι2,st2,loc2.set i (some x),S2,L2'.set i rv,?_⟩;rw[e3];cases r with
    |nx loc3=>exact λH3 ι3 σ3 E3 S3 L3=>⟨ι3,st3,loc3,E2.trans E3,S3,L3,P3⟩
    |rt d=>exact λH3 ι3 w E3 S3 r3=>P3 H3 ι3 w ((E0.trans E2).trans E3) S3 r3
    |ex n l=>exact λH3 ι3 σ3 E3 S3 L3=>P3 H3 ι3 σ3 ((E0.trans E2).trans E3) S3 L3
theorem kr{f:D->Loc->M Fl}{loc:Loc}(n:Nat)(st:aK)(h:∀xs,st[n]?≠some (.lst xs)):eG f (.at n) loc st=.bad:=by unfold eG;simp only[eg,rL h]
theorem ig{s:Src}{st st0:aK}{H0:Hp}{loc:Loc}{D:Ends}{b':List S}
  (F:em X.K J s H ι st.length)(E0:Ext H0 H ι0 ι st0.length st.length)(Sm:Sim X.K H ι st)(L:LRel X.K H ι st.length loc σ)(P:fB X.K Xw H0 ι0 st0 (eG (λx loc'=>aZ (items? is.length x) λds=>execs g b' (cV is ds loc')) s loc st) D):
  ∃W:Nat->Nat->L2.St->Hp->Prop,(∃m,W 0 m σ H)/\∀k m σ H,W k m σ H->
   (J.stop k H/\D.nx σ H)∨(J.go k H/\∃Nn:L2.St->Hp->Prop,(∀σ' H',Nn σ' H'->∃m',m'<m/\W (k+1) m' σ' H')/\∀x H',J.yld k H x H'->Cu X.K is.length (nM is) x σ H' λσ2 H2=>tS X.K Xw (execs g b') {D with nx:=Nn,ct:=Nn,bk:=D.nx} σ2 H2):=by
 refine⟨λk m σ2 H2=>∃ι2 st2 loc2,Ext H H2 ι ι2 st.length st2.length/\Sim X.K H2 ι2 st2/\LRel X.K H2 ι2 st2.length loc2 σ2/\fB X.K Xw H0 ι0 st0 (eg (λx loc'=>aZ (items? is.length x) λds=>execs g b' (cV is ds loc')) s m k loc2 st2) D,⟨d8 s st+1,ι,st,loc,Ext.refl _ _ _,Sm,L,P⟩,?_⟩;rintro k m σ2 H2 ⟨ι2,st2,loc2,E2,S2,L2',P2⟩;obtain⟨c1,c2⟩:=F H2 ι2 st2 k E2 S2;cases m with
 |zero=>exact P2.elim
 |succ m=>
  simp only[eg] at P2;cases en:fc s k st2 with
  |none=>rw[en] at P2;exact P2.elim
  |some ox=>
   rw[en] at P2;cases ox with
   |none=>exact .inl ⟨c1 en,P2 H2 ι2 σ2 (E0.trans E2) S2 L2'⟩
   |some x=>
    obtain⟨hgo,hyl⟩:=c2 x en;refine .inr ⟨hgo,λσ3 H3=>∃ι3 st3 loc3,Ext H H3 ι ι3 st.length st3.length/\Sim X.K H3 ι3 st3/\LRel X.K H3 ι3 st3.length loc3 σ3/\fB X.K Xw H0 ι0 st0 (eg (λx loc'=>aZ (items? is.length x) λds=>execs g b' (cV is ds loc')) s m (k+1) loc3 st3) D,λσ' H' q=>⟨m,aI _,q⟩,λv H' y=>?_⟩;obtain⟨EH,SH,rv⟩:=hyl v H' y;have EH2:=E2.trans EH;have L3':=L2'.ext EH;obtain⟨r,st3,e3,P3⟩:=aG P2;unfold items? at e3;cases es:a8 st2 x with
    |none=>simp only[aZ,es] at e3;cases e3
    |some xs=>
     by_cases hl:xs.length=is.length
     ·have e4:execs g b' (cV is xs loc2) st2=.ok r st3:=by simp only[aZ,es,if_pos hl] at e3;exact e3
      obtain⟨a,vs,rfl,hq,rw'⟩:=rv.seq SH es;refine⟨a,vs,rfl,hq,by rw[<-rw'.length];exact hl,kZ rw' hl L3' λσ' L'=>⟨ι2,st2,cV is xs loc2,SH,L',?_⟩⟩
      rw[e4];cases r with
      |nx loc3=>exact λH3 ι3 σ3 E3 S3 L3=>⟨ι3,st3,loc3,EH2.trans E3,S3,L3,P3⟩
      |rt d=>exact λH3 ι3 w E3 S3 r3=>P3 H3 ι3 w ((E0.trans EH2).trans E3) S3 r3
      |ex n l=>exact λH3 ι3 σ3 E3 S3 L3=>P3 H3 ι3 σ3 ((E0.trans EH2).trans E3) S3 L3
     ·simp only[aZ,es,if_neg hl] at e3;cases e3
theorem o9{f:D->Loc->M Fl}{loc:Loc}(n:Nat)(st:aK)(h:∀xs,st[n]?≠some (.lst xs)):eG f (.en n) loc st=.bad:=by
 have hb:fc (.en n) 0 st=none:=by simp only[fc]
 unfold eG;simp only[eg,hb]
theorem o8{f:D->Loc->M Fl}{loc:Loc}{x y:D}{st:aK}(h:a8 st x=none∨a8 st y=none):eG f (.zp x y) loc st=.bad:=by simp only[eG,eg,yc 0 h]
theorem zo(hp:PassesOwn (model X.prog X.w) X.A X.env X.xe)(C:Ctx T g X sc N)(hcm:T.calm=true){body:List Stmt}{a1 a2:Ex}{b':List S}{p3:Pos}(hfn:∀y,X.fn y=true)(ht:oj sc N ts=some is)(hg:be sc "zip"=true)(hst:starEach [a,b] X.env=(false,eval a X.env)::starEach [b] X.env)(hst2:starEach [b] X.env=[(false,eval b X.env)])
  (ha:PE X a (tE X.K (run g a1)))(hc:PE X b (tE X.K (run g a2)))(hb:PSs X body (tS X.K Xw (execs g b'))):
  PS X (.For (.Tuple ts tk p2) (.Call (.Name "zip" p3) [a,b] [] p4) body [] pos) (tS X.K Xw (exec g (.forZ is a1 a2 b'))):=by
 obtain⟨h1,h2,h3⟩:=gU C hfn ht;refine(kW hp (C.calm hcm) (uO (ln C hg) (C.blt _ (by decide+kernel)) (bZ ha (bZ hc dP hst2) hst) hst hst2) (ny (C.calm hcm) h1 h2 h3) hb (λ_=>rfl)).imp λD σ H hp=>?_
 obtain⟨ι,st,loc,S,L,P⟩:=hp;rw[exec] at P;obtain⟨d,st1,e1,P⟩:=aG P;obtain⟨d2,st2,e2,P⟩:=aG P;obtain⟨s,st3,e3,P⟩:=aG P;obtain⟨e4,rfl⟩:=bC e3;refine bh S L e1 λH1 ι1 v E1 S1 r1=>bh S1 (L.ext E1) e2 λH2 ι2 v2 E2 S2 r2=>?_;cases e4;cases q1:a8 st3 d with
 |none=>rw[o8 (.inl q1)] at P;exact P.elim
 |some xs=>
  cases q2:a8 st3 d2 with
  |none=>rw[o8 (.inr q2)] at P;exact P.elim
  |some ys=>obtain⟨_,vs,z,h1,_⟩:=(r1.ext E2).seqB S2 q1;cases z;obtain⟨_,ws,z,h2,_⟩:=r2.seqB S2 q2;cases z;exact⟨_,_,_,_,rfl,⟨vs,h1⟩,⟨ws,h2⟩,ig (em.zp (r1.ext E2) r2) (E1.trans E2) S2 (L.ext (E1.trans E2)) P⟩
theorem zt(hp:PassesOwn (model X.prog X.w) X.A X.env X.xe)(C:Ctx T g X sc N)(hcm:T.calm=true){body:List Stmt}{a':Ex}{b':List S}{p3:Pos}(hfn:∀y,X.fn y=true)(ht:oj sc N ts=some is)(hg:be sc "enumerate"=true)(hst:starEach [a] X.env=[(false,eval a X.env)])(ha:PE X a (tE X.K (run g a')))(hb:PSs X body (tS X.K Xw (execs g b'))):
  PS X (.For (.Tuple ts tk p2) (.Call (.Name "enumerate" p3) [a] [] p4) body [] pos) (tS X.K Xw (exec g (.forE is a' b'))):=by
 obtain⟨h1,h2,h3⟩:=gU C hfn ht;refine(kW hp (C.calm hcm) (oN (ln C hg) (C.blt _ (by decide+kernel)) (bZ ha dP hst) hst) (ny (C.calm hcm) h1 h2 h3) hb (λ_=>rfl)).imp λD σ H hp=>?_
 obtain⟨ι,st,loc,S,L,P⟩:=hp;rw[exec] at P;obtain⟨d,st1,e1,P⟩:=aG P;obtain⟨s,st2,e2,P⟩:=aG P;obtain⟨e3,rfl⟩:=bC e2;refine bh S L e1 λH1 ι1 v E1 S1 r1=>?_;have r1':=r1;cases r1 with
 |tup h r=>cases e3;exact⟨_,rfl,.inr ⟨⟨_,h⟩,ig (em.enT r1') E1 S1 (L.ext E1) P⟩⟩
 | @ref n hn=>
  cases e3;cases q:st2[n]? with
  |none=>
   rw[o9 n st2 (λxs z=>by rw[q] at z;cases z)] at P
   exact P.elim
  |some o=>
   cases o with
   |lst xs=>obtain⟨vs,h1,_⟩:=S1.ob n _ q;exact⟨_,rfl,.inl ⟨⟨vs,ez.of h1⟩,ig (em.en hn) E1 S1 (L.ext E1) P⟩⟩
   |_=>
    rw[o9 n st2 (λxs z=>by rw[q] at z;cases z)] at P
    exact P.elim
 |_=>cases e3
theorem BN(hp:PassesOwn (model X.prog X.w) X.A X.env X.xe)(C:Ctx T g X sc N)(hcm:T.calm=true){body:List Stmt}{a':Ex}{b':List S}(hx:isLocal sc x=true)(hfn:∀y,X.fn y=true)(hi:gE N x=some i)(ha:PE X it (tE X.K (run g a')))(hf:∀v,foldedSetIterable it X.env v=pure v)(hb:PSs X body (tS X.K Xw (execs g b'))):
  PS X (.For (.Name x p2) it body [] pos) (tS X.K Xw (exec g (.for_ i false a' b'))):=by
 refine(kW hp (C.calm hcm) (nv ha) (fX (i:=i) (by rw[C.n];exact C.nd) (by rw[C.n];exact dw hi) (iL C hx) (.inl (hfn x))) hb hf).imp λD σ H hp=>?_
 obtain⟨ι,st,loc,S,L,P⟩:=hp;rw[exec] at P;obtain⟨d,st1,e1,P⟩:=aG P;obtain⟨s,st2,e2,P⟩:=aG P;obtain⟨e3,rfl⟩:=bC e2;refine bh S L e1 λH1 ι1 v E1 S1 r1=>?_;cases r1 with
 |tup h r=>cases e3;exact⟨_,rfl,.inr ⟨⟨_,h⟩,nN (c8.tup h r) E1 S1 (L.ext E1) P⟩⟩
 |fl h r=>cases e3;exact⟨_,rfl,.inl ⟨⟨_,h.sql⟩,nN (c8.fl h r) E1 S1 (L.ext E1) P⟩⟩
 | @ref n hn=>
  cases e3;cases q:st2[n]? with
  |none=>
   rw[kr n st2 (λxs z=>by rw[q] at z;cases z)] at P
   exact P.elim
  |some o=>
   cases o with
   |lst xs=>obtain⟨vs,h1,_⟩:=S1.ob n _ q;exact⟨_,rfl,.inl ⟨⟨vs,ez.of h1⟩,nN (c8.ref hn) E1 S1 (L.ext E1) P⟩⟩
   |_=>
    rw[kr n st2 (λxs z=>by rw[q] at z;cases z)] at P
    exact P.elim
 |_=>cases e3
theorem zq(hp:PassesOwn (model X.prog X.w) X.A X.env X.xe)(C:Ctx T g X sc N)(hcm:T.calm=true){body:List Stmt}{a':Ex}{b':List S}(hfn:∀y,X.fn y=true)(ht:oj sc N ts=some is)(ha:PE X it (tE X.K (run g a')))(hf:∀v,foldedSetIterable it X.env v=pure v)(hb:PSs X body (tS X.K Xw (execs g b'))):
  PS X (.For (.Tuple ts tk p2) it body [] pos) (tS X.K Xw (exec g (.forU is a' b'))):=by
 obtain⟨h1,h2,h3⟩:=gU C hfn ht;refine(kW hp (C.calm hcm) (nv ha) (ny (C.calm hcm) h1 h2 h3) hb hf).imp λD σ H hp=>?_;obtain⟨ι,st,loc,S,L,P⟩:=hp;rw[exec] at P;obtain⟨d,st1,e1,P⟩:=aG P;obtain⟨s,st2,e2,P⟩:=aG P;obtain⟨e3,rfl⟩:=bC e2;refine bh S L e1 λH1 ι1 v E1 S1 r1=>?_;cases r1 with
 |tup h r=>cases e3;exact⟨_,rfl,.inr ⟨⟨_,h⟩,ig (c8.toG (c8.tup h r)) E1 S1 (L.ext E1) P⟩⟩
 |fl h r=>cases e3;exact⟨_,rfl,.inl ⟨⟨_,h.sql⟩,ig (c8.toG (c8.fl h r)) E1 S1 (L.ext E1) P⟩⟩
 | @ref n hn=>
  cases e3;cases q:st2[n]? with
  |none=>
   rw[kr n st2 (λxs z=>by rw[q] at z;cases z)] at P
   exact P.elim
  |some o=>
   cases o with
   |lst xs=>obtain⟨vs,h1,_⟩:=S1.ob n _ q;exact⟨_,rfl,.inl ⟨⟨vs,ez.of h1⟩,ig (c8.toG (c8.ref hn)) E1 S1 (L.ext E1) P⟩⟩
   |_=>
    rw[kr n st2 (λxs z=>by rw[q] at z;cases z)] at P
    exact P.elim
 |_=>cases e3
theorem zr(hp:PassesOwn (model X.prog X.w) X.A X.env X.xe)(C:Ctx T g X sc N)(hcm:T.calm=true){body:List Stmt}{a':Ex}{b':List S}(hx:isLocal sc x=true)(hfn:∀y,X.fn y=true)(hi:gE N x=some i)(hg:be sc "range"=true)(hst:starEach [a] X.env=[(false,eval a X.env)])(ha:PE X a (tE X.K (run g a')))(hb:PSs X body (tS X.K Xw (execs g b'))):
  PS X (.For (.Name x p2) (.Call (.Name "range" p3) [a] [] p4) body [] pos) (tS X.K Xw (exec g (.for_ i true a' b'))):=by
 have hgl:Gl X "range":=by show X.env.scope.names.lookup _=some .globalImplicit;rw[C.sc];simpa[be] using hg
 refine(kW hp (C.calm hcm) (my hgl (C.blt _ (by decide+kernel)) (bZ ha dP hst) hst) (fX (i:=i) (by rw[C.n];exact C.nd) (by rw[C.n];exact dw hi) (iL C hx) (.inl (hfn x))) hb).imp λD σ H hp=>?_
 obtain⟨ι,st,loc,S,L,P⟩:=hp;rw[exec] at P;obtain⟨d,st1,e1,P⟩:=aG P;obtain⟨s,st2,e2,P⟩:=aG P;obtain⟨e3,rfl⟩:=bC e2;refine bh S L e1 λH1 ι1 v E1 S1 r1=>?_;cases r1 with
 |int j=>
  simp only[c6] at e3;split at e3
  ·rename_i hj;cases e3;exact⟨j,rfl,by omega,by omega,nN c8.rng E1 S1 (L.ext E1) P⟩
  ·cases e3
 |_=>cases e3
end
theorem Sim.put{K:al}{st:aK}(S:Sim K H ι st){o o':O}{ho:HO}(e:st[n]? =some o)(new:pE K (bx H (ι n) ho) ι st.length (ι n) o'):
  Ext H (bx H (ι n) ho) ι ι st.length st.length/\Sim K (bx H (ι n) ho) ι (st.set n o'):=by
 obtain⟨u,h1,nt,nf⟩:=(S.ob n o e).there;have hn:n<st.length:=(aL e).1
 have E:Ext H (bx H (ι n) ho) ι ι st.length st.length:=by
  refine⟨⟨ae _,λ_ _=>rfl,λb zs q=>?_,λb ob w q=>?_⟩,λb ob q k=>⟨by rw[aD (k n hn).symm];exact q,k⟩⟩
  ·rw[aD (fN q h1 (λz=>nt _ z.symm))];exact q
  ·rw[aD (fN q h1 (λz=>nf _ _ z.symm))];exact q
 refine⟨E,λi j hi hj=>S.inj i j (by simpa using hi) (by simpa using hj),λk ob q=>?_⟩
 rw[aA];by_cases hk:k=n
 ·subst hk;rw[aV hn] at q;cases q;exact new
 ·rw[bd (Ne.symm hk)] at q;have hk':k<st.length:=(aL q).1;exact(S.ob k ob q).move E.toExt0 (aD λz=>hk (S.inj k n hk' hn z))
section
variable{T:Tab}{g:eB}{X:Cx}{sc:Scope}{N:List Str}{pos p2:Pos}{Xw:Addr->L2.St->Hp->Prop}
theorem vm{c:Str}{fs:List (Str×D)}{d:D}{st:aK}(C:Ctx T g X sc N)(S:Sim X.K H ι st)(q:st[n]? =some (.ins c fs))(hc:c∈T.ics f)(hl:fs.length<900)(r:VRel X.K H ι st.length d v):
  ∃C0 dx vs,H (ι n)=some (.ins C0 dx vs)/\Cls X.K C0/\fH X.K C0 f/\vs.length<1000/\Ext H (bx H (ι n) (.ins C0 dx (eE f v vs))) ι ι st.length (st.set n (O.ins c (putD f d fs))).length/\Sim X.K (bx H (ι n) (.ins C0 dx (eE f v vs))) ι (st.set n (.ins c (putD f d fs))):=by
 obtain⟨ic,hi,rfl,hf⟩:=nC hc;obtain⟨C0,n0,cl,na,_⟩:=C.icl ic hi;obtain⟨C1,dx,vs,n1,h1,h2,h3⟩:=S.ob n _ q;rw[n0] at n1;cases n1;have lw:=h2.length
 have X0:Ext0 H (bx H (ι n) (.ins C0 dx (eE f v vs))) ι ι st.length st.length:=by
  refine⟨ae _,λ_ _=>rfl,λb zs z=>?_,λb ob w z=>?_⟩
  ·rw[aD (fN z h1 (by intro y;cases y))];exact z
  ·rw[aD (fN z h1 (by intro y;cases y))];exact z
 have lp:(putD f d fs).length<=900:=by have:=gX f v vs;have:=(h2.put (f:=f) r).length;omega
 obtain⟨E4,S4⟩:=S.put (ho:= .ins C0 dx (eE f v vs)) (o':= .ins ic.x (putD f d fs)) q ⟨C0,dx,eE f v vs,n0,bw,(h2.put r).ext0 X0,lp⟩;exact⟨C0,dx,vs,h1,cl,na f hf,by omega,by rw[aA];exact E4,S4⟩
theorem zj{o' e':Ex}(C:Ctx T g X sc N)(hn:xC e=true)(ho:PE X o (tE X.K (run g o')))(he:PE X e (tE X.K (run g e'))):PS X (.Assign [.Attribute o f p2] e pos) (tS X.K Xw (exec g (.setf o' f e' [] (T.ics f)))):=by
 refine(zL ho he (by cases e<;>first|rfl|cases hn)).imp λD σ H hp=>?_
 obtain⟨ι,st,loc,S,L,P⟩:=hp;rw[exec] at P;obtain⟨d,st1,e1,P⟩:=aG P;obtain⟨x,st2,e2,P⟩:=aG P;obtain⟨u,st3,e3,P⟩:=aG P;unfold fg at e3;cases x with
 |ref n=>
  dsimp only at e3;split at e3
  ·rename_i c fs q;split at e3
   ·rename_i hc;cases e3;refine bh S L e1 λH1 ι1 v E1 S1 r1=>bh S1 (L.ext E1) e2 λH2 ι2 vx E2 S2 r2=>?_;have E12:=E1.trans E2;cases r2 with
    |ref hnn=>obtain⟨C0,dx,vs,h1,cl,na,lz,E4,S4⟩:=vm C S2 q hc.2 hc.1 (r1.ext E2);exact⟨_,C0,dx,vs,rfl,h1,cl,na,lz,P _ ι2 σ (E12.trans E4) S4 (L.ext (E12.trans E4))⟩
   ·cases e3
  ·cases e3
 |_=>cases e3
theorem zu{o' e':Ex}(C:Ctx T g X sc N)(ho:PE X o (tE X.K (run g o')))(he:PE X e (tE X.K (run g e'))):PS X (.AugAssign (.Attribute o f p2) .Add e pos) (tS X.K Xw (exec g (.augf o' f e' (T.ics f)))):=by
 refine(sA ho he Ap).imp λD σ H hp=>?_;obtain⟨ι,st,loc,S,L,P⟩:=hp;rw[exec] at P;obtain⟨x,st1,e1,P⟩:=aG P;obtain⟨y,st2,e2,P⟩:=aG P;obtain⟨c1,st6,e6,P⟩:=aG P;obtain⟨z,st3,e3,P⟩:=aG P;obtain⟨w,st4,e4,P⟩:=aG P;obtain⟨c2,st7,e7,P⟩:=aG P;split at P
 rotate_left
 ·exact P.elim
 rename_i hcc;subst hcc;obtain⟨u,st5,e5,P⟩:=aG P;unfold lA at e2;cases x with
 |ref n=>
  dsimp only at e2;split at e2
  ·rename_i c fs q;split at e2
   ·rename_i dd hl;split at e2
    ·rename_i hc;cases e2;unfold sZ at e6;dsimp only at e6;rw[q] at e6;cases e6;refine bh S L e1 λH1 ι1 vx E1 S1 r1=>?_;cases r1 with
     |ref hn=>
      obtain⟨ic,hi,rfl,hf⟩:=nC hc;obtain⟨C0,n0,cl,na,_⟩:=C.icl ic hi;obtain⟨C1,dx,vs,n1,h1,h2,h3⟩:=S1.ob n _ q;rw[n0] at n1;cases n1;obtain⟨v1,lv,rv⟩:=h2.look hl;refine⟨_,C0,dx,vs,v1,rfl,h1,cl,na f hf,lv,bh S1 (L.ext E1) e3 λH3 ι3 v3 E3 S3 r3=>?_⟩;unfold qE at e4;split at e4
      ·cases e4;unfold sZ at e7;dsimp only at e7;have rv3:=rv.ext E3;cases rv;cases r3;refine⟨_,_,rfl,rfl,?_⟩;unfold fg at e5;dsimp only at e5;split at e5
       ·rename_i c2 fs2 q2;split at e7
        rotate_left
        ·cases e7
        rename_i c3 fs3 q3;cases e7;rw[q3] at q2;cases q2;split at e5
        ·rename_i hc2;cases e5;obtain⟨C2,dx2,vs2,g1,g2,g3,g4,E5,S5⟩:=vm C S3 q3 hc2.2 hc2.1 (.int _);have e6:ι3 n=ι1 n:=E3.ad n hn
         have hCC:C2=C0:=by obtain⟨C4,dx4,vs4,n4,k4,_⟩:=S3.ob n _ q3;rw[n0] at n4;cases n4;rw[g1] at k4;cases k4;rfl
         subst hCC;rw[e6] at g1 E5 S5;have E6:=(E1.trans E3).trans E5;exact⟨dx2,vs2,g1,g4,P _ ι3 σ E6 S5 (L.ext E6)⟩
        ·cases e5
       ·cases e5
      ·cases e4
    ·cases e2
   ·cases e2
  ·cases e2
 |_=>cases e2
theorem zh{body els:List Stmt}{h0:ExceptHandler}{hs:List ExceptHandler}{b' e':List S}(hb:∀pins E,PassesOwn (model X.prog X.w) X.A X.env E->PSs (ph X pins E) body (tS X.K C9 (execs g b')))(he:PSs X els (tS X.K Xw (execs g e'))):
  PS X (.Try body (h0::hs) els [] pos) (tS X.K Xw (exec g (.tryE b' e'))):=by
 refine(xg hb he).imp λDn σ H hp=>?_;obtain⟨ι,st,loc,S,L,P⟩:=hp;rw[exec] at P;obtain⟨r,st1,e1,P⟩:=aG P;refine⟨ι,st,loc,S,L,?_⟩;rw[e1];cases r with
 |nx l=>exact λH' ι' σ' E' S' L'=>⟨ι',st1,l,S',L',P.mono E'⟩
 |rt d=>exact P
 |ex n l=>exact P.elim
end
noncomputable abbrev pD(X:Cx):Prop:=X.stack=X.env::X.outer/\X.env.frame=some X.env.locals
noncomputable def SS(T:Tab)(g:eB)(n:Nat):Prop:=∀{X:Cx}{sc:Scope}{N:List Str}{s:Stmt}{s':S}{Xw:Addr->L2.St->Hp->Prop},Ctx T g X sc N->(∀y,X.fn y=true)->PassesOwn (model X.prog X.w) X.A X.env X.xe->pD X->cS T n sc N s=some s'->PS X s (tS X.K Xw (exec g s'))
noncomputable def Dp(T:Tab)(g:eB)(n:Nat):Prop:=∀{X:Cx}{sc:Scope}{N:List Str}{s:List Stmt}{s':List S}{Xw:Addr->L2.St->Hp->Prop},Ctx T g X sc N->(∀y,X.fn y=true)->PassesOwn (model X.prog X.w) X.A X.env X.xe->pD X->wc T n sc N s=some s'->PSs X s (tS X.K Xw (execs g s'))
theorem tY{T:Tab}{g:eB}(h1:SS T g n)(h2:Dp T g n):Dp T g (n+1):=by
 intro X sc N s s' Xw C hf hp hst h;cases s with
 |nil=>cases h;refine xf.imp λD σ H hp=>?_;obtain⟨ι,st,loc,S,L,P⟩:=hp;rw[execs] at P;exact P H ι σ (Ext.refl _ _ _) S L
 |cons a r=>
  obtain⟨r',er,rfl⟩:=map_some h
  have ea:PS X a (tS X.K Xw (exec g ((cS T n sc N a).getD .stop))):=by
   cases q:cS T n sc N a with
   |none=>exact uj
   |some a'=>exact h1 C hf hp hst q
  refine(uI ea (h2 (Xw:=Xw) C hf hp hst er)).imp λD σ H hp=>?_;obtain⟨ι,st,loc,S,L,P⟩:=hp;rw[execs] at P;obtain⟨f,st1,e1,P⟩:=aG P;refine⟨ι,st,loc,S,L,?_⟩;rw[e1];cases f with
  |nx loc1=>exact λH1 ι1 σ1 E1 S1 L1=>⟨ι1,st1,loc1,S1,L1,P.mono E1⟩
  |rt d=>exact P
  |ex n l=>exact P
theorem tW{T:Tab}{e':Ex}(hk:gZ e=false)(hm:cE T n sc N e=some e')(o:Option Expr)(l:Nat)(env:Env)(ho:o=none∨∃x p,o=some (.Name x p)):swapsWith e o l env=pure false:=by
 cases n with
 |zero=>cases hm
 |succ n=>
  rcases ho with rfl|⟨x,p,rfl⟩
  ·cases e<;>first|rfl|(cases hm;done)|cases hk
  ·cases e<;>first|rfl|(cases hm;done)|cases hk
theorem xX{T:Tab}{g:eB}(C:Ctx T g X sc N)(pins:List (Addr×Obj))(E:Value->Shared->Prop):Ctx T g (ph X pins E) sc N:=
 ⟨C.sc,C.n,C.nd,C.nm,C.calm,C.un,C.fns,C.csts,C.blt,C.icl,C.mks,C.ums,C.gds⟩
theorem w_{T:Tab}{g:eB}(h2:Dp T g n):SS T g (n+1):=by
 intro X sc N s s' Xw C hf hp hst h;have snd:=sound T g n;have he:=λ{e:Expr}{e':Ex}(q:cE T n sc N e=some e')=>snd.1 C q;cases s with
 |Assign ts e _=>
  obtain⟨t,ht,h⟩:=bs h;cases dv ht;clear ht;cases t with
  |Name x px=>
   obtain⟨hl,h⟩:=fS h;obtain⟨i,hi,h⟩:=bs h;obtain⟨e',hee,rfl⟩:=map_some h;have k1:X.N[i]? =some x:=by rw[C.n];exact dw hi
   by_cases hk:gZ e=true
   ·cases e with
    |ListComp elt gens scope pos=>
     cases n with
     |zero=>cases hee
     |succ m=>
      exact sf (sound T g m).1 (sound T g m).2.2.1 C hee (λy py it ifs e hcm hc hd=>by cases e;exact(hZ.ps C hcm hc hd k1 (iL C hl) (.inl (hf _))).imp λD σ H q=>p0 q) λy1 y2 p1 p2 k pt it ifs e hcm hc hd=>by cases e;exact(fJ.ps C hcm hc hd k1 (iL C hl) (.inl (hf _))).imp λD σ H q=>p0 q
    |_=>cases hk
   ·exact(p_ (by rw[C.n];exact C.nd) k1 (iL C hl) (he hee).1 (tW (by simpa using hk) hee _ _ _ (.inr ⟨_,_,rfl⟩)) (.inl (hf _))).imp λD σ H q=>p0 q
  |Subscript o i _=>
   obtain⟨hp',h⟩:=fS h;obtain⟨o',a1,h⟩:=bs h;obtain⟨i',a2,h⟩:=bs h;obtain⟨e',a3,rfl⟩:=map_some h;exact wX (by have:=C.un;omega) hp'.1 hp'.2 (he a1).1 (he a2).1 (he a3).1
  |Attribute o f _=>obtain⟨hnc,h⟩:=fS h;obtain⟨o',a1,h⟩:=bs h;obtain⟨e',a2,rfl⟩:=map_some h;exact zj C hnc (he a1).1 (he a2).1
  |Tuple ts _ _=>obtain⟨hcm,h⟩:=fS h;obtain⟨is,ht,h⟩:=bs h;obtain⟨e',a2,h⟩:=bs h;obtain⟨hk,h⟩:=fS h;cases h;exact BI C hcm hf hk ht (he a2).1
  |_=>cases h
 |Return o _=>
  cases o with
  |none=>cases h;exact zl
  |some e=>
   cases h;cases q:cE T n sc N e with
   |none=>exact uj
   |some e'=>exact BJ (he q).1
 |Expr e _=>
  rcases kj h with⟨z,hq,h⟩|⟨_,h⟩
  ·obtain⟨o',a1,h⟩:=bs h;obtain⟨e',a2,rfl⟩:=map_some h;obtain⟨m,ap,cp,rfl,hm⟩:=pB hq;simp only[Bool.and_eq_true] at hm;exact BS hm.1.1 hm.1.2 (cr a2 [] _) (ir hm.2 _ _) (he a1).1 (he a2).1
  rcases kj h with⟨z,hq,h⟩|⟨_,h⟩
  ·obtain⟨o',a1,h⟩:=bs h;obtain⟨e',a2,rfl⟩:=map_some h;obtain⟨m,ap,cp,rfl,hm⟩:=pB hq;simp only[Bool.and_eq_true] at hm;exact BO hm.1.1 hm.1.2 (cr a2 [] _) (ir hm.2 _ _) (he a1).1 (he a2).1
  rcases kj h with⟨o,hq,h⟩|⟨_,h⟩
  ·obtain⟨o',a1,rfl⟩:=map_some h;obtain⟨ap,cp,rfl,h4,h5⟩:=vY hq;exact BQ h4 (ir h5 _ _) (he a1).1
  ·obtain⟨hk,h⟩:=fS h;obtain⟨e',q,rfl⟩:=map_some h;exact DQ (T:=T) hk ⟨n,sc,N,q⟩ (he q).1
 |AugAssign t op e _=>
  cases t with
  |Name x _=>
   cases op with
   |Add=>
    obtain⟨hl,h⟩:=fS h;obtain⟨i,hi,h⟩:=bs h;obtain⟨e',q,rfl⟩:=map_some h;exact BR (by rw[C.n];exact C.nd) (by rw[C.n];exact dw hi) (iL C hl) (hf _) (he q).1
   |_=>cases h
  |Attribute o f _=>
   cases op with
   |Add=>obtain⟨o',a1,h⟩:=bs h;obtain⟨e',a2,rfl⟩:=map_some h;exact zu C (he a1).1 (he a2).1
   |_=>cases h
  |_=>cases h
 |If c a b _=>obtain⟨c',a1,h⟩:=bs h;obtain⟨a',a2,h⟩:=bs h;obtain⟨b',a3,rfl⟩:=map_some h;exact DP (he a1).2 (h2 (Xw:=Xw) C hf hp hst a2) (h2 (Xw:=Xw) C hf hp hst a3)
 |For t it body els _=>
  cases els with
  |cons=>cases h
  |nil=>
   cases t with
   |Name x _=>
    obtain⟨hl,h⟩:=fS h;obtain⟨i,hi,h⟩:=bs h;obtain⟨b',hb,h⟩:=bs h;rcases kj h with⟨a,ha,h⟩|⟨_,h⟩
    ·obtain⟨a',q,rfl⟩:=map_some h;obtain⟨hg,_,_,rfl⟩:=ut ha;exact zr hp C hl.2 hl.1 hf hi hg (cr q [] _) (he q).1 (h2 (Xw:=Xw) C hf hp hst hb)
    ·obtain⟨a',q,rfl⟩:=map_some h;exact BN hp C hl.2 hl.1 hf hi (he q).1 (ku q _) (h2 (Xw:=Xw) C hf hp hst hb)
   |Tuple ts _ _=>
    obtain⟨hcm,h⟩:=fS h;obtain⟨is,ht,h⟩:=bs h;obtain⟨b',hb,h⟩:=bs h;rcases kj h with⟨a,hen,h⟩|⟨_,h⟩
    ·obtain⟨a',q,rfl⟩:=map_some h;obtain⟨hg,_,_,rfl⟩:=mK hen;exact zt hp C hcm hf ht hg (cr q [] _) (he q).1 (h2 (Xw:=Xw) C hf hp hst hb)
    rcases kj h with⟨z,hzi,h⟩|⟨_,h⟩
    ·obtain⟨a',q1,h⟩:=bs h;obtain⟨c',q2,rfl⟩:=map_some h;obtain⟨hg,_,_,rfl⟩:=nZ hzi;exact zo hp C hcm hf ht hg (cr q1 _ _) (cr q2 [] _) (he q1).1 (he q2).1 (h2 (Xw:=Xw) C hf hp hst hb)
    ·obtain⟨a',q,rfl⟩:=map_some h;exact zq hp C hcm hf ht (he q).1 (ku q _) (h2 (Xw:=Xw) C hf hp hst hb)
   |_=>cases h
 |While c body els _=>
  cases els with
  |cons=>cases h
  |nil=>obtain⟨c',hc,h⟩:=bs h;obtain⟨b',hb,rfl⟩:=map_some h;exact ze hp (he hc).2 (h2 (Xw:=Xw) C hf hp hst hb)
 |Pass=>cases h;exact zn
 |Try body hs els fin _=>
  cases els with
  |cons e0 els=>
   cases fin with
   |cons=>cases h
   |nil=>
    cases hs with
    |nil=>cases h
    |cons h0 hs=>obtain⟨b',hb,h⟩:=bs h;obtain⟨e',he',rfl⟩:=map_some h;exact zh (λpins E hpo=>h2 (Xw:=C9) (xX C pins E) hf hpo hst hb) (h2 (Xw:=Xw) C hf hp hst he')
  |nil=>cases h
 |_=>cases h
theorem nc(T:Tab)(g:eB):∀n,SS T g n/\Dp T g n
 |0=>⟨λC hf hp hst h=>(by cases h),λC hf hp hst h=>(by cases h)⟩
 |n+1=>⟨w_ (nc T g n).2,tY (nc T g n).1 (nc T g n).2⟩
structure Rec where
 name:Str
 fname:Str
 qual:Str
 ps:List Str
 N:List Str
 st:Stmt
 fn:Fn
structure Chk(T:Tab)(r:Rec):Prop where
 sc:FnScope r.N r.ps (bT r.st)
 nm:∀x∈r.N,(x==("__debug__":Str))=false/\(x==("__classdict__":Str))=false
 cc:wc T 100 (bT r.st) r.N (d6 r.st)=some r.fn.body
 ar:r.fn.ar=r.ps.length
 nl:r.fn.nl=r.N.length
structure Lnk(K:al)(r:Rec)(a:Addr)(fd:FuncData):Prop where
 f:Fun K r.fname r.qual r.st a fd
 b:Binds K fd r.ps []
theorem EV{K:al}{mg:Str->Option Value}{base:Heap}{qual:Str}{st:Stmt}{f:Addr}{fd:FuncData}{ps:List Str}{k:Nat}{sp:Sp}(F:Fun K x qual st f fd)(S:FnScope N ps (bT st))(len:∀vs H Q E,sp vs H Q E->vs.length=ps.length)
  (hbody:∀(cdv:Value)(A:Around)(outer:List Env)(s:Shared)(H:Hp)(vs:List V)(Q:VK)(E:XK),Room k (A.deeper (envOfC qual (bT st) s.heap.objs.size f cdv))->sp vs H Q E->
   ∃t,PSs (qx (nY P w) P w K mg base N qual (bT st) f cdv A outer s H E) (d6 st) t/\t {nx:=λ_ H'=>Q .non H',rt:=Q} (start N vs) H):FnOk P w K mg base (nY P w) (k+1) f fd ps sp:=by
 obtain⟨oc,od,kV,doc,pm,an,cdv,ct,osl,rfl,lk,hcd⟩:=F.ex;exact Cv lk hcd S len λA outer s H vs Q E hr hsp=>hbody cdv A outer s H vs Q E hr hsp
theorem ip{bn:List Rec}{T:Tab}{r:Rec}(hr:bn[i]? =some r)(hc:Chk T r):∀(n:Nat)(ds:List D)(st:aK),ds.length≠r.ps.length->calls (bn.map (·.fn)) n i ds st=.bad
 |0,_,_,_=>rfl
 |n+1,ds,st,h=>by
  have e:(bn.map (·.fn))[i]? =some r.fn:=by rw[aX,hr];rfl
  simp only[calls,e,jV];rw[if_neg (by rw[hc.ar];exact h)]
  rfl
theorem so{K:al}{ds:List D}(r:VRels K H ι m ds vs)(N:List Str)(k:Nat)(hk:k=N.length):LRel K H ι m (ds.map some++List.replicate (k - ds.length) none) (L2.start N vs):=by
 have l:=r.length;refine⟨by simp[L2.start,l,hk],λi d e=>?_⟩
 by_cases hi:i<ds.length
 ·rw[aR (by simpa using hi),aX] at e
  cases q:ds[i]? with
  |none=>rw[q] at e;cases e
  |some d'=>
   rw[q] at e;have e':d'=d:=by simpa using e
   subst e';obtain⟨v,hv,rv⟩:=r.get q;refine⟨v,?_,rv⟩;unfold L2.start;rw[aR (by simpa[<-l] using hi),aX,hv]
   rfl
 ·rw[aQ (by simpa using hi),List.getElem?_replicate] at e
  split at e<;>cases e
structure Facts(P:Program)(w:World)(K:al)(mg:Str->Option Value)(T:Tab)(bn:List Rec):Prop where
 chk:∀r∈bn,Chk T r
 calm:T.calm=true
 fns:∀(i:Nat)(f:Str),T.fns[i]? =some f->(f==("__debug__":Str))=false/\∃r a fd,bn[i]? =some r/\Lnk K r a fd/\mg f=some (.ref a)
 csts:∀x d,T.csts.lookup x=some d->(x==("__debug__":Str))=false/\∃u v,mg x=some u/\RelV v u/\∀H ι m,VRel K H ι m d v
 blt:∀x∈tf,mg x=none
 icl:∀c∈T.icl,∃C,PySem.W.nsIn K mainGlobals c.x=some (some (.ref C))/\Cls K C/\(∀f∈c.flds,fH K C f)/\(∀(m:Str)(j:Nat),(m,j)∈c.mts->∃r a fd,bn[j]? =some r/\Lnk K r a fd/\Meth K C m a)
 mks:∀(x:Str)(j:Nat),(x,j)∈T.mks->(x==("__debug__":Str))=false/\∃C r a fd,bn[j]? =some r/\Lnk K r a fd/\PySem.W.nsIn K mainGlobals x=some (some (.ref C))/\mg x=some (.ref C)/\Mk K C a
 ums:∀(x m:Str)(j:Nat),(x,m,j)∈T.ums->(x==("__debug__":Str))=false/\∃C r a fd,bn[j]? =some r/\Lnk K r a fd/\mg x=some (.ref C)/\UMeth K C m a
 gds:∀x ks,T.gds.lookup x=some ks->(x==("__debug__":Str))=false/\∃a,mg x=some (.ref a)/\mm P w K a ks
theorem jm{P:Program}{w:World}{K:al}{mg:Str->Option Value}{base:Heap}{T:Tab}{bn:List Rec}(Z:Facts P w K mg T bn):
  ∀(n i:Nat)(r:Rec)(a:Addr)(fd:FuncData),bn[i]? =some r->Lnk K r a fd->FnOk P w K mg base (nY P w) (2*n) a fd r.ps (AY K r.ps.length (calls (bn.map (·.fn)) n i))
 |0,i,r,a,fd,hr,L=>⟨λvs H Q E h=>h.1,λA outer s H args us vs Q E _ _ _ _ h=>by obtain⟨_,ι,st,ds,_,_,q⟩:=h;exact False.elim q⟩
 |n+1,i,r,a,fd,hr,L=>by
  have c:=Z.chk r (aH hr);refine EV (k:=2*n+1) L.f c.sc (λvs H Q E h=>h.1) (λcdv A outer s H vs Q E hroom h=>?_);obtain⟨hlen,ι,st,ds,S,rv,q⟩:=h;have un:=hroom.un
  have C:Ctx T (calls (bn.map (·.fn)) n) (qx (nY P w) P w K mg base r.N r.qual (bT r.st) a cdv A outer s H E) (bT r.st) r.N:=by
   refine⟨rfl,rfl,c.sc.nd,c.nm,λ_=>rfl,?_,λj f hj=>?_,Z.csts,Z.blt,λc hc=>?_,λx j hj=>?_,λx m j hj=>?_,Z.gds⟩
   ·show(A.deeper _).units+100<cLine;omega
   ·obtain⟨hd,r2,a2,fd2,hr2,L2',hm⟩:=Z.fns j f hj;exact⟨hd,a2,fd2,r2.ps,2*n,hm,L2'.f.kp,L2'.b,hroom.mono (Nat.le_succ _),ip hr2 (Z.chk r2 (aH hr2)) n,jm Z n j r2 a2 fd2 hr2 L2'⟩
   ·obtain⟨C0,q1,q2,q3,q4⟩:=Z.icl c hc;refine⟨C0,q1,q2,q3,λm j hj=>?_⟩;obtain⟨r2,a2,fd2,hr2,L2',M⟩:=q4 m j hj;exact⟨a2,fd2,r2.ps,2*n,M,L2'.b,hroom.mono (Nat.le_succ _),ip hr2 (Z.chk r2 (aH hr2)) n,jm Z n j r2 a2 fd2 hr2 L2'⟩
   ·obtain⟨hd,C0,r2,a2,fd2,hr2,L2',q1,q2,q3⟩:=Z.mks x j hj;exact⟨hd,C0,a2,fd2,r2.ps,2*n,q1,q2,q3,L2'.b,hroom,ip hr2 (Z.chk r2 (aH hr2)) n,jm Z n j r2 a2 fd2 hr2 L2'⟩
   ·obtain⟨hd,C0,r2,a2,fd2,hr2,L2',q1,q2⟩:=Z.ums x m j hj;exact⟨hd,C0,a2,fd2,r2.ps,2*n,q1,q2,L2'.b,hroom.mono (Nat.le_succ _),ip hr2 (Z.chk r2 (aH hr2)) n,jm Z n j r2 a2 fd2 hr2 L2'⟩
  refine⟨_,(nc _ _ 100).2 (Xw:=λa _ H'=>E (.ref a) none H') C (λ_=>rfl) PassesOwn.leaving ⟨rfl,rfl⟩ c.cc,ι,st,ds.map some++List.replicate (r.fn.nl - ds.length) none,S,so rv _ _ c.nl,?_⟩;have e:(bn.map (·.fn))[i]? =some r.fn:=by rw[aX,hr];rfl
  have hd:ds.length=r.fn.ar:=by rw[rv.length,hlen,c.ar]
  simp only[calls,e,jV] at q;rw[if_pos hd] at q;unfold aZ at q;cases e1:execs (calls (bn.map (·.fn)) n) r.fn.body (ds.map some++List.replicate (r.fn.nl - ds.length) none) st with
  |bad=>rw[e1] at q;exact q.elim
  |ok f st1=>
   rw[e1] at q;cases f with
   |nx loc=>exact λH1 ι1 σ1 E1 S1 L1=>q H1 ι1 .non E1 S1 .non
   |rt d=>exact q
   |ex m l=>exact λH1 ι1 σ1 E1 S1 L1=>q H1 ι1 E1 S1
noncomputable def qV(K:al):Sp:=λvs H Q _=>∃(a:Addr)(ns:List Int),vs=[.ref a]/\ez K H a (ns.map V.int)/\ya H/\ns.length<=63/\∀H',Q (.bl true) H'
theorem oX{K:al}{H:Hp}{ι:Nat->Addr}{m:Nat}:∀ns:List Int,VRels K H ι m (ns.map .int) (ns.map V.int)
 |[]=>.nil
 |n::ns=>.cons (.int n) (oX ns)
theorem Ae{K:al}{mg:Str->Option Value}{base:Heap}{a:Addr}{fd:FuncData}{f:List D->M Rs}(F:FnOk P w K mg base (nY P w) n a fd [x] (AY K 1 f))
  (h:∀ns:List Int,ns.length<=63->∃st',f [.fl (ns.map .int)] []=.ok (.v (.bl true)) st'):FnOk P w K mg base (nY P w) n a fd [x] (qV K):=by
 refine F.imp λvs H Q E hp=>?_;obtain⟨a,ns,e,hS,hO,hl,q⟩:=hp;subst e;obtain⟨st',e⟩:=h ns hl;refine⟨rfl,λ_=>0,[],[.fl (ns.map .int)],⟨λi _ hi=>absurd hi (Nat.not_lt_zero _),λi o e=>by simp at e⟩,.cons (.fl (xs:=ns.map V.int) ?_ (oX ns)) .nil,?_⟩
 ·rcases hS with(h|h)|h
  ·rcases hO a with z|⟨o,xs,z⟩
   ·rw[h] at z;cases z
   ·rw[h] at z;cases z
  ·exact .inl h
  ·exact .inr h
 ·rw[e];intro H' ι' v E' S' r;cases r;exact q H'
theorem walk{l:PySem.W.OpenLaw}{q:Program}{loose:List Str}{XP:(Str->Option Value)->Heap->Prop}{YP:World->Heap->Prop}{d:DefRec}{K:Params->al}(hn:l.most=some 63)(hdf:d.params.defaults=[])(hr:Room n callerA)
  (hY:∀(w:World)(h:Heap),YP w h->(K w.params).In h)
  (F:∀(w:World)(mg:Str->Option Value)(fa:Addr)(h:Heap),(K w.params).In h->h.Ns mainGlobals mg->mg d.name=some (.ref fa)->
   ∃fd:FuncData,(∀(s:Shared)(u:Value),BindsTo s fd ⟨[u],[]⟩ [(x,u)])/\∀base:Heap,(K w.params).In base->base.Ns mainGlobals mg->FnOk l.prog w (K w.params) mg base (nY l.prog w) n fa fd [x] (qV (K w.params))):
  PySem.W.WalkO q loose XP YP l.row.toRowW d [] (λf vs=>PySem.call f vs):=
 L2.wg (n:=63) (k:=n) (x:=x) (CX:=λw=>nY l.prog w) (sp:=λw=>qV (K w.params)) hn (by decide) hdf hr hY F (λ_ _ a ns hl hO hS=>⟨a,ns,rfl,hS,hO,hl,λ_=>rfl⟩) λ_ _ _ _ _ z=>z.elim
set_option maxHeartbeats 4000000
noncomputable def xD(o:Option (Option Value))(s:String):Bool:=match o with
 |some (some (.builtin t))=>t==s
 |_=>false
theorem rS{o:Option (Option Value)}{s:String}(h:xD o s=true):o=some (some (.builtin s)):=by
 unfold xD at h;split at h
 ·rename_i t;have:t=s:=by simpa using h
  rw[this]
 ·cases h
noncomputable def xB(o:Option (Option Value)):Bool:=match o with
 |some none=>true
 |_=>false
theorem rR{o:Option (Option Value)}(h:xB o=true):o=some none:=by
 unfold xB at h;split at h
 ·rfl
 ·cases h
noncomputable def jW(K:al)(x:Str)(f:Addr->Bool):Bool:=match PySem.W.nsIn K mainGlobals x with
 |some (some (.ref C))=>f C
 |_=>false
theorem fR{K:al}{f:Addr->Bool}(h:jW K x f=true):∃C,PySem.W.nsIn K mainGlobals x=some (some (.ref C))/\f C=true:=by
 unfold jW at h;split at h
 ·exact⟨_,by assumption,h⟩
 ·cases h
noncomputable def vi(K:al)(o:Option (Option Value)):Bool:=match o with
 |some (some v)=>PySem.W.isFn K v
 |_=>false
section
variable{K:al}{mg:Str->Option Value}{T:Tab}{bn:List Rec}{h:Heap}
noncomputable def xF(K:al)(T:Tab):Bool:=
 (T.icl.all λc=>jW K c.x λC=>PySem.W.plainGet K C Str.empty&&(PySem.W.hasDictIn K C&&(PySem.W.plainOver K C&&(xD (PySem.W.findIn K (.ref C) "__setattr__") "object.__setattr__" &&(c.flds.all (λf=>xB (PySem.W.findIn K (.ref C) f))&&
  c.mts.all (λp=>vi K (PySem.W.findIn K (.ref C) p.1)))))))&&
 ((T.mks.all λp=>jW K p.1 λC=>PySem.W.makesIn K C&&(PySem.W.keepIn K (.ref C)&&vi K (PySem.W.findIn K (.ref C) "__init__")))&&
 (T.ums.all λp=>jW K p.1 λC=>xD (PySem.W.specialIn K (.ref C) "__getattribute__") "type.__getattribute__" &&PySem.W.readsIn K C (.type "type")))
noncomputable def Db(K:al)(bn:List Rec)(x m:Str)(j:Nat):Prop:=∃C r a fd,bn[j]? =some r/\Lnk K r a fd/\PySem.W.nsIn K mainGlobals x=some (some (.ref C))/\PySem.W.findIn K (.ref C) m=some (some (.ref a))
noncomputable def Es(K:al)(mg:Str->Option Value)(bn:List Rec)(x:Str)(j:Nat):Prop:=(x==("__debug__":Str))=false/\∃C r a fd,bn[j]? =some r/\Lnk K r a fd/\PySem.W.nsIn K mainGlobals x=some (some (.ref C))/\mg x=some (.ref C)/\PySem.W.findIn K (.ref C) "__init__"=some (some (.ref a))
noncomputable def Ep(K:al)(mg:Str->Option Value)(bn:List Rec)(x m:Str)(j:Nat):Prop:=(x==("__debug__":Str))=false/\∃C r a fd,bn[j]? =some r/\Lnk K r a fd/\PySem.W.nsIn K mainGlobals x=some (some (.ref C))/\mg x=some (.ref C)/\PySem.W.findCls K (.ref C) (.type "type") m=some (.val (.ref a))
theorem oW{v:Value}{o:Option (Option Value)}(h:vi K o=true)(e:o=some (some v)):PySem.W.isFn K v=true:=by rw[e] at h;exact h
theorem vO(X:K.In h)(G:h.Ns mainGlobals mg)(hc:∀r∈bn,Chk T r)(hq:T.calm=true)(hlen:T.fns.length<=bn.length)
  (hf:∀p∈List.zip T.fns bn,(p.1==("__debug__":Str))=false/\∃a fd,Lnk K p.2 a fd/\mg p.1=some (.ref a))
  (hcs:∀x d,T.csts.lookup x=some d->(x==("__debug__":Str))=false/\∃u v,mg x=some u/\RelV v u/\∀H ι m,VRel K H ι m d v)
  (hb:∀x∈tf,mg x=none)
  (hI:xF K T=true)(hm:∀c∈T.icl,∀p∈c.mts,Db K bn c.x p.1 p.2)(hk:∀p∈T.mks,Es K mg bn p.1 p.2)(hu:∀p∈T.ums,Ep K mg bn p.1 p.2.1 p.2.2)
  (hg:∀x ks,T.gds.lookup x=some ks->(x==("__debug__":Str))=false/\∃a,mg x=some (.ref a)/\mm P w K a ks):Facts P w K mg T bn:=by
 unfold xF at hI;simp only[Bool.and_eq_true] at hI;obtain⟨i2,i3,i4⟩:=hI;refine⟨hc,hq,?_,hcs,hb,?_,?_,?_,hg⟩
 ·intro i f e;have hl:i<bn.length:=ao (aL e).1 hlen;have er:bn[i]? =some bn[i]:=bq hl;have:(f,bn[i])∈List.zip T.fns bn:=aH (i:=i) (by rw[List.getElem?_zip_eq_some];exact⟨e,er⟩)
  obtain⟨d,a,fd,L,m⟩:=hf _ this;exact⟨d,_,a,fd,er,L,m⟩
 ·intro c hc';obtain⟨C,e,q⟩:=fR (List.all_eq_true.mp i2 c hc');simp only[Bool.and_eq_true] at q;obtain⟨q1,q2,q3,q4,q5,q6⟩:=q;refine⟨C,e,⟨q1,q2,q3,rS q4⟩,λf hf=>rR (List.all_eq_true.mp q5 f hf),λm j hmj=>?_⟩
  ·obtain⟨C',r,a,fd,hr,L,e',hf⟩:=hm c hc' (m,j) hmj;rw[e] at e';cases e';exact⟨r,a,fd,hr,L,⟨hf,oW (List.all_eq_true.mp q6 (m,j) hmj) hf,L.f.kp⟩⟩
 ·intro x j hx;obtain⟨hd,C,r,a,fd,hr,L,e,m,hf⟩:=hk (x,j) hx;obtain⟨C',e',q⟩:=fR (List.all_eq_true.mp i3 (x,j) hx);rw[e] at e';cases e';simp only[Bool.and_eq_true] at q;exact⟨hd,C,r,a,fd,hr,L,e,m,⟨q.1,hf,oW q.2.2 hf,q.2.1⟩⟩
 ·intro x m j hx;obtain⟨hd,C,r,a,fd,hr,L,e,mgx,hf⟩:=hu (x,m,j) hx;obtain⟨C',e',q⟩:=fR (List.all_eq_true.mp i4 (x,m,j) hx);rw[e] at e';cases e';simp only[Bool.and_eq_true] at q;exact⟨hd,C,r,a,fd,hr,L,mgx,⟨rS q.1,q.2,hf,rfl,L.f.kp⟩⟩
end
noncomputable def AZ(r:Rec):Option Obj->Option Obj
 |some ⟨oc,od,.func f,sl⟩=>some ⟨oc,od,.func (PySem.W.fnOf r.fname r.qual (fA r.st) (d6 r.st) (bT r.st) .none f.kwdefaults f.doc f.pyModule f.annotations f.code f.closureTuple),sl⟩
 |_=>none
noncomputable def Ec(K:al)(r:Rec)(a:Addr):Bool:=match K.lookup a with
 |some ⟨_,_,.func f,_⟩=>PySem.W.codeIn K f.code r.qual&&PySem.W.keepIn K (.ref a)
 |_=>false
noncomputable def A5(r:Rec):Prop:=∀(kV doc pm:Value)(an:Option Addr)(cdv ct:Value)(us:List Value),us.length=r.ps.length->bindArgs (PySem.W.fnOf r.fname r.qual (fA r.st) (d6 r.st) (bT r.st) .none kV doc pm an cdv ct) ⟨us,[]⟩=pure (r.ps.zip us)
theorem Ad{K:al}{r:Rec}{a:Addr}(hb:A5 r)(h:Ec K r a=true)(e:K.lookup a=AZ r (K.lookup a)):∃fd,Lnk K r a fd:=by
 unfold Ec at h;cases q:K.lookup a with
 |none=>rw[q] at h;cases h
 |some o=>
  obtain⟨oc,od,dt,sl⟩:=o;cases dt with
  |func f=>rw[q] at h e;rw[Bool.and_eq_true] at h;have F:=Au (x:=r.fname) (qual:=r.qual) (st:=r.st) (q.trans e) h.1 h.2;exact⟨_,F,F.binds hb⟩
  |_=>rw[q] at h;cases h
noncomputable def Ck(o:Option (Option Value))(a:Option Addr):Bool:=match o,a with
 |some (some (.ref x)),some y=>x==y
 |_,_=>false
theorem qi{o:Option (Option Value)}{a:Option Addr}(h:Ck o a=true):∃x,a=some x/\o=some (some (.ref x)):=by
 unfold Ck at h;split at h
 ·rename_i x y;have:x=y:=by simpa using h
  subst this;exact⟨_,rfl,rfl⟩
 ·cases h
noncomputable def D7(o:Option PySem.W.CFound)(a:Option Addr):Bool:=match o,a with
 |some (.val (.ref x)),some y=>x==y
 |_,_=>false
theorem An{o:Option PySem.W.CFound}{a:Option Addr}(h:D7 o a=true):∃x,a=some x/\o=some (.val (.ref x)):=by
 unfold D7 at h;split at h
 ·rename_i x y;have:x=y:=by simpa using h
  subst this;exact⟨_,rfl,rfl⟩
 ·cases h
noncomputable def yJ(x:Str):Bool:=(x==("__debug__":Str))==false
mutual
noncomputable def kD(K:al):D->Value->Bool
 | .str s,.str z _=>z==s
 | .bl b,.bool c=>b==c
 | .tup ds,.ref q=>(match K.lookup q with
  |some ⟨.type t,_,.seq its _,_⟩=>t== "tuple" &&(decide (ds.length<=1000)&&Ak K ds its.toList)
  |_=>false)
 |_,_=>false
noncomputable def Ak(K:al):List D->List Value->Bool
 |[],[]=>true
 |d::ds,u::us=>kD K d u&&Ak K ds us
 |_,_=>false
end
mutual
theorem vd{K:al}:∀(d:D)(u:Value),kD K d u=true->∃v,RelV v u/\∀H ι m,VRel K H ι m d v
 | .str s,.str z t,h=>by
  have:z=s:=by simpa[kD] using h
  subst this;exact⟨.str z,⟨t,rfl⟩,λ_ _ _=>.str _⟩
 | .bl b,.bool c,h=>by
  have:b=c:=by simpa[kD] using h
  subst this;exact⟨.bl b,rfl,λ_ _ _=>.bl _⟩
 | .tup ds,.ref q,h=>by
  unfold kD at h;split at h
  ·rename_i t dd its n sl e2;simp only[Bool.and_eq_true,decide_eq_true_eq] at h;have h1:t= "tuple":=by simpa using h.1
   subst h1;obtain⟨vs,r1,r2⟩:=vc ds its.toList h.2.2;have sz:sizeLine=16777216:=sizeLine_eq
   have hl:vs.length<=1000:=by have:=(r2 (λ_=>none) (λ_=>0) 0).length;omega
   have hl2:its.size<=1000:=by have:=r1.length;simp at this;omega
   exact⟨.ref q,rfl,λH ι m=>.tup (xs:=vs) (.inr ⟨_,_,_,e2,rfl,rfl,(by omega),r1⟩) (r2 H ι m)⟩
  ·cases h
 | .non,_,h=>by cases h
 | .int _,_,h=>by cases h
 | .fl _,_,h=>by cases h
 | .ref _,_,h=>by cases h
theorem vc{K:al}:∀(ds:List D)(us:List Value),Ak K ds us=true->∃vs,bm vs us/\∀H ι m,VRels K H ι m ds vs
 |[],[],_=>⟨[],.nil,λ_ _ _=>.nil⟩
 |d::ds,u::us,h=>by simp only[Ak,Bool.and_eq_true] at h;obtain⟨v,r1,r2⟩:=vd d u h.1;obtain⟨vs,r3,r4⟩:=vc ds us h.2;exact⟨v::vs,.cons r1 r3,λH ι m=>.cons (r2 H ι m) (r4 H ι m)⟩
 |[],_::_,h=>by cases h
 |_::_,[],h=>by cases h
end
noncomputable def AK(K:al)(x:Str)(d:D):Bool:=match PySem.W.nsIn K mainGlobals x with
 |some (some u)=>kD K d u
 |_=>false
theorem xY{K:al}{d:D}(h:AK K x d=true):∃u v,PySem.W.nsIn K mainGlobals x=some (some u)/\RelV v u/\∀H ι m,VRel K H ι m d v:=by
 unfold AK at h;split at h
 ·rename_i u e;obtain⟨v,r1,r2⟩:=vd d u h;exact⟨u,v,e,r1,r2⟩
 ·cases h
theorem Cp{K:al}:∀(kvs:List (Str×D))(L:List (Str×Nat×Value)),kvs.map (·.1)=L.map (·.1)->Ak K (kvs.map (·.2)) (L.map (·.2.2))=true->∀k d,kvs.lookup k=some d->∃u v,valueAt (L.map λp=>((Sum.inr p.1:Key),p.2.2)) (Sum.inr k:Key)=some u/\RelV v u/\∀H ι m,VRel K H ι m d v
 |[],_,_,_,_,_,h=>by cases h
 |(a,b)::r,[],h1,_,_,_,_=>by cases h1
 |(a,b)::r,(a',t,u)::L,h1,h2,k,d,h=>by
  injection h1 with h1 h3;have h1:a=a':=h1;subst h1;simp only[List.map_cons,Ak,Bool.and_eq_true] at h2;simp only[List.lookup_cons] at h;cases q:k==a with
  |true=>
   rw[q] at h;cases h;have:k=a:=by simpa using q
   subst this;obtain⟨v,r1,r2⟩:=vd _ u h2.1;exact⟨u,v,by simp[valueAt],r1,r2⟩
  |false=>
   rw[q] at h;obtain⟨u',v,r0,r1,r2⟩:=Cp r L h3 h2.2 k d h;refine⟨u',v,?_,r1,r2⟩;have hne:a≠k:=λz=>by simp[z] at q
   unfold valueAt at r0 ⊢;rw[List.map_cons,List.find?_cons];simp only[show decide ((Sum.inr a:Key)=Sum.inr k)=false by simp[hne]]
   exact r0
theorem nL{Pr:Program}{K:al}{a:Addr}{kvs:List (Str×D)}(L:List (Str×Nat×Value))(ha:(a==sysModules)=false)(hk:kvs.map (·.1)=L.map (·.1))(hl:K.lookup a=some ⟨.type "dict",none,.dict ⟨L.map λp=>⟨PyData.keyHash w.params p.1,.str p.1 p.2.1,p.2.2⟩⟩ n,⟨[]⟩⟩)(hn:(L.map (·.1)).Nodup)(hv:Ak K (kvs.map (·.2)) (L.map (·.2.2))=true):mm Pr w K a kvs:=by
 have e1:(L.map λp=>((Sum.inr p.1:Key),p.2.2)).map (·.1)=(L.map (·.1)).map Sum.inr:=by rw[List.map_map,List.map_map];rfl
 refine⟨ha,_,hl,λh hh=>⟨L.map λp=>(.inr p.1,p.2.2),⟨_,_,n,hh,⟨rfl,rfl,rfl⟩,rfl,?_,?_,?_⟩,by rw[e1,hk],Cp kvs L hk hv⟩⟩
 ·intro e he;obtain⟨p,_,rfl⟩:=List.mem_map.mp (Array.mem_def.mp he);exact⟨.inr p.1,jD p.1 p.2.1,rfl⟩
 ·show PySem.Pairs _ (L.map _) (L.map _);clear hh e1 hk hl hn hv
  induction L with
  |nil=>exact .nil
  |cons p l ih=>exact .cons (jD p.1 p.2.1) rfl ih
 ·rw[e1];exact hn.map _ λa b h e=>h (Sum.inr.inj e)
noncomputable def mD(K:al)(T:Tab)(bn:List Rec)(ad:List Addr):Bool:=
 bn.length==ad.length&&((bn.zip ad).all (λp=>Ec K p.1 p.2)&&((T.fns.zip (bn.zip ad)).all (λp=>yJ p.1&&Ck (PySem.W.nsIn K mainGlobals p.1) (some p.2.2))&&
 (T.csts.all (λp=>yJ p.1&&AK K p.1 p.2)&&(tf.all (λx=>xB (PySem.W.nsIn K mainGlobals x))&&(T.icl.all (λc=>jW K c.x λC=>c.mts.all λp=>Ck (PySem.W.findIn K (.ref C) p.1) ad[p.2]?)&&(T.mks.all (λp=>yJ p.1&&jW K p.1 λC=>Ck (PySem.W.findIn K (.ref C) "__init__") ad[p.2]?)&&
 T.ums.all (λp=>yJ p.1&&jW K p.1 λC=>D7 (PySem.W.findCls K (.ref C) (.type "type") p.2.1) ad[p.2.2]?)))))))
section
variable{K:al}{mg:Str->Option Value}{T:Tab}{bn:List Rec}{h:Heap}{ad:List Addr}
theorem yD(hb:∀r∈bn,A5 r)(hl:mD K T bn ad=true)(e:(bn.zip ad).map (λp=>K.lookup p.2)=(bn.zip ad).map λp=>AZ p.1 (K.lookup p.2)){a:Addr}(ha:ad[j]? =some a):∃r fd,bn[j]? =some r/\Lnk K r a fd:=by
 unfold mD at hl;simp only[Bool.and_eq_true] at hl;obtain⟨h0,h1,_⟩:=hl;have h0:bn.length=ad.length:=by simpa using h0
 have hj:j<bn.length:=by rw[h0];exact(aL ha).1
 have hr:bn[j]? =some bn[j]:=bq hj;have hz:(bn.zip ad)[j]? =some (bn[j],a):=by rw[List.getElem?_zip_eq_some];exact⟨hr,ha⟩
 have hm:=aH hz
 have e2:K.lookup a=AZ bn[j] (K.lookup a):=by have q:=congrArg (·[j]?) e;simpa[List.getElem?_map,hz] using q
 obtain⟨fd,L⟩:=Ad (hb _ (aH hr)) (List.all_eq_true.mp h1 _ hm) e2;exact⟨_,fd,hr,L⟩
theorem lK(h:yJ x=true):(x==("__debug__":Str))=false:=by unfold yJ at h;simpa using h
theorem sT(X:K.In h)(G:h.Ns mainGlobals mg)(hc:∀r∈bn,Chk T r)(hq:T.calm=true)(hbd:∀r∈bn,A5 r)(hl:mD K T bn ad=true)(e:(bn.zip ad).map (λp=>K.lookup p.2)=(bn.zip ad).map λp=>AZ p.1 (K.lookup p.2))
  (hlen:T.fns.length<=bn.length)(hI:xF K T=true)
  (hg:∀p∈T.gds,yJ p.1=true/\∃a,PySem.W.nsIn K mainGlobals p.1=some (some (.ref a))/\mm P w K a p.2):Facts P w K mg T bn:=by
 have LK:=λ{j:Nat}{a:Addr}(ha:ad[j]? =some a)=>yD hbd hl e ha;unfold mD at hl;simp only[Bool.and_eq_true] at hl;obtain⟨h0,h1,h2,h3,h4,h6,h7,h8⟩:=hl;refine vO X G hc hq hlen (λp hp=>?_) (λx d hx=>?_) (λx hx=>PySem.W.mg_none_of X G (rR (List.all_eq_true.mp h4 x hx))) hI (λc hc p hp=>?_) (λp hp=>?_) (λp hp=>?_) (λx ks hx=>?_)
 ·obtain⟨i,hi⟩:=List.getElem?_of_mem hp;rw[List.getElem?_zip_eq_some] at hi;have h0:bn.length=ad.length:=by simpa using h0
  have hj:i<ad.length:=by rw[<-h0];exact(aL hi.2).1
  have ha:ad[i]? =some ad[i]:=bq hj;obtain⟨r,fd,hr,L⟩:=LK ha;rw[hi.2] at hr;cases hr;have hz:(T.fns.zip (bn.zip ad))[i]? =some (p.1,p.2,ad[i]):=by rw[List.getElem?_zip_eq_some];exact⟨hi.1,by rw[List.getElem?_zip_eq_some];exact⟨hi.2,ha⟩⟩
  have q:=List.all_eq_true.mp h2 _ (aH hz);simp only[Bool.and_eq_true] at q;obtain⟨x,ex,eo⟩:=qi q.2;cases ex;exact⟨lK q.1,_,fd,L,PySem.W.mg_of X G eo⟩
 ·have q:=List.all_eq_true.mp h3 (x,d) (az hx);simp only[Bool.and_eq_true] at q;obtain⟨u,v,eq,r1,r⟩:=xY q.2;exact⟨lK q.1,u,v,PySem.W.mg_of X G eq,r1,r⟩
 ·obtain⟨C,eC,qq⟩:=fR (List.all_eq_true.mp h6 c hc);obtain⟨a,ea,ef⟩:=qi (List.all_eq_true.mp qq p hp);obtain⟨r,fd,hr,L⟩:=LK ea;exact⟨C,r,a,fd,hr,L,eC,ef⟩
 ·have q:=List.all_eq_true.mp h7 p hp;simp only[Bool.and_eq_true] at q;obtain⟨C,eC,qq⟩:=fR q.2;obtain⟨a,ea,ef⟩:=qi qq;obtain⟨r,fd,hr,L⟩:=LK ea;exact⟨lK q.1,C,r,a,fd,hr,L,eC,PySem.W.mg_of X G eC,ef⟩
 ·have q:=List.all_eq_true.mp h8 p hp;simp only[Bool.and_eq_true] at q;obtain⟨C,eC,qq⟩:=fR q.2;obtain⟨a,ea,ef⟩:=An qq;obtain⟨r,fd,hr,L⟩:=LK ea;exact⟨lK q.1,C,r,a,fd,hr,L,eC,PySem.W.mg_of X G eC,ef⟩
 ·obtain⟨q1,a,q2,q3⟩:=hg (x,ks) (az hx);exact⟨lK q1,a,PySem.W.mg_of X G q2,q3⟩
theorem xx{l:PySem.W.OpenLaw}{fa:Addr}{li:Nat}{a:Addr}{r:Rec}(X:K.In h)(G:h.Ns mainGlobals mg)(hfa:mg "law"=some (.ref fa))(hbd:∀r∈bn,A5 r)(hl:mD K T bn ad=true)(e:(bn.zip ad).map (λp=>K.lookup p.2)=(bn.zip ad).map λp=>AZ p.1 (K.lookup p.2))
  (Z:Facts l.prog w K mg T bn)(ha:ad[li]? =some a)(hr:bn[li]? =some r)(hn:PySem.W.nsIn K mainGlobals "law"=some (some (.ref a))) (hp:r.ps=[x])(hs:∀ns:List Int,ns.length<=63->∃st',calls (bn.map (·.fn)) n li [.fl (ns.map .int)] []=.ok (.v (.bl true)) st'):
  ∃fd:FuncData,(∀(s:Shared)(v:Value),BindsTo s fd ⟨[v],[]⟩ [(x,v)])/\∀base:Heap,K.In base->base.Ns mainGlobals mg->FnOk l.prog w K mg base (nY l.prog w) (2*n) fa fd [x] (qV K):=by
 have q:=hfa.symm.trans (PySem.W.mg_of X G hn);cases q;obtain⟨r',fd,hr',L⟩:=yD hbd hl e ha;rw[hr] at hr';cases hr';obtain⟨oc,od,kV,doc,pm,an,cdv,ct,osl,rfl,lk,hcd⟩:=L.f.ex;have hb:=hbd _ (aH hr);refine⟨PySem.W.fnOf r.fname r.qual (fA r.st) (d6 r.st) (bT r.st) .none kV doc pm an cdv ct,λs v=>.of_eq ?_,λbase _ _=>?_⟩
 ·have:=hb kV doc pm an cdv ct [v] (by rw[hp];rfl)
  rw[hp] at this;exact this
 ·have F:=jm (P:=l.prog) (w:=w) (base:=base) Z n li r _ _ hr L;rw[hp] at F;exact Ae F hs
end
set_option genInjectivity true
open PySem L2
noncomputable def W{α:Type}(r:R α)(Q:α->aK->Prop):Prop:=match r with
 | .ok a st=>Q a st
 | .bad=>False
theorem W.mono{r:R α}{Q Q':α->aK->Prop}(h:W r Q)(k:∀a st,Q a st->Q' a st):W r Q':=by
 cases r with
 |ok a st=>exact k _ _ h
 |bad=>exact h
theorem W.get{r:R α}{Q:α->aK->Prop}(h:W r Q):∃a st,r=.ok a st/\Q a st:=by
 cases r with
 |ok a st=>exact⟨a,st,rfl,h⟩
 |bad=>exact h.elim
noncomputable def Vq(Q:D->aK->Prop):Rs->aK->Prop:=λr st=>match r with
 | .v d=>Q d st
 | .x _=>False
noncomputable abbrev Wv(r:R Rs)(Q:D->aK->Prop):Prop:=W r (Vq Q)
theorem Wv.mono{r:R Rs}{Q Q':D->aK->Prop}(h:Wv r Q)(k:∀a st,Q a st->Q' a st):Wv r Q':=W.mono h λa st q=>by
 cases a with
 |v d=>exact k _ _ q
 |x n=>exact q
theorem aF{m:M α}{f:α->M β}{st:aK}{Q:β->aK->Prop}(h:W (m st) λa st1=>W (f a st1) Q):W (aZ m f st) Q:=by
 unfold aZ;cases e:m st with
 |ok a st1=>rw[e] at h;exact h
 |bad=>rw[e] at h;exact h
section
variable{g:eB}{loc:Loc}{st:aK}{Q:D->aK->Prop}{a b c:Ex}
theorem aO{d:D}(h:Q d st):W (run g (.c d) loc st) Q:=by rw[run];exact h
theorem av{d:D}(e:loc[i]? =some (some d))(h:Q d st):W (run g (.v i) loc st) Q:=by rw[run];unfold dL;rw[e];exact h
theorem ba{es:List Ex}(h:W (runs g es loc st) λds st1=>Q (.tup ds) st1):W (run g (.tup es) loc st) Q:=by rw[run];exact aF (h.mono λ_ _ q=>q)
theorem gp{es:List Ex}(h:W (runs g es loc st) λds st1=>Q (.ref st1.length) (st1++[.lst ds])):W (run g (.lst es) loc st) Q:=by rw[run];exact aF (h.mono λ_ _ q=>q)
theorem bR{op:Bo}(h:W (run g a loc st) λx st1=>W (run g b loc st1) λy st2=>W (cz op x y st2) Q):W (run g (.bin op a b) loc st) Q:=by rw[run];exact aF (h.mono λ_ _ q=>aF q)
theorem iR(h:W (run g a loc st) λx st1=>∃i,x=.int i/\Q (.int (-i)) st1):W (run g (.neg a) loc st) Q:=by
 rw[run];exact aF (h.mono λ_ _ ⟨i,e,q⟩=>by subst e;exact q)
theorem w_not(h:W (run g a loc st) λx st1=>∃k,x=.bl k/\Q (.bl (!k)) st1):W (run g (.not a) loc st) Q:=by
 rw[run];exact aF (h.mono λ_ _ ⟨i,e,q⟩=>by subst e;exact q)
theorem w_and(h:W (run g a loc st) λx st1=>∃k,x=.bl k/\(k=true->W (run g b loc st1) Q)/\(k=false->Q (.bl false) st1)):W (run g (.and a b) loc st) Q:=by
 rw[run];exact aF (h.mono λ_ _ hp=>by
  obtain⟨k,e,q1,q2⟩:=hp;subst e;cases k with
  |true=>exact q1 rfl
  |false=>exact q2 rfl)
theorem w_or(h:W (run g a loc st) λx st1=>∃k,x=.bl k/\(k=true->Q (.bl true) st1)/\(k=false->W (run g b loc st1) Q)):W (run g (.or a b) loc st) Q:=by
 rw[run];exact aF (h.mono λ_ _ hp=>by
  obtain⟨k,e,q1,q2⟩:=hp;subst e;cases k with
  |true=>exact q1 rfl
  |false=>exact q2 rfl)
theorem bf{op:CmpOp}(h:W (run g a loc st) λx st1=>W (run g b loc st1) λy st2=>W (cx op x y st2) Q):W (run g (.cmp op a b) loc st) Q:=by rw[run];exact aF (h.mono λ_ _ q=>aF q)
theorem qN{op:CmpOp}(h:W (run g a loc st) λx st1=>W (run g b loc st1) λy st2=>W (cx op x y st2) λz st3=>∃k,z=.bl k/\
  (k=true->W (run g c loc st3) λw st4=>W (cx op' y w st4) Q)/\(k=false->Q (.bl false) st3)):W (run g (.chain op op' a b c) loc st) Q:=by
 rw[run]
 exact aF (h.mono λ_ _ q=>aF (q.mono λ_ _ q=>aF (q.mono λ_ _ hp=>by
  obtain⟨k,e,q1,q2⟩:=hp;subst e;cases k with
  |true=>exact aF (show W ((aZ (run g c loc) λw=>cx op' _ w) _) Q from aF (q1 rfl))
  |false=>exact q2 rfl)))
theorem aW(h:W (run g a loc st) λx st1=>W (run g b loc st1) λy st2=>W (index x y st2) Q):W (run g (.ix a b) loc st) Q:=by rw[run];exact aF (h.mono λ_ _ q=>aF q)
theorem bW{f:Nat}{args:List Ex}(h:W (runs g args loc st) λds st1=>Wv (g f ds st1) Q):W (run g (.fn f args) loc st) Q:=by
 rw[run];refine aF (h.mono λds st1 q=>aF (W.mono q λr st2 q=>?_));cases r with
 |v d=>exact q
 |x n=>exact q.elim
theorem aN{ics:List Str}(h:W (run g a loc st) λx st1=>∃n c fs d,x=.ref n/\st1[n]? =some (.ins c fs)/\fs.lookup f=some d/\c∈ics/\Q d st1):W (run g (.fld a f cs ics) loc st) Q:=by
 rw[run];exact aF (h.mono λx st1 ⟨n,c,fs,d,e,e1,e3,hc,q⟩=>by subst e;simp only[lA,e1,e3];rw[if_pos hc];exact q)
theorem mo{f:Nat}{args:List Ex}(h:W (runs g args loc st) λds st1=>Wv (g f (.ref st1.length::ds) (st1++[.ins x []])) λd st2=>d=.non/\Q (.ref st1.length) st2):W (run g (.new x f args) loc st) Q:=by
 rw[run];refine aF (h.mono λds st1 q=>?_);unfold mC;refine aF (W.mono q λr st2 q=>?_);cases r with
 |v d=>obtain⟨rfl,q⟩:=q;exact q
 |x n=>exact q.elim
theorem a9{m:Str}{ms:List (Str×Nat)}{args:List Ex}(h:W (run g a loc st) λx st1=>∃n c fs j,x=.ref n/\st1[n]? =some (.ins c fs)/\fs.lookup m=none/\ms.lookup c=some j/\W (runs g args loc st1) λds st2=>Wv (g j (.ref n::ds) st2) Q):W (run g (.meth a m ms args) loc st) Q:=by
 rw[run];refine aF (h.mono λx st1 ⟨n,c,fs,j,e,e1,e2,e3,q⟩=>aF ?_);subst e;simp only[iY,e1,e2,e3];refine aF (q.mono λds st2 q=>aF (W.mono q λr st3 q=>?_));cases r with
 |v d=>exact q
 |x n=>exact q.elim
theorem dN{f:Bt}{args:List Ex}(h:W (runs g args loc st) λds st1=>W (jL f ds st1) Q):W (run g (.bt f args) loc st) Q:=by rw[run];exact aF h
theorem tH{t:Ty}(h:W (run g a loc st) λx st1=>∃k,i0 st1 t x=some k/\Q (.bl k) st1):W (run g (.isi a t) loc st) Q:=by
 rw[run];exact aF (h.mono λ_ _ ⟨k,e,q⟩=>by show W (match i0 _ t _ with|some k=>R.ok (.bl k) _|none=>.bad) Q;rw[e];exact q)
theorem yg(h:W (run g c loc st) λx st1=>∃k,x=.bl k/\(k=true->W (run g a loc st1) Q)/\(k=false->W (run g b loc st1) Q)):W (run g (.ite c a b) loc st) Q:=by
 rw[run];exact aF (h.mono λ_ _ hp=>by
  obtain⟨k,e,q1,q2⟩:=hp;subst e;cases k with
  |true=>exact q1 rfl
  |false=>exact q2 rfl)
theorem eV(h:W (run g a loc st) λx st1=>∃n xs y,x=.ref n/\st1[n]? =some (.lst xs)/\xs[xs.length - 1]? =some y/\Q y (st1.set n (.lst xs.dropLast))):W (run g (.pop a false) loc st) Q:=by
 rw[run];exact aF (h.mono λx st1 ⟨n,xs,y,e,e1,e2,q⟩=>by subst e;simp only[oM,e1,e2];exact q)
theorem pJ{rng:Bool}(h:W (run g a loc st) λd st1=>∃s,c6 rng d=some s/\W (bX (λx=>aZ (run g b (some x::loc)) λy=>ret (some y)) s st1) Q):W (run g (.comp rng a b) loc st) Q:=by
 rw[run];exact aF (h.mono λ_ _ ⟨s,e,q⟩=>aF (by unfold dL;rw[e];exact q))
end
section
variable{g:eB}{loc:Loc}{st:aK}{Q:List D->aK->Prop}
theorem ah(h:Q [] st):W (runs g [] loc st) Q:=by rw[runs];exact h
theorem ab{e:Ex}{es:List Ex}(h:W (run g e loc st) λd st1=>W (runs g es loc st1) λds st2=>Q (d::ds) st2):W (runs g (e::es) loc st) Q:=by rw[runs];exact aF (h.mono λ_ _ q=>aF (q.mono λ_ _ q=>q))
end
section
variable{st:aK}{Q:D->aK->Prop}{f:D->M (Option D)}
theorem m6{xs:List D}{Q:List D->aK->Prop}(I:Nat->List D->aK->Prop)(step:∀i x acc st,xs[i]? =some x->I i acc st->W (f x st) λo st1=>I (i+1) (match o with|some y=>acc++[y]|none=>acc) st1)
  (fin:∀acc st,I xs.length acc st->Q acc st):∀k i acc st,i<=xs.length->xs.length<k+i->I i acc st->W (di f (.its xs) k i acc st) Q
 |0,i,acc,st,h1,h2,h=>by omega
 |k+1,i,acc,st,h1,h2,h=>by
  simp only[di,fc];cases e:xs[i]? with
  |none=>
   have:i=xs.length:=by have:=List.getElem?_eq_none_iff.mp e;omega
   subst this;exact fin acc st h
  |some x=>
   have hi:=(aL e).1;refine aF ((step i x acc st e h).mono λo st1 q=>?_);cases o with
   |none=>exact m6 I step fin k (i+1) acc st1 hi (by omega) q
   |some y=>exact m6 I step fin k (i+1) (acc++[y]) st1 hi (by omega) q
theorem iS{xs:List D}(hl:xs.length<=1000000)(I:Nat->List D->aK->Prop)(h0:I 0 [] st)(step:∀i x acc st,xs[i]? =some x->I i acc st->W (f x st) λo st1=>I (i+1) (match o with|some y=>acc++[y]|none=>acc) st1)
  (fin:∀acc st,I xs.length acc st->Q (.ref st.length) (st++[.lst acc])):W (bX f (.its xs) st) Q:=by
 unfold bX;rw[if_pos (show d8 (.its xs) st<=1000000 from hl)];refine aF (W.mono (m6 (Q:=λacc st=>Q (.ref st.length) (st++[.lst acc])) I step fin (xs.length+1) 0 [] st (by omega) (by show xs.length<xs.length+1+0;omega) h0) λacc st q=>(show Q (.ref st.length) (st++[.lst acc]) from q))
theorem mr{g:eB}{loc:Loc}{b:Ex}{x:D}{Q:Option D->aK->Prop}(h:W (run g b (some x::loc) st) λy st1=>Q (some y) st1):W (aZ (run g b (some x::loc)) (λy=>ret (some y)) st) Q:=aF (h.mono λ_ _ q=>q)
end
noncomputable def Kn(g:eB)(ss:List S)(Q:Fl->aK->Prop):Fl->aK->Prop:=λr st=>match r with
 | .nx loc=>W (execs g ss loc st) Q
 | .rt d=>Q (.rt d) st
 | .ex n l=>Q (.ex n l) st
noncomputable def Kr(Q:D->aK->Prop):Fl->aK->Prop:=λr st=>match r with
 | .nx _=>Q .non st
 | .rt d=>Q d st
 | .ex _ _=>False
section
variable{g:eB}{loc:Loc}{st:aK}{Q:Fl->aK->Prop}{ss:List S}{e o i c:Ex}
theorem bi(h:W (execs g ss loc st) Q):Kn g ss Q (.nx loc) st:=h
theorem fi{d:D}(h:Q (.rt d) st):Kn g ss Q (.rt d) st:=h
theorem bg{Q:D->aK->Prop}(h:Q .non st):Kr Q (.nx loc) st:=h
theorem cA{Q:D->aK->Prop}{d:D}(h:Q d st):Kr Q (.rt d) st:=h
theorem am(h:Q (.nx loc) st):W (execs g [] loc st) Q:=by rw[execs];exact h
theorem bH{s:S}(h:W (exec g s loc st) (Kn g ss Q)):W (execs g (s::ss) loc st) Q:=by
 rw[execs];refine aF (h.mono λr st1 q=>?_);cases r with
 |nx loc'=>exact q
 |rt d=>exact q
 |ex n l=>exact q
theorem gL{ics:List Str}(h:W (run g e loc st) λd st1=>W (run g o loc st1) λx st2=>W (fg cs ics x f d st2) λ_ st3=>W (execs g ss loc st3) Q):W (execs g (.setf o f e cs ics::ss) loc st) Q:=
 bH (by rw[exec];exact aF (h.mono λ_ _ q=>aF (q.mono λ_ _ q=>aF (q.mono λ_ _ q=>q))))
theorem tL{ics:List Str}(h:W (run g o loc st) λx st1=>∃n c fs i,x=.ref n/\st1[n]? =some (.ins c fs)/\fs.lookup f=some (.int i)/\c∈ics/\W (run g e loc st1) λz st2=>∃j fs2,z=.int j/\st2[n]? =some (.ins c fs2)/\fs2.length<900/\W (execs g ss loc (st2.set n (.ins c (putD f (.int (i+j)) fs2)))) Q):W (execs g (.augf o f e ics::ss) loc st) Q:=
 bH (by
  rw[exec];refine aF (h.mono λx st1 ⟨n,c,fs,i,e0,e1,e2,hc,q⟩=>aF ?_);subst e0;simp only[lA,e1,e2];rw[if_pos hc];refine aF ?_;simp only[sZ,e1];refine aF (q.mono λz st2 ⟨j,fs2,e3,e4,hl,q⟩=>aF ?_);subst e3;simp only[qE];refine aF ?_;simp only[sZ,e4];show W ((if c=c then aZ (fg [] ics (D.ref n) f (D.int (i+j))) λx=>ret (Fl.nx loc) else stuck) st2) (Kn g ss Q)
  rw[if_pos rfl];refine aF ?_;simp only[fg,e4];rw[if_pos ⟨hl,hc⟩];exact q)
theorem qJ{body:List S}(h:W (run g e loc st) λd st1=>∃s,lE d=some s/\W (eG (λx loc'=>aZ (items? is.length x) λds=>execs g body (cV is ds loc')) s loc st1) (Kn g ss Q)):W (execs g (.forE is e body::ss) loc st) Q:=
 bH (by rw[exec];exact aF (h.mono λ_ _ ⟨s,e,q⟩=>aF (by unfold dL;rw[e];exact q)))
theorem bB(h:W (run g e loc st) λd st1=>W (execs g ss (loc.set n (some d)) st1) Q):W (execs g (.set n e::ss) loc st) Q:=
 bH (by rw[exec];exact aF (h.mono λ_ _ q=>q))
theorem qH(h:W (run g e loc st) λd st1=>W (run g o loc st1) λx st2=>W (run g i loc st2) λk st3=>W (dS x k d st3) λ_ st4=>W (execs g ss loc st4) Q):W (execs g (.setix o i e::ss) loc st) Q:=
 bH (by rw[exec];exact aF (h.mono λ_ _ q=>aF (q.mono λ_ _ q=>aF (q.mono λ_ _ q=>aF (q.mono λ_ _ q=>q)))))
theorem cL(h:W (run g e loc st) λd st1=>Q (.rt d) st1):W (execs g (.ret e::ss) loc st) Q:=
 bH (by rw[exec];exact aF (h.mono λ_ _ q=>q))
theorem m4(h:Q (.rt .non) st):W (execs g (.ret0::ss) loc st) Q:=bH (by rw[exec];exact h)
theorem cf(h:W (run g e loc st) λ_ st1=>W (execs g ss loc st1) Q):W (execs g (.ex e::ss) loc st) Q:=
 bH (by rw[exec];exact aF (h.mono λ_ _ q=>q))
theorem ff(h:W (run g o loc st) λx st1=>W (fP x st1) λ_ st2=>W (run g e loc st2) λd st3=>W (append x d st3) λ_ st4=>W (execs g ss loc st4) Q):W (execs g (.app o e::ss) loc st) Q:=
 bH (by rw[exec];exact aF (h.mono λ_ _ q=>aF (q.mono λ_ _ q=>aF (q.mono λ_ _ q=>aF (q.mono λ_ _ q=>q)))))
theorem n5{c:Loc->M D}{f:Loc->M Fl}(I:Nat->Loc->aK->Prop)(turn:∀m loc st,I m loc st->W (c loc st) λx st1=>∃b,x=.bl b/\(b=true->∃m',m=m'+1/\W (f loc st1) λr st2=>match r with| .nx loc'=>I m' loc' st2| .rt d=>Q (.rt d) st2| .ex n l=>Q (.ex n l) st2)/\(b=false->Q (.nx loc) st1)):
  ∀k m loc st,m<k->I m loc st->W (dM c f k loc st) Q
 |0,m,loc,st,h1,h=>by omega
 |k+1,m,loc,st,h1,h=>by
  rw[dM];refine aF ((turn m loc st h).mono λx st1 hp=>?_);obtain⟨b,e,q1,q2⟩:=hp;subst e;cases b with
  |false=>exact q2 rfl
  |true=>
   obtain⟨m',rfl,q⟩:=q1 rfl;refine aF (show W ((if true=true then aZ (f loc) _ else _) st1) _ from aF (q.mono λr st2 q=>?_))
   cases r with
   |nx loc'=>exact n5 I turn k m' loc' st2 (by omega) q
   |rt d=>exact q
   |ex n l=>exact q
theorem bu{x y:List S}(h:W (run g c loc st) λz st1=>∃k,z=.bl k/\(k=true->W (execs g x loc st1) (Kn g ss Q))/\(k=false->W (execs g y loc st1) (Kn g ss Q))):W (execs g (.ite c x y::ss) loc st) Q:=
 bH (by
  rw[exec]
  exact aF (h.mono λ_ _ hp=>by
   obtain⟨k,e,q1,q2⟩:=hp;subst e;cases k with
   |true=>exact q1 rfl
   |false=>exact q2 rfl))
theorem pI{f:D->Loc->M Fl}{xs:List D}(I:Nat->Loc->aK->Prop)(step:∀i x loc st,xs[i]? =some x->I i loc st->W (f x loc st) λr st1=>match r with| .nx loc'=>I (i+1) loc' st1| .rt d=>Q (.rt d) st1| .ex n l=>Q (.ex n l) st1)
  (fin:∀loc st,I xs.length loc st->Q (.nx loc) st):∀k i loc st,i<=xs.length->xs.length<k+i->I i loc st->W (eg f (.its xs) k i loc st) Q
 |0,i,acc,st,h1,h2,h=>by omega
 |k+1,i,loc,st,h1,h2,h=>by
  simp only[eg,fc];cases e:xs[i]? with
  |none=>
   have:i=xs.length:=by have:=List.getElem?_eq_none_iff.mp e;omega
   subst this;exact fin loc st h
  |some x=>
   have hi:=(aL e).1;refine aF ((step i x loc st e h).mono λr st1 q=>?_);cases r with
   |nx loc'=>exact pI I step fin k (i+1) loc' st1 hi (by omega) q
   |rt d=>exact q
   |ex n l=>exact q
noncomputable def Kf(I:Loc->aK->Prop)(Q:Fl->aK->Prop):Fl->aK->Prop:=λr st=>match r with
 | .nx loc=>I loc st
 | .rt d=>Q (.rt d) st
 | .ex n l=>Q (.ex n l) st
theorem mE{I:Loc->aK->Prop}(h:I loc st):Kf I Q (.nx loc) st:=h
theorem vb{I:Loc->aK->Prop}{d:D}(h:Q (.rt d) st):Kf I Q (.rt d) st:=h
theorem Bc{rng:Bool}{body:List S}(I:List D->Nat->Loc->aK->Prop)
  (h:W (run g e loc st) λd st1=>∃xs,c6 rng d=some (.its xs)/\I xs 0 loc st1/\(∀i x loc st,xs[i]? =some x->I xs i loc st->W (execs g body (loc.set n (some x)) st) (Kf (I xs (i+1)) (Kn g ss Q)))/\∀loc st,I xs xs.length loc st->W (execs g ss loc st) Q):
  W (execs g (.for_ n rng e body::ss) loc st) Q:=by
 refine bH ?_;rw[exec];refine aF (h.mono λd st1 ⟨xs,hs,h0,step,fin⟩=>aF ?_);unfold dL;rw[hs];show W (eG _ (.its xs) loc st1) _;unfold eG;refine pI (I xs) (λi x loc st e q=>(step i x loc st e q).mono λr st1 q=>?_) fin _ 0 loc st1 (by omega) (by show xs.length<xs.length+1+0;omega) h0
 cases r with
 |nx loc'=>exact q
 |rt d=>exact q
 |ex n l=>exact q
end
section
variable{loc:Loc}{st:aK}{Q:Fl->aK->Prop}{e:Ex}
theorem qI{f:D->Loc->M Fl}{n:Nat}{xs:List D}(I:Nat->Loc->aK->Prop)(keep:∀i loc st,I i loc st->st[n]? =some (.lst xs))(step:∀i x loc st,xs[i]? =some x->I i loc st->W (f x loc st) λr st1=>match r with| .nx loc'=>I (i+1) loc' st1| .rt d=>Q (.rt d) st1| .ex n l=>Q (.ex n l) st1)
  (fin:∀loc st,I xs.length loc st->Q (.nx loc) st):∀k i loc st,i<=xs.length->xs.length<k+i->I i loc st->W (eg f (.at n) k i loc st) Q
 |0,i,acc,st,h1,h2,h=>by omega
 |k+1,i,loc,st,h1,h2,h=>by
  simp only[eg,fc,keep i loc st h];cases e:xs[i]? with
  |none=>
   have:i=xs.length:=by have:=List.getElem?_eq_none_iff.mp e;omega
   subst this;exact fin loc st h
  |some x=>
   have hi:=(aL e).1;refine aF ((step i x loc st e h).mono λr st1 q=>?_);cases r with
   |nx loc'=>exact qI I keep step fin k (i+1) loc' st1 hi (by omega) q
   |rt d=>exact q
   |ex n l=>exact q
end
theorem pG{g:eB}{loc:Loc}{st:aK}{Q:Fl->aK->Prop}{ss body:List S}{c:Ex}(I:Nat->Loc->aK->Prop)(m:Nat)(hm:m<1000000000)(h0:I m loc st)(turn:∀m loc st,I m loc st->W (run g c loc st) λx st1=>∃b,x=.bl b/\(b=true->∃m',m=m'+1/\W (execs g body loc st1) (Kf (I m') (Kn g ss Q)))/\(b=false->W (execs g ss loc st1) Q)):
  W (execs g (.whil c body::ss) loc st) Q:=by
 refine bH ?_;rw[exec];refine n5 I (λm loc st h=>(turn m loc st h).mono λx st1 ⟨b,e,q1,q2⟩=>⟨b,e,λhb=>?_,q2⟩) o6 m loc st hm h0;obtain⟨m',e,q⟩:=q1 hb;refine⟨m',e,q.mono λr st2 q=>?_⟩;cases r with
 |nx loc'=>exact q
 |rt d=>exact q
 |ex n l=>exact q
theorem m7{tab:List Fn}{k f:Nat}{fn:Fn}{ds:List D}{st:aK}{Q:D->aK->Prop}(hf:tab[f]? =some fn)(hl:ds.length=fn.ar)(h:W (execs (calls tab k) fn.body (ds.map some++List.replicate (fn.nl - ds.length) none) st) (Kr Q)):Wv (calls tab (k+1) f ds st) Q:=by
 simp only[Wv,calls,hf,jV,if_pos hl];refine aF (h.mono λr st1 q=>?_);cases r with
 |nx loc'=>exact q
 |rt d=>exact q
 |ex n l=>exact q.elim
section
variable{st:aK}{Q:D->aK->Prop}{i j:Int}
theorem w_add(h:Q (.int (i+j)) st):W (cz .add (.int i) (.int j) st) Q:=h
theorem w_sub(h:Q (.int (i - j)) st):W (cz .sub (.int i) (.int j) st) Q:=h
theorem w_mul(hb:(-18446744073709551616<i/\i<18446744073709551616)∨(-18446744073709551616<j/\j<18446744073709551616))(h:Q (.int (i*j)) st):W (cz .mul (.int i) (.int j) st) Q:=by simp only[cz,u4];rw[if_pos (.inl (show(-big<i/\i<big)∨(-big<j/\j<big) from hb))];exact h
theorem w_mod(hb:0<j)(h:Q (.int (i % j)) st):W (cz .mod (.int i) (.int j) st) Q:=by
 simp only[cz,ii];rw[if_pos (by omega),Int.fmod_eq_emod_of_nonneg i (by omega)];exact h
theorem gP(hb:0<j/\j<4611686018427387904)(h:Q (.int (i / j)) st):W (cz .fdiv (.int i) (.int j) st) Q:=by
 simp only[cz,ii];rw[if_pos ⟨by omega,ao (show j.natAbs<4611686018427387904 by omega) (by decide)⟩,Int.fdiv_eq_ediv_of_nonneg i (by omega)];exact h
theorem yP{as bs:List D}(hm:st[m]? =some (.lst as))(hn:st[n]? =some (.lst bs))(hb:as.length+bs.length<=1000000)(h:Q (.ref st.length) (st++[.lst (as++bs)])):W (cz .add (.ref m) (.ref n) st) Q:=by simp only[cz,addD,hm,hn];rw[if_pos hb];exact h
theorem w_eq{x y:D}{k:Bool}(e:gJ 60 st x y=some k)(h:Q (.bl k) st):W (cx .Eq x y st) Q:=by simp only[cx,e];exact h
theorem tG{x y:D}{k:Bool}(e:gJ 60 st x y=some k)(h:Q (.bl (!k)) st):W (cx .NotEq x y st) Q:=by simp only[cx,e];exact h
theorem fL(h:Q (.bl (decide (i=j))) st):W (cx .Eq (.int i) (.int j) st) Q:=w_eq (k:=decide (i=j)) (by simp[gJ,shape,vQ];rfl) h
theorem tF(h:Q (.bl (!decide (i=j))) st):W (cx .NotEq (.int i) (.int j) st) Q:=tG (k:=decide (i=j)) (by simp[gJ,shape,vQ];rfl) h
theorem w_lt(h:Q (.bl (decide (i<j))) st):W (cx .Lt (.int i) (.int j) st) Q:=h
theorem wm(h:Q (.bl (decide (i<=j))) st):W (cx .LtE (.int i) (.int j) st) Q:=h
theorem sj(h:Q (.bl (decide (j<i))) st):W (cx .Gt (.int i) (.int j) st) Q:=h
theorem aU{xs:List D}{d:D}(e:iH xs i=some d)(h:Q d st):W (index (.tup xs) (.int i) st) Q:=by simp only[index,a8,e];exact h
theorem Bb{xs:List D}{d:D}(e:iH xs i=some d)(h:Q d st):W (index (.fl xs) (.int i) st) Q:=by simp only[index,a8,e];exact h
theorem cZ{xs:List D}{d:D}(hn:st[n]? =some (.lst xs))(e:iH xs i=some d)(h:Q d st):W (index (.ref n) (.int i) st) Q:=by simp only[index,a8,hn,e];exact h
theorem ye{kvs:List (Key×D)}{k:Str}{d:D}(hn:st[n]? =some (.dct kvs))(e:fE kvs (.inr k)=some d)(h:Q d st):W (index (.ref n) (.str k) st) Q:=by simp only[index,tj,hn,e];exact h
theorem pH{kvs:List (Key×D)}{x v:D}{k:Key}{Q:Unit->aK->Prop}(hn:st[n]? =some (.dct kvs))(hk:k9 x=some k)(hl:kvs.length<1000000)(h:Q () (st.set n (.dct (c9 kvs k v)))):W (dS (.ref n) x v st) Q:=by simp only[dS,hn,hk];rw[if_pos hl];exact h
theorem fe{c:Str}{fs:List (Str×D)}{ics:List Str}{v:D}{Q:Unit->aK->Prop}(hn:st[n]? =some (.ins c fs))(hl:fs.length<900/\c∈ics)(h:Q () (st.set n (.ins c (putD f v fs)))):W (fg cs ics (.ref n) f v st) Q:=by simp only[fg,hn];rw[if_pos hl];exact h
theorem gM{xs:List D}(h:Q (.int xs.length) st):W (jL .len [.tup xs] st) Q:=h
theorem yO{xs:List D}(h:Q (.int xs.length) st):W (jL .len [.fl xs] st) Q:=h
theorem c0{xs:List D}(hn:st[n]? =some (.lst xs))(h:Q (.int xs.length) st):W (jL .len [.ref n] st) Q:=by simp only[jL,b1,lW,a8,hn];exact h
theorem wl{xs:List D}(hn:st[n]? =some (.lst xs))(h:Q (.ref st.length) (st++[.lst xs])):W (jL .list [.ref n] st) Q:=by simp only[jL,b1,lW,a8,hn];exact h
theorem n6{xs:List D}(hn:st[n]? =some (.lst xs))(h:Q (.tup xs) st):W (jL .tuple [.ref n] st) Q:=by simp only[jL,b1,lW,a8,hn];exact h
theorem cP{xs:List D}{Q:Unit->aK->Prop}(hn:st[n]? =some (.lst xs))(h:Q () st):W (fP (.ref n) st) Q:=by simp only[fP,hn];exact h
theorem bY{xs:List D}{v:D}{Q:Unit->aK->Prop}(hn:st[n]? =some (.lst xs))(hl:xs.length<1000000)(h:Q () (st.set n (.lst (xs++[v])))):W (append (.ref n) v st) Q:=by simp only[append,hn];rw[if_pos hl];exact h
end
noncomputable def Gr(st st':aK):Prop:=∃t,st'=st++t
theorem Gr.refl(st:aK):Gr st st:=⟨[],by simp⟩
theorem Gr.trans{a b c:aK}(h:Gr a b)(k:Gr b c):Gr a c:=by
 obtain⟨t,rfl⟩:=h;obtain⟨u,rfl⟩:=k;exact⟨t++u,by simp⟩
theorem Gr.one(st:aK)(o:O):Gr st (st++[o]):=⟨[o],rfl⟩
theorem Gr.more{a b:aK}(h:Gr a b)(o:O):Gr a (b++[o]):=h.trans (.one b o)
theorem Gr.le{a b:aK}(h:Gr a b):a.length<=b.length:=by obtain⟨t,rfl⟩:=h;simp
theorem Gr.at{a b:aK}(h:Gr a b){o:O}(e:a[i]? =some o):b[i]? =some o:=by obtain⟨t,rfl⟩:=h;have:=(aL e).1;rw[aR this];exact e
theorem bJ{st:aK}{o:O}:(st++[o])[st.length]? =some o:=by simp
theorem bU{st:aK}{o:O}{t:aK}(e:st[i]? =some o):(st++t)[i]? =some o:=by have:=(aL e).1;rw[aR this];exact e
theorem iJ{j:Int}(h: -1000000<=j/\j<=1000000):c6 true (.int j)=some (.its (cB j.toNat)):=by simp only[c6];rw[if_pos h]
theorem p7(n:Nat):(cB n).length=n:=by simp[cB]
theorem dO{st:aK}{o:O}(h:n<st.length):(st.set n o)[n]? =some o:=by rw[aV h]
noncomputable def uM:D->Bool
 | .int _=>true
 | .bl _=>true
 | .str _=>true
 | .non=>true
 |_=>false
theorem im{st:aK}{d:D}(h:uM d=true):gJ (n+1) st d d=some true:=by cases d<;>simp[uM] at h<;>simp[gJ,shape,vQ]
theorem lQ{f:D->D->Option Bool}:∀{xs:List D},(∀x∈xs,f x x=some true)->e_ f xs xs=some true
 |[],_=>rfl
 |x::xs,h=>by
  unfold e_;rw[h x (by simp),lQ λy hy=>h y (by simp[hy])]
  rfl
theorem pL{st:aK}{a b:O}:(st++[a,b])[st.length]? =some a:=by simp
theorem nk{st:aK}{a b:O}:(st++[a]).set st.length b=st++[b]:=by simp
theorem dn{st:aK}{a b c:O}:(st++[a,b]).set st.length c=st++[c,b]:=by simp
section
variable{g:eB}{loc:Loc}{st:aK}{Q:D->aK->Prop}{a b e:Ex}
theorem yN(h:W (run g a loc st) λx st1=>∃xs,x=.tup xs/\Q (.ref st1.length) (st1++[.lst xs.reverse])):W (run g (.lrev a) loc st) Q:=by rw[run];refine aF (h.mono λx st1 hp=>?_);obtain⟨xs,rfl,q⟩:=hp;exact q
theorem qK(h:W (run g a loc st) λx st1=>∃n xs ps,x=.ref n/\st1[n]? =some (.lst xs)/\nr xs=some ps/\Q (.ref st1.length) (st1++[.dct (iF ps)])):W (run g (.dictP a) loc st) Q:=by rw[run];refine aF (h.mono λx st1 hp=>?_);obtain⟨n,xs,ps,rfl,e1,e2,q⟩:=hp;simp only[lI,e1,e2];exact q
theorem yf{ks:List Str}(h:W (run g a loc st) λx st1=>∃s,x=.str s/\Q (.bl (ks.contains s)) st1):W (run g (.inG ks a) loc st) Q:=by rw[run];refine aF (h.mono λx st1 hp=>?_);obtain⟨s,rfl,q⟩:=hp;exact q
theorem qM(h:W (run g a loc st) λd st1=>∃s,c6 false d=some s/\W (bX (pairF λx y=>run g b (some x::some y::loc)) s st1) Q):W (run g (.compU a b) loc st) Q:=by rw[run];refine aF (h.mono λd st1 hp=>aF ?_);obtain⟨s,e1,q⟩:=hp;unfold dL;rw[e1];exact q
theorem qL(h:W (run g a loc st) λx st1=>W (run g b loc st1) λy st2=>∃s,tq x y=some s/\W (bX (pairF λx y=>run g e (some x::some y::loc)) s st2) Q):W (run g (.compZ a b e) loc st) Q:=by rw[run];refine aF (h.mono λx st1 hp=>aF (hp.mono λy st2 hq=>aF ?_));obtain⟨s,e1,q⟩:=hq;unfold dL;rw[e1];exact q
theorem ia{f:D->D->M D}{x y:D}{Q:Option D->aK->Prop}(h:W (f x y st) λz st1=>Q (some z) st1):W (pairF f (.tup [x,y]) st) Q:=aF (h.mono λ_ _ q=>q)
theorem w_inS{x y:D}{ys:List D}{k:Bool}(hs:a8 st y=some ys)(e:e8 st x ys=some k)(h:Q (.bl k) st):W (cx .In x y st) Q:=by simp only[cx,hs,e];exact h
theorem tK{xs ys:List D}{Q:Unit->aK->Prop}(hn:st[n]? =some (.lst xs))(hm:st[m]? =some (.lst ys))(hl:xs.length+ys.length<=10000000)(h:Q () (st.set n (.lst (xs++ys)))):W (extend (.ref n) (.ref m) st) Q:=by simp only[extend,hn,hm];rw[if_pos hl];exact h
theorem Dr(h:W (run g a loc st) λx st1=>∃n xs,x=.ref n/\st1[n]? =some (.lst xs)/\Q (.ref st1.length) (st1++[.lst xs.reverse])):W (run g (.rv a) loc st) Q:=by rw[run];refine aF (h.mono λx st1 hp=>?_);obtain⟨n,xs,rfl,e,q⟩:=hp;simp only[DS,e];exact q
theorem wr(h:W (run g a loc st) λx st1=>W (run g b loc st1) λy st2=>∃s,j7 x y=some s/\W (bX (λx=>aZ (run g e (some x::loc)) λy=>ret (some y)) s st2) Q):W (run g (.comp2 a b e) loc st) Q:=by rw[run];refine aF (h.mono λx st1 hp=>aF (hp.mono λy st2 hq=>aF ?_));obtain⟨s,e1,q⟩:=hq;unfold dL;rw[e1];exact q
end
section
variable{g:eB}{loc:Loc}{st:aK}{Q:Fl->aK->Prop}{ss:List S}{e o:Ex}{i:Int}
theorem Bd(h:W (run g o loc st) λx st1=>W (fP x st1) λ_ st2=>W (run g e loc st2) λd st3=>W (extend x d st3) λ_ st4=>W (execs g ss loc st4) Q):W (execs g (.ext o e::ss) loc st) Q:=
 bH (by rw[exec];exact aF (h.mono λ_ _ q=>aF (q.mono λ_ _ q=>aF (q.mono λ_ _ q=>aF (q.mono λ_ _ q=>q)))))
theorem Be(h:W (run g o loc st) λx st1=>∃n xs,x=.ref n/\st1[n]? =some (.lst xs)/\W (execs g ss loc (st1.set n (.lst []))) Q):W (execs g (.clr o::ss) loc st) Q:=
 bH (by rw[exec];refine aF (h.mono λx st1 hp=>aF ?_);obtain⟨n,xs,rfl,e,q⟩:=hp;simp only[qy,e];exact q)
theorem yM{body els:List S}(h:W (execs g body loc st) λr st1=>match r with| .nx l=>W (execs g els l st1) (Kn g ss Q)| .rt d=>Q (.rt d) st1| .ex _ _=>False):W (execs g (.tryE body els::ss) loc st) Q:=
 bH (by
  rw[exec];refine aF (h.mono λr st1 q=>?_);cases r with
  |nx l=>exact q
  |rt d=>exact q
  |ex n l=>exact q.elim)
theorem tJ{xs:List D}{body:List S}(I:Nat->Loc->aK->Prop)(h:W (run g e loc st) λd st1=>d=.tup xs/\I 0 loc st1/\(∀i x loc st,xs[i]? =some x->I i loc st->∃ds,x=.tup ds/\ds.length=is.length/\W (execs g body (cV is ds loc) st) (Kf (I (i+1)) (Kn g ss Q)))/\∀loc st,I xs.length loc st->W (execs g ss loc st) Q):
  W (execs g (.forU is e body::ss) loc st) Q:=by
 refine bH ?_;rw[exec];refine aF (h.mono λd st1 hp=>aF ?_);obtain⟨rfl,h0,step,fin⟩:=hp;show W (eG _ (.its xs) loc st1) _;unfold eG;refine pI I (λi x loc st e q=>?_) fin _ 0 loc st1 (by omega) (by show xs.length<xs.length+1+0;omega) h0
 obtain⟨ds,rfl,hl,q⟩:=step i x loc st e q;refine aF ?_;simp only[items?,a8,if_pos hl];refine q.mono λr st1 q=>?_;cases r with
 |nx loc'=>exact q
 |rt d=>exact q
 |ex n l=>exact q
end
section
variable{st:aK}{f:D->M (Option D)}
theorem kB{s:Src}{L:List D}{Q:List D->aK->Prop}(I:Nat->List D->aK->Prop)(nx:∀i acc st,I i acc st->fc s i st=some L[i]?)(step:∀i x acc st,L[i]? =some x->I i acc st->W (f x st) λo st1=>I (i+1) (match o with|some y=>acc++[y]|none=>acc) st1)
  (fin:∀acc st,I L.length acc st->Q acc st):∀k i acc st,i<=L.length->L.length<k+i->I i acc st->W (di f s k i acc st) Q
 |0,i,acc,st,h1,h2,h=>by omega
 |k+1,i,acc,st,h1,h2,h=>by
  simp only[di,nx i acc st h];cases e:L[i]? with
  |none=>
   have:i=L.length:=by have:=List.getElem?_eq_none_iff.mp e;omega
   subst this;exact fin acc st h
  |some x=>
   have hi:=(aL e).1;refine aF ((step i x acc st e h).mono λo st1 q=>?_);cases o with
   |none=>exact kB I nx step fin k (i+1) acc st1 hi (by omega) q
   |some y=>exact kB I nx step fin k (i+1) (acc++[y]) st1 hi (by omega) q
theorem n8{s:Src}{L:List D}{Q:D->aK->Prop}(hl:d8 s st<=1000000)(hL:L.length<=d8 s st)(I:Nat->List D->aK->Prop)(h0:I 0 [] st)(nx:∀i acc st,I i acc st->fc s i st=some L[i]?)(step:∀i x acc st,L[i]? =some x->I i acc st->W (f x st) λo st1=>I (i+1) (match o with|some y=>acc++[y]|none=>acc) st1)
  (fin:∀acc st,I L.length acc st->Q (.ref st.length) (st++[.lst acc])):W (bX f s st) Q:=by
 unfold bX;rw[if_pos hl];exact aF (W.mono (kB (Q:=λacc st=>Q (.ref st.length) (st++[.lst acc])) I nx step fin (d8 s st+1) 0 [] st (by omega) (by omega) h0) λacc st q=>(show Q (.ref st.length) (st++[.lst acc]) from q))
end
mutual
noncomputable def nX(n:Nat):D->D
 | .tup xs=>.tup (fF n xs)
 | .fl xs=>.fl (fF n xs)
 | .ref m=>.ref (n+m)
 | .non=>.non
 | .bl b=>.bl b
 | .int i=>.int i
 | .str x=>.str x
noncomputable def fF(n:Nat):List D->List D
 |[]=>[]
 |d::ds=>nX n d::fF n ds
end
theorem bK(n:Nat):∀xs,fF n xs=xs.map (nX n)
 |[]=>rfl
 |d::ds=>by rw[fF,bK n ds];rfl
noncomputable def jZ(n:Nat):O->O
 | .lst xs=>.lst (xs.map (nX n))
 | .dct kvs=>.dct (kvs.map λp=>(p.1,nX n p.2))
 | .ins c fs=>.ins c (fs.map λp=>(p.1,nX n p.2))
noncomputable def dm(p st:aK):aK:=p++st.map (jZ p.length)
noncomputable def Sm{α β:Type}(p:aK)(ρ:α->β)(m:M α)(m':M β):Prop:=∀st a st1,m st=.ok a st1->m' (dm p st)=.ok (ρ a) (dm p st1)
section
variable{p:aK}{α β γ δ:Type}
theorem bO{ρ:α->β}{a:α}{b:β}(h:b=ρ a):Sm p ρ (ret a) (ret b):=λst x st1 e=>by cases e;subst h;rfl
theorem cu{ρ:α->β}{m':M β}:Sm p ρ stuck m':=λst x st1 e=>by cases e
theorem dk{ρ:α->β}{o:Option α}{o':Option β}(h:∀a,o=some a->o'=some (ρ a)):Sm p ρ (dL o) (dL o'):=λst x st1 e=>by
 cases o with
 |none=>cases e
 |some a=>cases e;rw[h _ rfl];rfl
theorem aC{ρ:α->β}{σ:γ->δ}{m:M α}{m':M β}{f:α->M γ}{f':β->M δ}(h:Sm p ρ m m')(k:∀a,Sm p σ (f a) (f' (ρ a))):Sm p σ (aZ m f) (aZ m' f'):=λst x st1 e=>by
 unfold aZ at e ⊢;cases q:m st with
 |bad=>rw[q] at e;cases e
 |ok a st2=>rw[q] at e;rw[h st a st2 q];exact k a st2 x st1 e
theorem cM{st:aK}:(dm p st)[p.length+m]? =st[m]?.map (jZ p.length):=by
 unfold dm;rw[aQ (by omega),Nat.add_sub_cancel_left,aX]
theorem kP{st:aK}:(dm p st).length=p.length+st.length:=by simp[dm]
theorem kO{st:aK}{o:O}:dm p (st++[o])=dm p st++[jZ p.length o]:=by simp[dm]
theorem iK{st:aK}{o:O}:dm p (st.set m o)=(dm p st).set (p.length+m) (jZ p.length o):=by
 unfold dm;rw[List.set_append_right _ _ (by omega),Nat.add_sub_cancel_left,List.map_set]
noncomputable abbrev sd(p:aK):D->D:=nX p.length
theorem gR{xs:List D}:Sm p (sd p) (alloc xs) (alloc (xs.map (sd p))):=λst x st1 e=>by cases e;unfold alloc;rw[kP,kO];rfl
theorem su:Sm p (sd p) allocD allocD:=λst x st1 e=>by cases e;unfold allocD;rw[kP,kO];rfl
theorem js{st:aK}{d:D}:a8 (dm p st) (sd p d)=(a8 st d).map (List.map (sd p)):=by
 cases d with
 |tup xs=>show some (fF _ xs)=_;rw[bK];rfl
 |fl xs=>show some (fF _ xs)=_;rw[bK];rfl
 |ref n=>
  show(match(dm p st)[p.length+n]? with|some (.lst xs)=>some xs|_=>none)=_
  rw[cM];simp only[a8];cases st[n]? with
  |none=>rfl
  |some o=>cases o<;>rfl
 |_=>rfl
theorem yV{fr:Bool}{d:D}:Sm p (sd p) (oM fr d) (oM fr (sd p d)):=λst a st1 e=>by
 cases d with
 |ref n=>
  simp only[oM] at e;show oM fr (.ref (p.length+n)) (dm p st)=_;simp only[oM,cM];cases q:st[n]? with
  |none=>rw[q] at e;cases e
  |some o=>
   rw[q] at e;cases o with
   |lst xs=>
    simp only[Option.map_some,jZ] at e ⊢;cases fr with
    |true=>cases e
    |false=>
     simp only[List.length_map,List.getElem?_map] at e ⊢;cases q2:xs[xs.length - 1]? with
     |none=>rw[q2] at e;cases e
     |some y=>
      rw[q2] at e;cases e;simp only[Option.map_some];rw[if_neg (by decide),iK,jZ,List.map_dropLast]
   |_=>cases e
 |_=>cases e
theorem oo{d:D}:Sm p id (fP d) (fP (sd p d)):=λst a st1 e=>by
 cases d with
 |ref n=>
  simp only[fP] at e;show fP (.ref (p.length+n)) (dm p st)=_;simp only[fP,cM];cases q:st[n]? with
  |none=>rw[q] at e;cases e
  |some o=>rw[q] at e;cases o<;>cases e;rfl
 |_=>cases e
theorem t_{kvs:List (Key×D)}{k:Key}:fE (kvs.map λq=>(q.1,sd p q.2)) k=(fE kvs k).map (sd p):=by
 induction kvs with
 |nil=>rfl
 |cons q r ih=>
  simp only[List.map_cons,fE];by_cases h:q.1=k
  ·rw[if_pos h,if_pos h];rfl
  ·rw[if_neg h,if_neg h,ih]
theorem pW{d:D}:k9 (sd p d)=k9 d:=by cases d<;>rfl
theorem ud{kvs:List (Key×D)}{k:Key}{v:D}:(c9 kvs k v).map (λq=>(q.1,sd p q.2))=c9 (kvs.map λq=>(q.1,sd p q.2)) k (sd p v):=by
 unfold c9;have e1:((kvs.map λq=>(q.1,sd p q.2)).any λkv=>decide (kv.1=k))=kvs.any λkv=>decide (kv.1=k):=by rw[List.any_map];rfl
 rw[e1];cases q:kvs.any λkv=>decide (kv.1=k) with
 |true=>
  rw[if_pos rfl,if_pos rfl,List.map_map,List.map_map];refine List.map_congr_left λx _=>?_;by_cases h:x.1=k
  ·simp[h]
  ·simp[h]
 |false=>rw[if_neg (by decide),if_neg (by decide)];simp
theorem mw{fs:List (Str×D)}:(fs.map λq=>(q.1,sd p q.2)).lookup f=(fs.lookup f).map (sd p):=by
 induction fs with
 |nil=>rfl
 |cons q r ih=>
  obtain⟨a,b⟩:=q;simp only[List.map_cons,List.lookup_cons];cases f==a with
  |true=>rfl
  |false=>exact ih
theorem wN{fs:List (Str×D)}{v:D}:(putD f v fs).map (λq=>(q.1,sd p q.2))=putD f (sd p v) (fs.map λq=>(q.1,sd p q.2)):=by
 induction fs with
 |nil=>rfl
 |cons q r ih=>
  obtain⟨a,b⟩:=q;simp only[List.map_cons,putD];by_cases h:a=f
  ·simp[h]
  ·simp[h,ih]
theorem uc{st:aK}{d:D}:shape (dm p st) (sd p d)=(shape st d).map fun| .sc v=>.sc v| .t xs=>.t (xs.map (sd p))| .l xs=>.l (xs.map (sd p))| .d=>.d:=by
 cases d with
 |tup xs=>show some (Sh.t (fF _ xs))=_;rw[bK];rfl
 |fl xs=>show some (Sh.l (fF _ xs))=_;rw[bK];rfl
 |ref n=>
  show(match(dm p st)[p.length+n]? with|some (.lst xs)=>some (Sh.l xs)|some (.dct _)=>some .d|_=>none)=_
  rw[cM];simp only[shape];cases st[n]? with
  |none=>rfl
  |some o=>cases o<;>rfl
 |_=>rfl
theorem oz{f f':D->D->Option Bool}(h:∀a b,f' (sd p a) (sd p b)=f a b):∀xs ys,e_ f' (xs.map (sd p)) (ys.map (sd p))=e_ f xs ys
 |[],[]=>rfl
 |[],_::_=>rfl
 |_::_,[]=>rfl
 |a::as,b::bs=>by simp only[List.map_cons,e_,h,oz h as bs]
theorem y_{f f':D->D->Option Bool}(h:∀a b,f' (sd p a) (sd p b)=f a b)(a b:D):pF f' (sd p a) (sd p b)=pF f a b:=by
 cases a with
 |ref i=>
  cases b with
  |ref j=>
   show(if p.length+i=p.length+j then some true else f' (sd p (.ref i)) (sd p (.ref j)))=if i=j then some true else f (.ref i) (.ref j)
   by_cases e:i=j
   ·subst e;simp
   ·rw[if_neg (by omega),if_neg e,h]
  |_=>exact h _ _
 |_=>cases b<;>exact h _ _
theorem rc{st:aK}:∀(n:Nat)(a b:D),gJ n (dm p st) (sd p a) (sd p b)=gJ n st a b
 |0,a,b=>rfl
 |n+1,a,b=>by
  simp only[gJ,uc];have ih:=y_ (p:=p) (rc (st:=st) n);cases shape st a with
  |none=>rfl
  |some x=>
   cases shape st b with
   |none=>cases x<;>rfl
   |some y=>cases x<;>cases y<;>first|rfl|exact oz ih _ _
theorem uh{st:aK}{x:D}:∀ys,e8 (dm p st) (sd p x) (ys.map (sd p))=e8 st x ys
 |[]=>rfl
 |y::ys=>by simp only[List.map_cons,e8,rc,uh ys]
theorem sv{st:aK}{x y:D}:gm (dm p st) (sd p x) (sd p y)=gm st x y:=by
 unfold gm;rw[pW];cases k9 x with
 |none=>cases y<;>rfl
 |some k=>
  cases y with
  |ref n=>
   show(match(dm p st)[p.length+n]? with|some (.dct kvs)=>some (fE kvs k).isSome|_=>none)=match st[n]? with|some (.dct kvs)=>some (fE kvs k).isSome|_=>none
   rw[cM];cases st[n]? with
   |none=>rfl
   |some o=>
    cases o with
    |dct kvs=>simp only[Option.map_some,jZ];rw[t_,Option.isSome_map]
    |_=>rfl
  |_=>rfl
noncomputable def CU:CmpOp->Bool
 | .Eq=>true
 | .NotEq=>true
 | .Gt=>true
 | .In=>true
 | .NotIn=>true
 |_=>false
theorem y0{op:CmpOp}(ho:CU op=true){x y:D}:Sm p (sd p) (cx op x y) (cx op (sd p x) (sd p y)):=λst a st1 e=>by
 have opt:∀{o:Option Bool}{f:Bool->Bool},(match o with|some k=>R.ok (D.bl (f k)) st|none=>.bad)=.ok a st1->(match o with|some k=>R.ok (D.bl (f k)) (dm p st)|none=>.bad)=.ok (sd p a) (dm p st1):=λ{o f} h=>by
  cases o with
  |none=>cases h
  |some k=>cases h;rfl
 have hI:∀{f:Int->Int->Bool},(match x,y with| .int i,.int j=>R.ok (D.bl (f i j)) st|_,_=>.bad)=.ok a st1->(match sd p x,sd p y with| .int i,.int j=>R.ok (D.bl (f i j)) (dm p st)|_,_=>.bad)=.ok (sd p a) (dm p st1):=λ{f} h=>by cases x<;>cases y<;>cases h<;>rfl
 have hN:∀{f:Bool->Bool},(match a8 st y with|some ys=>(match e8 st x ys with|some k=>R.ok (D.bl (f k)) st|none=>.bad)|none=>match gm st x y with|some k=>.ok (.bl (f k)) st|none=>.bad)=.ok a st1->(match a8 (dm p st) (sd p y) with|some ys=>(match e8 (dm p st) (sd p x) ys with|some k=>R.ok (D.bl (f k)) (dm p st)|none=>.bad)|none=>match gm (dm p st) (sd p x) (sd p y) with|some k=>.ok (.bl (f k)) (dm p st)|none=>.bad)=.ok (sd p a) (dm p st1):=λ{f} h=>by
  rw[js,sv];cases q:a8 st y with
  |none=>rw[q] at h;exact opt h
  |some ys=>rw[q] at h;simp only[Option.map_some];rw[uh];exact opt h
 cases op with
 |Eq=>simp only[cx,rc] at e ⊢;exact opt (f:=id) e
 |NotEq=>simp only[cx,rc] at e ⊢;exact opt (f:=not) e
 |Gt=>exact hI (f:=λi j=>decide (j<i)) e
 |In=>exact hN (f:=id) e
 |NotIn=>exact hN (f:=not) e
 |_=>cases ho
theorem zd{xs:List D}{i:Int}:iH (xs.map (sd p)) i=(iH xs i).map (sd p):=by
 unfold iH;rw[List.length_map];cases sN xs.length i with
 |none=>rfl
 |some j=>show(xs.map (sd p))[j]? =(xs[j]?).map (sd p);rw[aX]
theorem t9{x:D}{k:Key}:Sm p (sd p) (λst=>tj st x k) (λst=>tj st (sd p x) k):=λst a st1 e=>by
 cases x with
 |ref n=>
  simp only[tj] at e;show tj (dm p st) (.ref (p.length+n)) k=_;simp only[tj,cM];cases q:st[n]? with
  |none=>rw[q] at e;cases e
  |some o=>
   rw[q] at e;cases o with
   |dct kvs=>
    simp only[Option.map_some,jZ] at e ⊢;rw[t_];cases q2:fE kvs k with
    |none=>rw[q2] at e;cases e
    |some y=>rw[q2] at e;cases e;rfl
   |_=>cases e
 |_=>cases e
theorem t6{x y:D}:Sm p (sd p) (index x y) (index (sd p x) (sd p y)):=λst a st1 e=>by
 cases y with
 |int i=>
  simp only[index] at e;show(match a8 (dm p st) (sd p x) with|some xs=>(match iH xs i with|some d=>R.ok d (dm p st)|none=>.bad)|none=>tj (dm p st) (sd p x) (.inl i))=_
  rw[js];cases q:a8 st x with
  |none=>rw[q] at e;exact t9 st a st1 e
  |some xs=>
   rw[q] at e;simp only[Option.map_some] at e ⊢;rw[zd];cases q2:iH xs i with
   |none=>rw[q2] at e;cases e
   |some y=>rw[q2] at e;cases e;rfl
 |str k=>
  have e:tj st x (.inr k)=.ok a st1:=by cases x<;>exact e
  have:=t9 (p:=p) st a st1 e;show index (sd p x) (.str k) (dm p st)=_;generalize sd p x=z at this ⊢;cases z<;>exact this
 |_=>cases x<;>cases e
theorem re:∀xs:List D,allB (xs.map (sd p))=allB xs
 |[]=>rfl
 |d::ds=>by cases d<;>simp only[List.map_cons,sd,nX,allB]<;>rw[show ds.map (nX p.length)=ds.map (sd p) from rfl,re ds]
theorem qZ:∀xs:List D,pT (xs.map (sd p))=pT xs
 |[]=>rfl
 |d::ds=>by cases d<;>simp only[List.map_cons,sd,nX,pT]<;>rw[show ds.map (nX p.length)=ds.map (sd p) from rfl,qZ ds]
theorem za{st:aK}{t:Ty}{d:D}:i0 (dm p st) t (sd p d)=i0 st t d:=by
 cases d with
 |ref n=>
  show(match(dm p st)[p.length+n]? with|some (.lst _)=>some (match t with| .list=>true|_=>false)|some (.dct _)=>some false|_=>none)=match st[n]? with|some (.lst _)=>some (match t with| .list=>true|_=>false)|some (.dct _)=>some false|_=>none
  rw[cM];cases st[n]? with
  |none=>rfl
  |some o=>cases o<;>rfl
 |_=>rfl
theorem yY{t:Ty}{x:D}:Sm p (sd p) (λst=>match i0 st t x with|some k=>.ok (.bl k) st|none=>.bad) (λst=>match i0 st t (sd p x) with|some k=>.ok (.bl k) st|none=>.bad):=λst a st1 e=>by
 simp only[za] at e ⊢;cases q:i0 st t x with
 |none=>rw[q] at e;cases e
 |some k=>rw[q] at e;cases e;rfl
theorem ng{x:D}{f:List D->M D}{f':List D->M D}(h:∀xs,Sm p (sd p) (f xs) (f' (xs.map (sd p)))):Sm p (sd p) (λst=>match a8 st x with|some xs=>f xs st|none=>.bad) (λst=>match a8 st (sd p x) with|some xs=>f' xs st|none=>.bad):=λst a st1 e=>by
 simp only[js] at e ⊢;cases q:a8 st x with
 |none=>rw[q] at e;cases e
 |some xs=>rw[q] at e;exact h xs st a st1 e
theorem yX{xs:List D}:Sm p (sd p) (λst=>.ok (.int xs.length) st) (λst=>.ok (.int (xs.map (sd p)).length) st):=λst a st1 e=>by cases e;rw[List.length_map];rfl
theorem kH{xs:List D}:Sm p (sd p) (λst=>.ok (.tup xs) st) (λst=>.ok (.tup (xs.map (sd p))) st):=λst a st1 e=>by cases e;show R.ok _ _=R.ok (D.tup (fF _ xs)) _;rw[bK]
theorem wH{f:Bt}{ds:List D}:Sm p (sd p) (jL f ds) (jL f (ds.map (sd p))):=by
 match ds with
 |[x]=>
  show Sm p (sd p) (lW f x) (lW f (sd p x));cases f with
  |len=>exact ng λ_=>yX
  |list=>exact ng λ_=>gR
  |tuple=>exact ng λ_=>kH
  |all=>
   intro st a st1 e;cases x with
   |ref n=>
    simp only[lW] at e;show lW .all (.ref (p.length+n)) (dm p st)=_;simp only[lW,cM];cases q:st[n]? with
    |none=>rw[q] at e;cases e
    |some o=>
     rw[q] at e;cases o with
     |lst xs=>
      simp only[Option.map_some,jZ] at e ⊢;rw[show xs.map (nX p.length)=xs.map (sd p) from rfl,re];cases q2:allB xs with
      |none=>rw[q2] at e;cases e
      |some k=>rw[q2] at e;cases e;rfl
     |_=>cases e
   |_=>cases e
  |sum=>
   intro st a st1 e;cases x with
   |ref n=>
    simp only[lW] at e;show lW .sum (.ref (p.length+n)) (dm p st)=_;simp only[lW,cM];cases q:st[n]? with
    |none=>rw[q] at e;cases e
    |some o=>
     rw[q] at e;cases o with
     |lst xs=>
      simp only[Option.map_some,jZ] at e ⊢;rw[show xs.map (nX p.length)=xs.map (sd p) from rfl,qZ];cases q2:pT xs with
      |none=>rw[q2] at e;cases e
      |some k=>rw[q2] at e;cases e;rfl
     |_=>cases e
   |_=>cases e
  |dict=>
   intro st a st1 e;cases x with
   |ref n=>
    simp only[lW] at e;show lW .dict (.ref (p.length+n)) (dm p st)=_;simp only[lW,cM];cases q:st[n]? with
    |none=>rw[q] at e;cases e
    |some o=>
     rw[q] at e;cases o with
     |dct kvs=>cases e;simp only[Option.map_some,jZ,kP,kO];rfl
     |_=>cases e
   |_=>cases e
 |[]=>exact λst a st1 e=>by cases e
 |x::_::_=>exact λst a st1 e=>by cases e
theorem qX{ρ:α->β}{c c':Prop}[Decidable c][Decidable c']{m:M α}{m':M β}(hc:c->c')(h:Sm p ρ m m'):Sm p ρ (λst=>if c then m st else .bad) (λst=>if c' then m' st else .bad):=λst a st1 e=>by
 by_cases k:c
 ·simp only[if_pos k] at e;simp only[if_pos (hc k)];exact h st a st1 e
 ·simp only[if_neg k] at e;cases e
theorem yW{f f':List D->M D}(h:∀xs,Sm p (sd p) (f xs) (f' (xs.map (sd p)))):Sm p (sd p) (λst=>match st[n]? with|some (.lst xs)=>f xs st|_=>.bad) (λst=>match st[p.length+n]? with|some (.lst xs)=>f' xs st|_=>.bad):=λst a st1 e=>by
 simp only[cM] at e ⊢;cases q:st[n]? with
 |none=>rw[q] at e;cases e
 |some o=>
  rw[q] at e;cases o with
  |lst xs=>exact h xs st a st1 e
  |_=>cases e
theorem BG{f:Int->Int->M D}(h:∀i j,Sm p (sd p) (f i j) (f i j)){x y:D}:Sm p (sd p) (ii f x y) (ii f (sd p x) (sd p y)):=by
 cases x with
 |int i=>cases y with
  |int j=>exact h i j
  |_=>exact λst a st1 e=>by cases e
 |_=>exact λst a st1 e=>by cases e
noncomputable def CZ:Bo->Bool
 | .sub=>false
 | .fdiv=>false
 |_=>true
theorem y3{op:Bo}(ho:CZ op=true){x y:D}:Sm p (sd p) (cz op x y) (cz op (sd p x) (sd p y)):=by
 cases op with
 |add=>
  cases x with
  |int i=>cases y with
   |int j=>exact λst a st1 e=>by cases e;rfl
   |_=>exact λst a st1 e=>by cases e
  |tup xs=>cases y with
   |tup ys=>
    show Sm p (sd p) _ (cz .add (.tup (fF _ xs)) (.tup (fF _ ys)));rw[bK,bK];cases xs with
    |nil=>exact kH
    |cons z zs=>
     refine qX (by simp) ?_
     have:=kH (p:=p) (xs:=z::zs++ys);rw[List.map_append] at this;exact this
   |_=>exact λst a st1 e=>by cases e
  |ref m=>cases y with
   |ref n=>
    intro st a st1 e;simp only[cz,addD] at e;show cz .add (.ref (p.length+m)) (.ref (p.length+n)) (dm p st)=_;simp only[cz,addD,cM];cases q:st[m]? with
    |none=>rw[q] at e;cases e
    |some o=>
     cases q2:st[n]? with
     |none=>rw[q,q2] at e;cases o<;>cases e
     |some o2=>
      rw[q,q2] at e;cases o with
      |lst as=>cases o2 with
       |lst bs=>simp only[Option.map_some,jZ,List.length_map,<-List.map_append] at e ⊢;exact qX (p:=p) (c':=as.length+bs.length<=1000000) id gR st a st1 e
       |_=>cases e
      |_=>cases o2<;>cases e
   |_=>exact λst a st1 e=>by cases e
  |_=>exact λst a st1 e=>by cases e
 |sub=>cases ho
 |mul=>
  cases x with
  |int i=>cases y with
   |int j=>exact qX id λst a st1 e=>by cases e;rfl
   |_=>exact λst a st1 e=>by cases e
  |tup xs=>cases y with
   |int j=>
    show Sm p (sd p) _ (cz .mul (.tup (fF _ xs)) (.int j));rw[bK];cases xs with
    |nil=>exact λst a st1 e=>by cases e
    |cons z zs=>
     intro st a st1 e;simp only[cz,u4,List.map_cons] at e ⊢;by_cases h1:j=1
     ·rw[if_pos h1] at e ⊢;exact kH (xs:=z::zs) st a st1 e
     ·rw[if_neg h1] at e ⊢;by_cases h0:j=0
      ·rw[if_pos h0] at e ⊢;cases e;rfl
      ·rw[if_neg h0] at e;cases e
   |_=>exact λst a st1 e=>by cases e
  |_=>exact λst a st1 e=>by cases e
 |fdiv=>cases ho
 |mod=>exact BG λi j=>qX id λst a st1 e=>by cases e;rfl
theorem ug{xs:List D}:cutD (xs.map (sd p)) lo hi=(cutD xs lo hi).map (sd p):=by unfold cutD;rw[List.length_map,List.map_take,List.map_drop]
theorem t4{x:D}:Sm p (sd p) (slice x lo hi) (slice (sd p x) lo hi):=by
 have gen:Sm p (sd p) (λst=>match a8 st x with|some xs=>alloc (cutD xs lo hi) st|none=>.bad) (λst=>match a8 st (sd p x) with|some xs=>alloc (cutD xs lo hi) st|none=>.bad):=ng λxs=>by rw[ug];exact gR
 cases x with
 |tup xs=>
  show Sm p (sd p) _ (slice (.tup (fF _ xs)) lo hi);rw[bK];intro st a st1 e;simp only[slice,List.length_map] at e ⊢;by_cases k:HT.dJ xs.length 0 lo=0/\HT.dJ xs.length xs.length hi=xs.length
  ·rw[if_pos k] at e;cases e
  ·rw[if_neg k] at e ⊢;rw[ug];exact kH st a st1 e
 |_=>exact gen
noncomputable def eX(p:aK):Src->Src
 | .its xs=>.its (xs.map (sd p))
 | .at n=>.at (p.length+n)
 | .en n=>.en (p.length+n)
 | .zp x y=>.zp (sd p x) (sd p y)
theorem y7:(cB n).map (sd p)=cB n:=by unfold cB;rw[List.map_map];rfl
theorem ib{rng:Bool}{d:D}{s:Src}(h:c6 rng d=some s):c6 rng (sd p d)=some (eX p s):=by
 cases rng with
 |true=>
  cases d with
  |int j=>
   simp only[c6] at h ⊢;show(if -1000000<=j/\j<=1000000 then some (Src.its (cB j.toNat)) else none)=_
   by_cases k: -1000000<=j/\j<=1000000
   ·rw[if_pos k] at h ⊢;cases h;show some (Src.its _)=some (Src.its _);rw[y7]
   ·rw[if_neg k] at h;cases h
  |_=>cases h
 |false=>
  cases d with
  |tup xs=>cases h;show some (Src.its (fF _ xs))=_;rw[bK];rfl
  |fl xs=>cases h;show some (Src.its (fF _ xs))=_;rw[bK];rfl
  |ref n=>cases h;rfl
  |_=>cases h
theorem oy:∀(xs:List D)(k:Nat),hU k (xs.map (sd p))=(hU k xs).map (sd p)
 |[],k=>rfl
 |x::xs,k=>by simp only[List.map_cons,hU,oy xs (k+1)];rfl
theorem ow{d:D}{s:Src}(h:lE d=some s):lE (sd p d)=some (eX p s):=by
 cases d with
 |ref n=>cases h;rfl
 |tup xs=>cases h;show some (Src.its (hU 0 (fF _ xs)))=_;rw[bK,oy];rfl
 |_=>cases h
theorem wM{x y:D}{s:Src}(h:tq x y=some s):tq (sd p x) (sd p y)=some (eX p s):=by cases h;rfl
theorem uf{s:Src}{st:aK}{o:Option D}(h:fc s i st=some o):fc (eX p s) i (dm p st)=some (o.map (sd p)):=by
 cases s with
 |its xs=>cases h;show some ((xs.map (sd p))[i]?)=_;rw[aX]
 |«at» n=>
  simp only[fc,eX,cM] at h ⊢;cases q:st[n]? with
  |none=>rw[q] at h;cases h
  |some o=>rw[q] at h;cases o with
   |lst xs=>cases h;simp only[Option.map_some,jZ,List.getElem?_map]
   |_=>cases h
 |en n=>
  simp only[fc,eX,cM] at h ⊢;cases q:st[n]? with
  |none=>rw[q] at h;cases h
  |some o=>rw[q] at h;cases o with
   |lst xs=>cases h;simp only[Option.map_some,jZ,List.getElem?_map];cases xs[i]?<;>rfl
   |_=>cases h
 |zp x y=>
  simp only[fc,eX,js] at h ⊢;cases q:a8 st x with
  |none=>rw[q] at h;cases h
  |some xs=>
   cases q2:a8 st y with
   |none=>rw[q,q2] at h;cases h
   |some ys=>rw[q,q2] at h;cases h;simp only[Option.map_some,List.getElem?_map];cases xs[i]?<;>cases ys[i]?<;>rfl
theorem q_{s:Src}{st:aK}:d8 (eX p s) (dm p st)=d8 s st:=by
 cases s with
 |its xs=>exact List.length_map _
 |zp x y=>
  simp only[d8,eX,js];cases a8 st x with
  |none=>rfl
  |some xs=>exact List.length_map _
 |«at» n=>
  simp only[d8,eX,cM];cases st[n]? with
  |none=>rfl
  |some o=>cases o<;>first|rfl|exact List.length_map _
 |en n=>
  simp only[d8,eX,cM];cases st[n]? with
  |none=>rfl
  |some o=>cases o<;>first|rfl|exact List.length_map _
theorem kL{f f':D->M (Option D)}{s:Src}(h:∀x,Sm p (Option.map (sd p)) (f x) (f' (sd p x))):∀k i acc,Sm p (List.map (sd p)) (di f s k i acc) (di f' (eX p s) k i (acc.map (sd p)))
 |0,i,acc=>cu
 |k+1,i,acc=>λst a st1 e=>by
  simp only[di] at e ⊢;cases q:fc s i st with
  |none=>rw[q] at e;cases e
  |some o=>
   rw[uf q];rw[q] at e;cases o with
   |none=>cases e;rfl
   |some x=>
    refine aC (h x) (λo=>?_) st a st1 e;cases o with
    |none=>exact kL h k (i+1) acc
    |some y=>have:=kL (s:=s) h k (i+1) (acc++[y]);rw[List.map_append] at this;exact this
theorem kK{f f':D->M (Option D)}{s:Src}(h:∀x,Sm p (Option.map (sd p)) (f x) (f' (sd p x))):Sm p (sd p) (bX f s) (bX f' (eX p s)):=λst a st1 e=>by
 unfold bX at e ⊢;rw[q_];by_cases k:d8 s st<=1000000
 ·rw[if_pos k] at e ⊢;exact aC (kL h _ 0 []) (λxs=>gR) st a st1 e
 ·rw[if_neg k] at e;cases e
theorem om{f f':D->D->M D}(h:∀x y,Sm p (sd p) (f x y) (f' (sd p x) (sd p y)))(x:D):Sm p (Option.map (sd p)) (pairF f x) (pairF f' (sd p x)):=by
 cases x with
 |tup xs=>
  rcases xs with _|⟨a,_|⟨b,_|⟨c,xs⟩⟩⟩
  ·exact cu
  ·exact cu
  ·exact aC (h a b) λy=>bO rfl
  ·exact cu
 |_=>exact cu
theorem yZ{ics:List Str}{x:D}:Sm p (sd p) (lA f cs ics x) (lA f cs ics (sd p x)):=λst a st1 e=>by
 cases x with
 |ref n=>
  simp only[lA] at e;show lA f cs ics (.ref (p.length+n)) (dm p st)=_;simp only[lA,cM];cases q:st[n]? with
  |none=>rw[q] at e;cases e
  |some o=>
   rw[q] at e;cases o with
   |ins c fs=>
    simp only[Option.map_some,jZ] at e ⊢;rw[mw];cases q2:fs.lookup f with
    |none=>rw[q2] at e;cases e
    |some d=>
     rw[q2] at e;simp only[Option.map_some] at e ⊢;by_cases k:c∈ics
     ·rw[if_pos k] at e ⊢;cases e;rfl
     ·rw[if_neg k] at e;cases e
   |_=>cases e
 |_=>cases e
theorem wF{m:Str}{ms:List (Str×Nat)}{x:D}:Sm p id (iY m ms x) (iY m ms (sd p x)):=λst a st1 e=>by
 cases x with
 |ref n=>
  simp only[iY] at e;show iY m ms (.ref (p.length+n)) (dm p st)=_;simp only[iY,cM];cases q:st[n]? with
  |none=>rw[q] at e;cases e
  |some o=>
   rw[q] at e;cases o with
   |ins c fs=>
    simp only[Option.map_some,jZ] at e ⊢;rw[mw];cases q2:fs.lookup m with
    |some d=>rw[q2] at e;cases ms.lookup c<;>cases e
    |none=>
     rw[q2] at e;cases q3:ms.lookup c with
     |none=>rw[q3] at e;cases e
     |some j=>rw[q3] at e;cases e;rfl
   |_=>cases e
 |_=>cases e
theorem BH{x:D}{q:Key×D}(h:Dj x=some q):Dj (sd p x)=some (q.1,sd p q.2):=by
 cases x with
 |tup xs=>
  rcases xs with _|⟨a,_|⟨b,_|⟨c,xs⟩⟩⟩
  ·cases h
  ·cases h
  ·simp only[Dj,jP,Option.bind_some] at h;show((k9 (sd p a)).map λk=>(k,sd p b))=_;rw[pW];cases q2:k9 a with
   |none=>rw[q2] at h;cases h
   |some k=>rw[q2] at h;cases h;rfl
  ·cases h
 |_=>cases h
theorem ue:∀{xs:List D}{qs:List (Key×D)},nr xs=some qs->nr (xs.map (sd p))=some (qs.map λq=>(q.1,sd p q.2))
 |[],qs,h=>by cases h;rfl
 |x::xs,qs,h=>by simp only[nr] at h;obtain⟨q,h1,h⟩:=bs h;obtain⟨r,h2,rfl⟩:=map_some h;simp only[List.map_cons,nr,BH h1,ue h2];rfl
theorem wO{qs:List (Key×D)}:(iF qs).map (λq=>(q.1,sd p q.2))=iF (qs.map λq=>(q.1,sd p q.2)):=by
 unfold iF
 have:∀(qs acc:List (Key×D)),(qs.foldl (λacc q=>c9 acc q.1 q.2) acc).map (λq=>(q.1,sd p q.2))=(qs.map λq=>(q.1,sd p q.2)).foldl (λacc q=>c9 acc q.1 q.2) (acc.map λq=>(q.1,sd p q.2)):=λqs=>by
  induction qs with
  |nil=>intro acc;rfl
  |cons q r ih=>intro acc;simp only[List.foldl_cons,List.map_cons,ih,ud]
 exact this qs []
theorem t7{x:D}:Sm p (sd p) (lI x) (lI (sd p x)):=by
 cases x with
 |ref n=>
  refine yW (n:=n) λxs st a st1 e=>?_;cases q:nr xs with
  |none=>rw[q] at e;cases e
  |some qs=>rw[q] at e;rw[ue q];cases e;show R.ok (D.ref (dm p st).length) _=_;rw[kP,kO,<-wO];rfl
 |_=>exact λst a st1 e=>by cases e
theorem nj{x:D}{b:Bool}(h:gu x=some b):gu (sd p x)=some b:=by cases x<;>cases h;rfl
theorem zc{x:D}{i:Int}(h:jE x=some i):jE (sd p x)=some i:=by cases x<;>cases h;rfl
end
mutual
noncomputable def wa:D->Bool
 | .tup xs=>iX xs
 | .fl xs=>iX xs
 | .ref _=>false
 |_=>true
noncomputable def iX:List D->Bool
 |[]=>true
 |d::ds=>wa d&&iX ds
end
mutual
theorem kY(n:Nat):∀d,wa d=true->nX n d=d
 | .tup xs,h=>by rw[nX,nB n xs h]
 | .fl xs,h=>by rw[nX,nB n xs h]
 | .ref _,h=>by cases h
 | .non,_=>rfl
 | .bl _,_=>rfl
 | .int _,_=>rfl
 | .str _,_=>rfl
theorem nB(n:Nat):∀xs,iX xs=true->fF n xs=xs
 |[],_=>rfl
 |d::ds,h=>by simp only[iX,Bool.and_eq_true] at h;rw[fF,kY n d h.1,nB n ds h.2]
end
mutual
noncomputable def bI:Ex->Bool
 | .c d=>wa d
 | .v _=>true
 | .tup es=>jS es
 | .lst es=>jS es
 | .emp=>true
 | .bin o a b=>bI a&&bI b&&CZ o
 | .neg _=>false
 | .not a=>bI a
 | .and a b=>bI a&&bI b
 | .or a b=>bI a&&bI b
 | .cmp o a b=>bI a&&bI b&&CU o
 | .chain _ _ _ _ _=>false
 | .ix a b=>bI a&&bI b
 | .sl a lo hi _ _=>bI a&&bI lo&&bI hi
 | .fn _ args=>jS args
 | .bt _ args=>jS args
 | .isi a _=>bI a
 | .comp _ s e=>bI s&&bI e
 | .ite c a b=>bI c&&bI a&&bI b
 | .compE s e=>bI s&&bI e
 | .dict _ _=>false
 | .pop o _=>bI o
 | .fld a _ _ _=>bI a
 | .new _ _ args=>jS args
 | .meth o _ _ args=>bI o&&jS args
 | .lrev _=>false
 | .compU s e=>bI s&&bI e
 | .compZ _ _ _=>false
 | .dictP a=>bI a
 | .inG _ _=>false
 | .rv _=>false
 | .comp2 _ _ _=>false
 | .ixG kvs a=>bI a&&iX (kvs.map (·.2))
noncomputable def jS:List Ex->Bool
 |[]=>true
 |e::es=>bI e&&jS es
end
theorem yC:∀{kvs:List (Str×D)}{s:Str}{d:D},iX (kvs.map (·.2))=true->kvs.lookup s=some d->wa d=true
 |(a,b)::r,s,d,h,e=>by
  simp only[List.map_cons,iX,Bool.and_eq_true] at h;simp only[List.lookup_cons] at e;cases q:s==a with
  |true=>rw[q] at e;cases e;exact h.1
  |false=>rw[q] at e;exact yC h.2 e
theorem y8{p:aK}{kvs:List (Str×D)}{x y:D}(hk:iX (kvs.map (·.2))=true)(h:ve kvs x=some y):ve kvs (sd p x)=some (sd p y):=by
 cases x with
 |str s=>have h:kvs.lookup s=some y:=h;show kvs.lookup s=_;rw[h,show sd p y=y from kY _ y (yC hk h)]
 |_=>cases h
noncomputable def Di(p:aK):Rs->Rs
 | .v d=>.v (sd p d)
 | .x n=>.x (p.length+n)
noncomputable abbrev lU(p:aK)(loc:Loc):Loc:=loc.map (Option.map (sd p))
section
variable{p:aK}{g g':eB}
noncomputable abbrev A2(p:aK)(g g':eB):Prop:=∀f ds,Sm p (Di p) (g f ds) (g' f (ds.map (sd p)))
theorem tZ{r:Rs}:Sm p (sd p) (dL r.val?) (dL (Di p r).val?):=dk λa h=>by cases r<;>cases h;rfl
theorem t5(hg:A2 p g g'){f:Nat}{ds:List D}:Sm p (sd p) (mC g x f ds) (mC g' x f (ds.map (sd p))):=λst a st1 e=>by
 unfold mC at e ⊢;rw[kP,show dm p st++[O.ins x []]=dm p (st++[O.ins x []]) from(kO (o:= .ins x [])).symm];refine aC (hg f (.ref st.length::ds)) (λr=>?_) _ a st1 e;cases r with
 |x n=>exact cu
 |v d=>cases d<;>first|exact cu|exact bO rfl
theorem qW{b:Bool}{m m':M D}(h:Sm p (sd p) m m'):Sm p id (if b then aZ m λz=>aZ (dL (jE z)) λi=>ret (some i) else ret none) (if b then aZ m' λz=>aZ (dL (jE z)) λi=>ret (some i) else ret none):=by
 cases b with
 |false=>exact bO rfl
 |true=>exact aC h λz=>aC (ρ:=id) (dk λi e=>zc e) λi=>bO rfl
theorem iU{x:D}{m m':Bool->M D}(h:∀b,Sm p (sd p) (m b) (m' b)):Sm p (sd p) (aZ (dL (gu x)) m) (aZ (dL (gu (sd p x))) m'):=aC (ρ:=id) (dk λb e=>nj e) h
theorem kJ{ρ:α->β}{b:Bool}{m n:M α}{m' n':M β}(h:Sm p ρ m m')(k:Sm p ρ n n'):Sm p ρ (if b then m else n) (if b then m' else n'):=by cases b<;>assumption
theorem pC{a b:Bool}(h:(a&&b)=true):a=true/\b=true:=by simpa using h
theorem AR{a b c:Bool}(h:(a&&b&&c)=true):(a=true/\b=true)/\c=true:=by simpa using h
mutual
theorem aY(hg:A2 p g g'):∀(e:Ex)(loc:Loc),bI e=true->Sm p (sd p) (run g e loc) (run g' e (lU p loc))
 | .c d,loc,h=>by rw[run,run];exact bO (kY _ d h).symm
 | .v i,loc,h=>by
  rw[run,run];refine dk λa e=>?_;rw[aX];cases q:loc[i]? with
  |none=>rw[q] at e;cases e
  |some o=>rw[q] at e;cases o<;>cases e;rfl
 | .tup es,loc,h=>by rw[run,run];exact aC (fT hg es loc h) λds=>bO (by show D.tup _=D.tup (fF _ ds);rw[bK])
 | .lst es,loc,h=>by rw[run,run];exact aC (fT hg es loc h) λds=>gR
 | .emp,loc,h=>by rw[run,run];exact su
 | .bin op a b,loc,h=>by have h:=AR h;rw[run,run];exact aC (aY hg a loc h.1.1) λx=>aC (aY hg b loc h.1.2) λy=>y3 h.2
 | .neg _,loc,h=>by cases h
 | .not a,loc,h=>by rw[run,run];exact aC (aY hg a loc h) λx=>iU λb=>bO rfl
 | .and a b,loc,h=>by have h:=pC h;rw[run,run];exact aC (aY hg a loc h.1) λx=>iU λk=>kJ (aY hg b loc h.2) (bO rfl)
 | .or a b,loc,h=>by have h:=pC h;rw[run,run];exact aC (aY hg a loc h.1) λx=>iU λk=>kJ (bO rfl) (aY hg b loc h.2)
 | .cmp op a b,loc,h=>by have h:=AR h;rw[run,run];exact aC (aY hg a loc h.1.1) λx=>aC (aY hg b loc h.1.2) λy=>y0 h.2
 | .chain _ _ _ _ _,loc,h=>by cases h
 | .ix a b,loc,h=>by have h:=pC h;rw[run,run];exact aC (aY hg a loc h.1) λx=>aC (aY hg b loc h.2) λy=>t6
 | .sl a lo hi hl hh,loc,h=>by have h:=AR h;rw[run,run];exact aC (aY hg a loc h.1.1) λx=>aC (qW (aY hg lo loc h.1.2)) λl=>aC (qW (aY hg hi loc h.2)) λu=>t4
 | .fn f args,loc,h=>by rw[run,run];exact aC (fT hg args loc h) λds=>aC (hg f ds) λr=>tZ
 | .bt f args,loc,h=>by rw[run,run];exact aC (fT hg args loc h) λds=>wH
 | .isi a t,loc,h=>by rw[run,run];exact aC (aY hg a loc h) λx=>yY
 | .comp rng s e,loc,h=>by have h:=pC h;rw[run,run];exact aC (aY hg s loc h.1) λd=>aC (dk λs e=>ib e) λs=>kK λx=>aC (aY hg e (some x::loc) h.2) λy=>bO rfl
 | .ite c a b,loc,h=>by have h:=AR h;rw[run,run];exact aC (aY hg c loc h.1.1) λx=>iU λk=>kJ (aY hg a loc h.1.2) (aY hg b loc h.2)
 | .compE s e,loc,h=>by have h:=pC h;rw[run,run];exact aC (aY hg s loc h.1) λd=>aC (dk λs e=>ow e) λs=>kK (om (f:=λa b=>run g e (some a::some b::loc)) (f':=λa b=>run g' e (some a::some b::lU p loc)) λx y=>aY hg e (some x::some y::loc) h.2)
 | .dict _ _,loc,h=>by cases h
 | .pop o fr,loc,h=>by rw[run,run];exact aC (aY hg o loc h) λx=>yV
 | .fld a f cs ics,loc,h=>by rw[run,run];exact aC (aY hg a loc h) λx=>yZ
 | .new x f args,loc,h=>by rw[run,run];exact aC (fT hg args loc h) λds=>t5 hg
 | .meth o m ms args,loc,h=>by have h:=pC h;rw[run,run];exact aC (aY hg o loc h.1) λx=>aC wF λj=>aC (fT hg args loc h.2) λds=>aC (hg j (x::ds)) λr=>tZ
 | .lrev _,loc,h=>by cases h
 | .compU s e,loc,h=>by have h:=pC h;rw[run,run];exact aC (aY hg s loc h.1) λd=>aC (dk λs e=>ib e) λs=>kK (om λx y=>aY hg e (some x::some y::loc) h.2)
 | .compZ _ _ _,loc,h=>by cases h
 | .dictP a,loc,h=>by rw[run,run];exact aC (aY hg a loc h) λx=>t7
 | .inG _ _,loc,h=>by cases h
 | .rv _,loc,h=>by cases h
 | .comp2 _ _ _,loc,h=>by cases h
 | .ixG kvs a,loc,h=>by have h:=pC h;rw[run,run];exact aC (aY hg a loc h.1) λx=>dk λy e=>y8 h.2 e
theorem fT(hg:A2 p g g'):∀(es:List Ex)(loc:Loc),jS es=true->Sm p (List.map (sd p)) (runs g es loc) (runs g' es (lU p loc))
 |[],loc,h=>by rw[runs,runs];exact bO rfl
 |e::es,loc,h=>by have h:=pC h;rw[runs,runs];exact aC (aY hg e loc h.1) λd=>aC (fT hg es loc h.2) λds=>bO rfl
end
theorem pU{o i v:D}:Sm p id (dS o i v) (dS (sd p o) (sd p i) (sd p v)):=λst a st1 e=>by
 cases o with
 |ref n=>
  simp only[dS] at e;show dS (.ref (p.length+n)) (sd p i) (sd p v) (dm p st)=_;simp only[dS,cM];cases q:st[n]? with
  |none=>rw[q] at e;cases e
  |some o=>
   rw[q] at e;cases o with
   |lst xs=>
    cases i with
    |int k=>
     simp only[Option.map_some,jZ,sd,nX,List.length_map] at e ⊢;cases q2:sN xs.length k with
     |none=>rw[q2] at e;cases e
     |some j=>rw[q2] at e;cases e;simp only[iK,jZ,List.map_set]
    |_=>cases e
   |dct kvs=>
    simp only[Option.map_some,jZ] at e ⊢;rw[pW];cases q2:k9 i with
    |none=>rw[q2] at e;cases e
    |some j=>
     rw[q2] at e;simp only[List.length_map] at e ⊢;by_cases k:kvs.length<1000000
     ·rw[if_pos k] at e ⊢;cases e;rw[iK];show _=R.ok () (List.set _ _ (O.dct ((c9 kvs j v).map λq=>(q.1,sd p q.2))));rw[ud]
     ·rw[if_neg k] at e;cases e
   |_=>cases e
 |_=>cases e
theorem sr{o v:D}:Sm p id (append o v) (append (sd p o) (sd p v)):=λst a st1 e=>by
 cases o with
 |ref n=>
  simp only[append] at e;show append (.ref (p.length+n)) (sd p v) (dm p st)=_;simp only[append,cM];cases q:st[n]? with
  |none=>rw[q] at e;cases e
  |some o=>
   rw[q] at e;cases o with
   |lst xs=>
    simp only[Option.map_some,jZ,List.length_map] at e ⊢;by_cases k:xs.length<1000000
    ·rw[if_pos k] at e ⊢;cases e;rw[iK,jZ,List.map_append];rfl
    ·rw[if_neg k] at e;cases e
   |_=>cases e
 |_=>cases e
theorem sq{o v:D}:Sm p id (extend o v) (extend (sd p o) (sd p v)):=λst a st1 e=>by
 cases o with
 |ref n=>cases v with
  |ref m=>
   simp only[extend] at e;show extend (.ref (p.length+n)) (.ref (p.length+m)) (dm p st)=_;simp only[extend,cM];cases q:st[n]? with
   |none=>rw[q] at e;cases e
   |some o=>
    cases q2:st[m]? with
    |none=>rw[q,q2] at e;cases o<;>cases e
    |some o2=>
     rw[q,q2] at e;cases o with
     |lst as=>cases o2 with
      |lst bs=>
       simp only[Option.map_some,jZ,List.length_map,<-List.map_append] at e ⊢;by_cases k:as.length+bs.length<=10000000
       ·rw[if_pos k] at e ⊢;cases e;rw[iK];rfl
       ·rw[if_neg k] at e;cases e
      |_=>cases e
     |_=>cases o2<;>cases e
  |tup ys=>
   show extend (.ref (p.length+n)) (.tup (fF _ ys)) (dm p st)=_;rw[bK];simp only[extend,cM] at e ⊢;cases q:st[n]? with
   |none=>rw[q] at e;cases e
   |some o=>
    rw[q] at e;cases o with
    |lst as=>
     simp only[Option.map_some,jZ,List.length_map,<-List.map_append] at e ⊢;by_cases k:as.length+ys.length<=10000000
     ·rw[if_pos k] at e ⊢;cases e;rw[iK];rfl
     ·rw[if_neg k] at e;cases e
    |_=>cases e
  |_=>cases e
 |_=>cases v<;>cases e
theorem wI{x y:D}:Sm p (sd p) (qE x y) (qE (sd p x) (sd p y)):=λst a st1 e=>by
 cases x with
 |int i=>cases y with
  |int j=>cases e;rfl
  |_=>cases e
 |_=>cases e
theorem wE{ics:List Str}{o v:D}:Sm p id (fg cs ics o f v) (fg cs ics (sd p o) f (sd p v)):=λst a st1 e=>by
 cases o with
 |ref n=>
  simp only[fg] at e;show fg cs ics (.ref (p.length+n)) f (sd p v) (dm p st)=_;simp only[fg,cM];cases q:st[n]? with
  |none=>rw[q] at e;cases e
  |some o=>
   rw[q] at e;cases o with
   |ins c fs=>
    simp only[Option.map_some,jZ,List.length_map] at e ⊢;by_cases k:fs.length<900/\c∈ics
    ·rw[if_pos k] at e ⊢;cases e;rw[iK];show _=R.ok () (List.set _ _ (O.ins c ((putD f v fs).map λq=>(q.1,sd p q.2))));rw[wN]
    ·rw[if_neg k] at e;cases e
   |_=>cases e
 |_=>cases e
noncomputable def wP(p:aK):Fl->Fl
 | .nx loc=>.nx (lU p loc)
 | .rt d=>.rt (sd p d)
 | .ex n l=>.ex (p.length+n) (lU p l)
theorem j_{loc:Loc}{d:D}:lU p (loc.set i (some d))=(lU p loc).set i (some (sd p d)):=by unfold lU;rw[List.map_set];rfl
theorem j9:∀(is:List Nat)(ds:List D)(loc:Loc),lU p (cV is ds loc)=cV is (ds.map (sd p)) (lU p loc)
 |[],_,_=>by simp[cV]
 |_::_,[],_=>by simp[cV]
 |i::is,d::ds,loc=>by rw[cV,j9 is ds,j_];rfl
theorem kI{d:D}:Sm p (List.map (sd p)) (items? n d) (items? n (sd p d)):=λst a st1 e=>by
 unfold items? at e ⊢;rw[js];cases q:a8 st d with
 |none=>rw[q] at e;cases e
 |some xs=>
  rw[q] at e;simp only[Option.map_some,List.length_map] at e ⊢;by_cases k:xs.length=n
  ·rw[if_pos k] at e ⊢;cases e;rfl
  ·rw[if_neg k] at e;cases e
theorem qY{f f':D->Loc->M Fl}{s:Src}(h:∀x loc,Sm p (wP p) (f x loc) (f' (sd p x) (lU p loc))):∀k i loc,Sm p (wP p) (eg f s k i loc) (eg f' (eX p s) k i (lU p loc))
 |0,i,loc=>cu
 |k+1,i,loc=>λst a st1 e=>by
  simp only[eg] at e ⊢;cases q:fc s i st with
  |none=>rw[q] at e;cases e
  |some o=>
   rw[uf q];rw[q] at e;cases o with
   |none=>cases e;rfl
   |some x=>
    refine aC (h x loc) (λr=>?_) st a st1 e;cases r with
    |nx loc'=>exact qY h k (i+1) loc'
    |rt d=>exact bO rfl
    |ex n l=>exact bO rfl
theorem j8{f f':D->Loc->M Fl}{s:Src}(h:∀x loc,Sm p (wP p) (f x loc) (f' (sd p x) (lU p loc))){loc:Loc}:Sm p (wP p) (eG f s loc) (eG f' (eX p s) (lU p loc)):=λst a st1 e=>by unfold eG at e ⊢;rw[q_];exact qY h _ 0 loc st a st1 e
theorem mv{c c':Loc->M D}{f f':Loc->M Fl}(hc:∀loc,Sm p (sd p) (c loc) (c' (lU p loc)))(h:∀loc,Sm p (wP p) (f loc) (f' (lU p loc))):∀k loc,Sm p (wP p) (dM c f k loc) (dM c' f' k (lU p loc))
 |0,loc=>cu
 |k+1,loc=>by
  unfold dM;refine aC (hc loc) λx=>aC (ρ:=id) (dk λb e=>nj e) λb=>kJ (aC (h loc) λr=>?_) (bO rfl);cases r with
  |nx loc'=>exact mv hc h k loc'
  |rt d=>exact bO rfl
  |ex n l=>exact bO rfl
mutual
noncomputable def EB:S->Bool
 | .set _ e=>bI e
 | .setix o i e=>bI o&&bI i&&bI e
 | .ret e=>bI e
 | .ret0=>false
 | .ex e=>bI e
 | .app o e=>bI o&&bI e
 | .pass=>false
 | .ite c a b=>bI c&&kG a&&kG b
 | .for_ _ _ s b=>bI s&&kG b
 | .whil c b=>bI c&&kG b
 | .forE _ s b=>bI s&&kG b
 | .setf o _ e _ _=>bI o&&bI e
 | .augf _ _ _ _=>false
 | .aug _ e=>bI e
 | .ext o e=>bI o&&bI e
 | .forU _ s b=>bI s&&kG b
 | .unp _ _=>false
 | .clr _=>false
 | .tryE _ _=>false
 | .forZ _ a c b=>bI a&&bI c&&kG b
 | .stop=>true
noncomputable def kG:List S->Bool
 |[]=>true
 |s::ss=>EB s&&kG ss
end
theorem jN{loc loc':Loc}(h:loc'=lU p loc):Sm p (wP p) (ret (.nx loc)) (ret (.nx loc')):=bO (by rw[h];rfl)
mutual
theorem wG(hg:A2 p g g'):∀(s:S)(loc:Loc),EB s=true->Sm p (wP p) (exec g s loc) (exec g' s (lU p loc))
 | .set i e,loc,h=>by rw[exec,exec];exact aC (aY hg e loc h) λd=>jN j_.symm
 | .setix o i e,loc,h=>by have h:=AR h;rw[exec,exec];exact aC (aY hg e loc h.2) λd=>aC (aY hg o loc h.1.1) λx=>aC (aY hg i loc h.1.2) λk=>aC pU λ_=>jN rfl
 | .ret e,loc,h=>by rw[exec,exec];exact aC (aY hg e loc h) λd=>bO rfl
 | .ret0,loc,h=>by cases h
 | .ex e,loc,h=>by rw[exec,exec];exact aC (aY hg e loc h) λd=>jN rfl
 | .app o e,loc,h=>by have h:=pC h;rw[exec,exec];exact aC (aY hg o loc h.1) λx=>aC oo λ_=>aC (aY hg e loc h.2) λd=>aC sr λ_=>jN rfl
 | .pass,loc,h=>by cases h
 | .ite c a b,loc,h=>by have h:=AR h;rw[exec,exec];exact aC (aY hg c loc h.1.1) λx=>aC (ρ:=id) (dk λb e=>nj e) λk=>kJ (dl hg a loc h.1.2) (dl hg b loc h.2)
 | .for_ i rng s b,loc,h=>by have h:=pC h;rw[exec,exec];refine aC (aY hg s loc h.1) λd=>aC (dk λs e=>ib e) λs=>j8 λx loc'=>?_;have:=dl hg b (loc'.set i (some x)) h.2;rw[j_] at this;exact this
 | .whil c b,loc,h=>by have h:=pC h;rw[exec,exec];exact mv (λl=>aY hg c l h.1) (λl=>dl hg b l h.2) o6 loc
 | .forE is s b,loc,h=>by have h:=pC h;rw[exec,exec];refine aC (aY hg s loc h.1) λd=>aC (dk λs e=>ow e) λs=>j8 λx loc'=>aC kI λds=>?_;have:=dl hg b (cV is ds loc') h.2;rw[j9] at this;exact this
 | .setf o f e cs ics,loc,h=>by have h:=pC h;rw[exec,exec];exact aC (aY hg e loc h.2) λd=>aC (aY hg o loc h.1) λx=>aC wE λ_=>jN rfl
 | .augf _ _ _ _,loc,h=>by cases h
 | .aug i e,loc,h=>by rw[exec,exec];exact aC (aY hg (.v i) loc rfl) λx=>aC (aY hg e loc h) λy=>aC wI λz=>jN j_.symm
 | .ext o e,loc,h=>by have h:=pC h;rw[exec,exec];exact aC (aY hg o loc h.1) λx=>aC oo λ_=>aC (aY hg e loc h.2) λd=>aC sq λ_=>jN rfl
 | .forU is s b,loc,h=>by have h:=pC h;rw[exec,exec];refine aC (aY hg s loc h.1) λd=>aC (dk λs e=>ib e) λs=>j8 λx loc'=>aC kI λds=>?_;have:=dl hg b (cV is ds loc') h.2;rw[j9] at this;exact this
 | .unp _ _,loc,h=>by cases h
 | .clr _,loc,h=>by cases h
 | .tryE _ _,loc,h=>by cases h
 | .forZ is a c b,loc,h=>by have h:=AR h;rw[exec,exec];refine aC (aY hg a loc h.1.1) λd=>aC (aY hg c loc h.1.2) λd2=>aC (dk λs e=>wM e) λs=>j8 λx loc'=>aC kI λds=>?_;have:=dl hg b (cV is ds loc') h.2;rw[j9] at this;exact this
 | .stop,loc,h=>by rw[exec];exact cu
theorem dl(hg:A2 p g g'):∀(ss:List S)(loc:Loc),kG ss=true->Sm p (wP p) (execs g ss loc) (execs g' ss (lU p loc))
 |[],loc,h=>by rw[execs,execs];exact jN rfl
 |s::ss,loc,h=>by
  have h:=pC h;rw[execs,execs];refine aC (wG hg s loc h.1) λr=>?_;cases r with
  |nx loc'=>exact dl hg ss loc' h.2
  |rt d=>exact bO rfl
  |ex n l=>exact bO rfl
end
noncomputable def xt(f:Fn):Fn:=if kG f.body then f else⟨f.ar,f.nl,[.stop]⟩
theorem oq{tab:List Fn}:∀k,A2 p (calls (tab.map xt) k) (calls tab k)
 |0,f,ds=>cu
 |k+1,f,ds=>by
  unfold calls;rw[aX];cases q:tab[f]? with
  |none=>exact cu
  |some fn=>
   show Sm p (Di p) (jV (calls (tab.map xt) k) (xt fn) ds) (jV (calls tab k) fn (ds.map (sd p)));cases h:kG fn.body with
   |false=>
    rw[show xt fn=⟨fn.ar,fn.nl,[.stop]⟩ from by unfold xt;rw[h];rfl]
    intro st a st1 e;unfold jV at e;by_cases q:ds.length=fn.ar
    ·rw[if_pos q] at e;cases e
    ·rw[if_neg q] at e;cases e
   |true=>
    rw[show xt fn=fn from by unfold xt;rw[h];rfl]
    unfold jV;rw[List.length_map];by_cases e:ds.length=fn.ar
    ·rw[if_pos e,if_pos e];have:=dl (oq (tab:=tab) k) fn.body (ds.map some++List.replicate (fn.nl - ds.length) none) h
     have e2:lU p (ds.map some++List.replicate (fn.nl - ds.length) none)=(ds.map (sd p)).map some++List.replicate (fn.nl - ds.length) none:=by unfold lU;rw[List.map_append,List.map_map,List.map_replicate,List.map_map];rfl
     rw[e2] at this;refine aC this λr=>?_;cases r with
     |nx _=>exact bO rfl
     |rt d=>exact bO rfl
     |ex n _=>exact bO rfl
    ·rw[if_neg e];exact cu
theorem gn{tab:List Fn}{k f:Nat}{ds:List D}{r:Rs}{st1:aK}(hd:iX ds=true)(e:calls (tab.map xt) k f ds []=.ok r st1)(p:aK):calls tab k f ds p=.ok (Di p r) (p++st1.map (jZ p.length)):=by
 have:=oq (p:=p) k f ds [] r st1 e;rw[<-bK,nB _ ds hd] at this;have z:dm p []=p:=by simp[dm]
 rw[z] at this;exact this
end
local macro_rules| `(tactic|walk_at "ev1")=> `(tactic|with_reducible first
 |refine aO ?_|(refine av (by with_unfolding_all rfl) ?_)|refine ba ?_|refine gp ?_|refine w_emp ?_|refine bR ?_|refine iR ?_|refine w_not ?_|refine w_and ?_|refine w_or ?_|refine bf ?_|refine qN ?_|refine aW ?_|refine w_slTo ?_|refine w_slFrom ?_
 |refine mo ?_|refine bW ?_|refine dN ?_|refine tH ?_|refine yg ?_|refine pJ ?_|refine w_compIf ?_|refine ah ?_|refine ab ?_|refine mr ?_|refine w_eltIf ?_
 |refine am ?_|refine bB ?_|refine qH ?_|refine cL ?_|refine m4 ?_|refine cf ?_|refine ff ?_|refine w_pass ?_|refine bu ?_|refine bi ?_|refine fi ?_|refine bg ?_|refine cA ?_|refine mE ?_|refine vb ?_
 |refine w_add ?_|refine w_sub ?_|refine fL ?_|refine tF ?_|refine w_lt ?_|refine wm ?_|refine sj ?_|refine w_ge ?_|refine gM ?_|refine yO ?_|refine w_listT ?_|refine w_tupleT ?_|refine w_intB ?_|refine w_max ?_|refine w_min ?_|refine w_abs ?_
 |(refine w_mul (by omega) ?_)|(refine w_mod (by omega) ?_)|(refine gP (by omega) ?_)|(refine w_pow (by decide) ?_)|(refine aU (by with_unfolding_all rfl) ?_))
local macro_rules| `(tactic|walk_at "ev")=> `(tactic|repeat (walk_at "ev1"))
namespace K17
variable{st st' st1:aK}{N j l n p t w:Nat}{e e1 e2:Ex}{Q:Fl->aK->Prop}{loc:Loc}{g:eB}{c d ex gv kd kd2 kd3 rows u v val2 x y:D}{f o s z:Str}{br ss:List S}{B i i1 i2 i3:Int}{bot es ps' rs xs ys:List D}{is:List Nat}
noncomputable abbrev qj:Nat:=0
noncomputable def gc:Fn:=⟨1,1,[.ret (.and (.isi (.v 0) .int) (.not (.isi (.v 0) .bool)))]⟩
noncomputable def ge:Fn:=⟨1,1,[.ret (.isi (.v 0) .bool)]⟩
noncomputable def f8:Fn:=⟨1,1,[.ite (.cmp .Eq (.ix (.v 0) (.c (.int (0)))) (.c (.str "row"))) [.ret (.comp true (.ix (.v 0) (.c (.int (1)))) (.c (.tup [.str "num"])))] [],.ite (.cmp .Eq (.ix (.v 0) (.c (.int (0)))) (.c (.str "record"))) [.ret (.bt .list [(.ix (.v 0) (.c (.int (1))))])] [],.ret (.lst [])]⟩
noncomputable abbrev qk:Nat:=3
noncomputable def gd:Fn:=⟨2,3,[.ite (.cmp .Eq (.v 1) (.c (.tup [.str "num"]))) [.ret (.fn 0 [(.v 0)])] [],.ite (.cmp .Eq (.v 1) (.c (.tup [.str "truth"]))) [.ret (.fn 1 [(.v 0)])] [],.set 2 (.fn 2 [(.v 1)]),.ite (.or (.not (.isi (.v 0) .tuple)) (.cmp .NotEq (.bt .len [(.v 0)]) (.bt .len [(.v 2)]))) [.ret (.c (.bl false))] [],.ret (.bt .all [(.compE (.v 2) (.fn 3 [(.ix (.v 2) (.v 0)),(.v 1)]))])]⟩
noncomputable abbrev i5:Nat:=4
noncomputable def ja:Fn:=⟨1,1,[.ite (.isi (.v 0) .bool) [.ret (.tup [(.c (.str "truth")),(.v 0)])] [],.ite (.isi (.v 0) .int) [.ret (.tup [(.c (.str "num")),(.v 0)])] [],.ret (.bt .tuple [(.comp false (.v 0) (.fn 4 [(.v 0)]))])]⟩
noncomputable abbrev lj:Nat:=5
noncomputable def gf:Fn:=⟨1,1,[.ret (.cmp .In (.v 0) (.c (.tup [.str "mul",.str "div",.str "mod",.str "pick",.str "lay"])))]⟩
noncomputable abbrev cC:Nat:=6
noncomputable def f7:Fn:=⟨3,3,[.ite (.fn 5 [(.v 0)]) [.ret (.fn 9 [(.v 0),(.v 2)])] [],.ite (.cmp .Eq (.v 0) (.c (.str "make"))) [.ret (.bt .tuple [(.v 2)])] [],.ite (.cmp .Eq (.v 0) (.c (.str "get"))) [.ret (.ix (.ix (.v 2) (.c (.int (0)))) (.v 1))] [],.ite (.cmp .Eq (.v 0) (.c (.str "put"))) [.ret (.fn 12 [(.ix (.v 2) (.c (.int (0)))),(.v 1),(.ix (.v 2) (.c (.int (1))))])] [],.ite (.cmp .Eq (.bt .len [(.v 2)]) (.c (.int (1)))) [.ret (.fn 7 [(.v 0),(.ix (.v 2) (.c (.int (0))))])] [],.ret (.fn 8 [(.v 0),(.ix (.v 2) (.c (.int (0)))),(.ix (.v 2) (.c (.int (1))))])]⟩
noncomputable abbrev vp:Nat:=7
noncomputable def jd:Fn:=⟨2,2,[.ite (.cmp .Eq (.v 0) (.c (.str "neg"))) [.ret (.bin .sub (.c (.int (0))) (.v 1))] [],.ite (.cmp .Eq (.v 0) (.c (.str "not"))) [.ret (.not (.v 1))] [],.ret (.v 1)]⟩
noncomputable abbrev eY:Nat:=8
noncomputable def jc:Fn:=⟨3,3,[.ite (.cmp .Eq (.v 0) (.c (.str "add"))) [.ret (.bin .add (.v 1) (.v 2))] [],.ite (.cmp .Eq (.v 0) (.c (.str "sub"))) [.ret (.bin .sub (.v 1) (.v 2))] [],.ite (.cmp .Eq (.v 0) (.c (.str "less"))) [.ret (.cmp .Lt (.v 1) (.v 2))] [],.ite (.cmp .Eq (.v 0) (.c (.str "same"))) [.ret (.cmp .Eq (.v 1) (.v 2))] [],.ite (.cmp .Eq (.v 0) (.c (.str "and"))) [.ret (.and (.v 1) (.v 2))] [],.ret (.or (.v 1) (.v 2))]⟩
noncomputable abbrev vo:Nat:=9
noncomputable def jb:Fn:=⟨2,2,[.ite (.cmp .Eq (.v 0) (.c (.str "mul"))) [.ret (.fn 10 [(.ix (.v 1) (.c (.int (0)))),(.ix (.v 1) (.c (.int (1))))])] [],.ite (.cmp .Eq (.v 0) (.c (.str "pick"))) [.ex (.fn 11 [(.ix (.v 1) (.c (.int (0)))),(.ix (.v 1) (.c (.int (1))))]),.ret (.ix (.ix (.v 1) (.c (.int (0)))) (.ix (.v 1) (.c (.int (1)))))] [],.ite (.cmp .Eq (.v 0) (.c (.str "lay"))) [.ex (.fn 11 [(.ix (.v 1) (.c (.int (0)))),(.ix (.v 1) (.c (.int (1))))]),.ret (.fn 12 [(.ix (.v 1) (.c (.int (0)))),(.ix (.v 1) (.c (.int (1)))),(.ix (.v 1) (.c (.int (2))))])] [],.ite (.cmp .Eq (.ix (.v 1) (.c (.int (1)))) (.c (.int (0)))) [.stop] [],.ret (.ite (.cmp .Eq (.v 0) (.c (.str "div"))) (.bin .fdiv (.ix (.v 1) (.c (.int (0)))) (.ix (.v 1) (.c (.int (1))))) (.bin .mod (.ix (.v 1) (.c (.int (0)))) (.ix (.v 1) (.c (.int (1))))))]⟩
noncomputable def ik:Fn:=⟨2,3,[.set 2 (.bin .mul (.v 0) (.v 1)),.stop,.ret (.v 2)]⟩
noncomputable abbrev i7:Nat:=11
noncomputable def eL:Fn:=⟨2,2,[.ite (.not (.chain .LtE .Lt (.c (.int (0))) (.v 1) (.bt .len [(.v 0)]))) [.stop] []]⟩
noncomputable abbrev lh:Nat:=12
noncomputable def f6:Fn:=⟨3,3,[.ret (.bin .add (.bin .add (.sl (.v 0) (.v 1) (.v 1) false true) (.tup [(.v 2)])) (.sl (.v 0) (.bin .add (.v 1) (.c (.int (1)))) (.bin .add (.v 1) (.c (.int (1)))) true false))]⟩
noncomputable abbrev i6:Nat:=13
noncomputable def eK:Fn:=⟨3,5,[.ex (.fn 14 [(.bt .len [(.v 0)]),(.v 1)]),.forE [3,4] (.v 0) [.ite (.not (.fn 3 [(.ix (.v 1) (.v 3)),(.v 4)])) [.stop] []],.ex (.fn 15 [(.v 2)])]⟩
noncomputable def dB:Fn:=⟨2,2,[.ite (.or (.not (.isi (.v 1) .list)) (.cmp .NotEq (.bt .len [(.v 1)]) (.v 0))) [.stop] []]⟩
noncomputable abbrev md:Nat:=15
noncomputable def dX:Fn:=⟨1,1,[.ite (.or (.not (.fn 0 [(.v 0)])) (.not (.chain .LtE .LtE (.c (.int (0))) (.v 0) (.c (.int (10000)))))) [.stop] []]⟩
noncomputable def f9:Fn:=⟨1,2,[.set 1 (.ix (.v 0) (.c (.int (0)))),.ite (.cmp .In (.v 1) (.tup [(.c (.str "num")),(.c (.str "truth")),(.c (.str "name")),(.c (.str "raise"))])) [.ret (.lst [])] [],.ite (.cmp .In (.v 1) (.tup [(.c (.str "log")),(.c (.str "do")),(.c (.str "return")),(.c (.str "field"))])) [.ret (.lst [(.ix (.v 0) (.c (.int (1))))])] [],.ite (.cmp .In (.v 1) (.tup [(.c (.str "one")),(.c (.str "let")),(.c (.str "set"))])) [.ret (.lst [(.ix (.v 0) (.c (.int (2))))])] [],.ite (.cmp .Eq (.v 1) (.c (.str "setfield"))) [.ret (.lst [(.ix (.v 0) (.c (.int (3))))])] [],.ite (.cmp .Eq (.v 1) (.c (.str "index"))) [.ret (.lst [(.ix (.v 0) (.c (.int (1)))),(.ix (.v 0) (.c (.int (2))))])] [],.ite (.cmp .In (.v 1) (.tup [(.c (.str "two")),(.c (.str "setat"))])) [.ret (.lst [(.ix (.v 0) (.c (.int (2)))),(.ix (.v 0) (.c (.int (3))))])] [],.ret (.fn 17 [(.v 0)])]⟩
noncomputable def cQ:Fn:=⟨1,2,[.set 1 (.ix (.v 0) (.c (.int (0)))),.ite (.cmp .Eq (.v 1) (.c (.str "row"))) [.ret (.bt .list [(.ix (.v 0) (.c (.int (1))))])] [],.ite (.cmp .In (.v 1) (.tup [(.c (.str "call")),(.c (.str "new"))])) [.ret (.bt .list [(.ix (.v 0) (.c (.int (2))))])] [],.ite (.cmp .Eq (.v 1) (.c (.str "fun"))) [.ret (.bt .list [(.ix (.v 0) (.c (.int (4))))])] [],.ite (.cmp .Eq (.v 1) (.c (.str "while"))) [.ret (.bin .add (.lst [(.ix (.v 0) (.c (.int (1))))]) (.bt .list [(.ix (.v 0) (.c (.int (2))))]))] [],.ite (.cmp .Eq (.v 1) (.c (.str "if"))) [.ret (.bin .add (.bin .add (.lst [(.ix (.v 0) (.c (.int (1))))]) (.bt .list [(.ix (.v 0) (.c (.int (2))))])) (.bt .list [(.ix (.v 0) (.c (.int (3))))]))] [],.ret (.fn 18 [(.v 0)])]⟩
noncomputable def dA:Fn:=⟨1,3,[.set 1 (.bt .list [(.ix (.v 0) (.c (.int (1))))]),.for_ 2 false (.ix (.v 0) (.c (.int (2)))) [.ext (.v 1) (.ix (.v 2) (.c (.int (1))))],.ret (.v 1)]⟩
noncomputable def il:Fn:=⟨1,4,[.set 1 (.lst [(.v 0)]),.set 2 (.c (.int (0))),.whil (.cmp .Gt (.bt .len [(.v 1)]) (.c (.int (0)))) [.set 3 (.fn 16 [(.pop (.v 1) false)]),.ext (.v 1) (.v 3),.aug 2 (.c (.int (1)))],.ret (.v 2)]⟩
noncomputable abbrev cX:Nat:=20
noncomputable def eJ:Fn:=⟨3,5,[.set 3 (.ix (.meth (.v 0) "function_named" [("Typed",65)] [(.c (.str "main"))]) (.c (.int (0)))),.ex (.fn 13 [(.compU (.v 3) (.v 1)),(.v 1),(.v 2)]),.set 4 (.new "Runner" 53 [(.v 0),(.v 2)]),.ex (.meth (.v 4) "begin" [("Runner",54)] [(.c (.str "main")),(.v 1)]),.whil (.cmp .Is (.fld (.v 4) "ending" [] ["Run","Runner"]) (.c (.non))) [.ex (.meth (.v 4) "go_on" [("Runner",55)] [])],.ret (.meth (.v 4) "ended" [("Runner",48)] [])]⟩
noncomputable def cR:Fn:=⟨3,3,[.ite (.cmp .Lt (.v 2) (.bt .len [(.v 1)])) [.app (.fld (.v 0) "waiting" [] ["Frame"]) (.tup [(.c (.str "rows")),(.v 1),(.bin .add (.v 2) (.c (.int (1))))]),.app (.fld (.v 0) "waiting" [] ["Frame"]) (.ix (.v 1) (.v 2))] []]⟩
noncomputable abbrev dU:Nat:=22
noncomputable def kt:Fn:=⟨1,6,[.set 1 (.new "Heads" 66 [(.v 0)]),.set 2 .emp,.for_ 3 false (.ix (.v 0) (.c (.int (1)))) [.set 4 (.bt .tuple [(.compU (.ix (.v 3) (.c (.int (2)))) (.tup [(.v 0),(.meth (.v 3) "told_kind" [("Heads",69)] [(.v 1)])]))]),.set 5 (.meth (.new "Body" 72 [(.v 1),(.ix (.v 3) (.c (.int (3))))]) "told_rows_of" [("Body",73)] [(.v 3)]),.setix (.v 2) (.ix (.v 3) (.c (.int (1)))) (.tup [(.v 4),(.meth (.v 1) "told_kind" [("Heads",69)] [(.ix (.v 3) (.c (.int (3))))]),(.v 5)])],.ret (.new "Typed" 64 [(.v 2)])]⟩
noncomputable def ij:Fn:=⟨4,4,[.ret (.tup [(.c (.str "op")),(.v 0),(.v 1),(.fn 24 [(.v 2)]),(.v 3)])]⟩
noncomputable def eI:Fn:=⟨1,1,[.ret (.bt .tuple [(.comp false (.v 0) (.ix (.v 0) (.c (.int (0)))))])]⟩
noncomputable def dY:Fn:=⟨1,1,[.ret (.bt .sum [(.comp false (.v 0) (.fn 19 [(.v 0)]))])]⟩
noncomputable def f_:Fn:=⟨3,3,[.ite (.cmp .In (.v 0) (.v 1)) [.stop] []]⟩
noncomputable def dW:Fn:=⟨2,4,[.set 2 .emp,.for_ 3 false (.v 0) [.ex (.fn 26 [(.ix (.v 3) (.c (.int (0)))),(.v 2),(.v 1)]),.setix (.v 2) (.ix (.v 3) (.c (.int (0)))) (.c (.bl true))]]⟩
noncomputable def ft:Fn:=⟨3,3,[.ite (.cmp .NotEq (.ix (.v 0) (.c (.int (1)))) (.v 1)) [.stop] []]⟩
noncomputable def eM:Fn:=⟨3,4,[.for_ 3 false (.v 0) [.ex (.fn 28 [(.v 3),(.v 1),(.v 2)])]]⟩
noncomputable def fk:Fn:=⟨3,3,[.ite (.cmp .NotEq (.ix (.ix (.v 0) (.c (.int (1)))) (.c (.int (0)))) (.v 1)) [.stop] []]⟩
noncomputable def gb:Fn:=⟨4,6,[.ite (.cmp .NotEq (.bt .len [(.v 0)]) (.bt .len [(.v 1)])) [.stop] [],.forZ [4,5] (.v 0) (.v 1) [.ex (.fn 28 [(.v 4),(.ix (.v 5) (.c (.int (1)))),(.v 3)])]]⟩
noncomputable abbrev lm:Nat:=32
noncomputable def dC:Fn:=⟨2,2,[.ite (.cmp .Lt (.v 1) (.bt .len [(.v 0)])) [.ret (.ix (.v 0) (.v 1))] [],.ret (.c (.int (0)))]⟩
noncomputable abbrev nH:Nat:=33
noncomputable def eN:Fn:=⟨2,3,[.set 2 (.bin .mod (.bin .add (.bin .add (.bin .mul (.bin .mod (.v 0) (.c (.int (2147483629)))) (.c (.int (48271)))) (.bin .mul (.v 1) (.c (.int (7919))))) (.c (.int (104729)))) (.c (.int (2147483629)))),.set 2 (.bin .mod (.bin .add (.bin .add (.bin .mul (.bin .mod (.bin .mul (.v 2) (.v 2)) (.c (.int (2147483629)))) (.c (.int (16807)))) (.bin .mul (.v 1) (.c (.int (104729))))) (.c (.int (11)))) (.c (.int (2147483587)))),.ret (.bin .mod (.bin .mul (.v 2) (.v 2)) (.c (.int (2147483587))))]⟩
noncomputable def fv:Fn:=⟨1,1,[.ret (.tup [(.c (.str "name")),(.v 0)])]⟩
noncomputable def gh:Fn:=⟨3,3,[.ret (.tup [(.c (.str "two")),(.v 0),(.v 1),(.v 2)])]⟩
noncomputable abbrev g9:Nat:=36
noncomputable def fu:Fn:=⟨2,11,[.set 2 (.tup [(.c (.str "num"))]),.set 3 (.tup [(.tup [(.c (.str "let")),(.c (.str "m")),(.tup [(.c (.str "call")),(.c (.str "f")),(.tup [(.fn 35 [(.c (.str "-")),(.fn 34 [(.c (.str "n"))]),(.tup [(.c (.str "num")),(.c (.int (1)))])])])])])]),.set 3 (.bin .add (.v 3) (.bin .mul (.tup [(.tup [(.c (.str "log")),(.fn 34 [(.c (.str "n"))])])]) (.v 1))),.set 3 (.bin .add (.v 3) (.tup [(.tup [(.c (.str "return")),(.fn 35 [(.c (.str "+")),(.fn 34 [(.c (.str "m"))]),(.tup [(.c (.str "num")),(.c (.int (1)))])])])])),.set 4 (.ix (.lst [(.tup [(.tup [(.c (.str "raise")),(.c (.str "odd"))])]),(.tup [(.tup [(.c (.str "return")),(.tup [(.c (.str "num")),(.c (.int (0)))])])]),(.tup [])]) (.bin .mod (.v 0) (.c (.int (3))))),.set 5 (.tup [(.tup [(.c (.str "if")),(.fn 35 [(.c (.str "<")),(.fn 34 [(.c (.str "n"))]),(.tup [(.c (.str "num")),(.c (.int (1)))])]),(.v 4),(.v 3)])]),.set 6 (.tup [(.tup [(.c (.str "odd")),(.tup [(.tup [(.c (.str "return")),(.tup [(.c (.str "one")),(.c (.str "-")),(.fn 34 [(.c (.str "a"))])])])])]),(.tup [(.c (.str "end")),(.tup [(.tup [(.c (.str "return")),(.tup [(.c (.str "num")),(.c (.int (7)))])])])])]),.set 7 (.tup [(.tup [(.c (.str "try")),(.tup [(.tup [(.c (.str "return")),(.tup [(.c (.str "call")),(.c (.str "f")),(.tup [(.fn 34 [(.c (.str "a"))])])])])]),(.v 6)])]),.ite (.cmp .Eq (.v 0) (.c (.int (3)))) [.set 8 (.tup [(.tup [(.c (.str "set")),(.c (.str "c")),(.fn 35 [(.c (.str "+")),(.fn 34 [(.c (.str "c"))]),(.tup [(.c (.str "num")),(.c (.int (1)))])])])]),.set 9 (.tup [(.c (.str "while")),(.fn 35 [(.c (.str "<")),(.fn 34 [(.c (.str "c"))]),(.fn 34 [(.c (.str "a"))])]),(.v 8)]),.set 7 (.tup [(.tup [(.c (.str "let")),(.c (.str "c")),(.tup [(.c (.str "num")),(.c (.int (0)))])]),(.v 9),(.tup [(.c (.str "return")),(.fn 34 [(.c (.str "c"))])])])] [],.set 10 (.tup [(.c (.str "fun")),(.c (.str "f")),(.tup [(.tup [(.c (.str "n")),(.v 2)])]),(.v 2),(.v 5)]),.ret (.tup [(.tup []),(.tup [(.v 10),(.tup [(.c (.str "fun")),(.c (.str "main")),(.tup [(.tup [(.c (.str "a")),(.v 2)])]),(.v 2),(.v 7)])])])]⟩
noncomputable abbrev ql:Nat:=37
noncomputable def gi:Fn:=⟨4,5,[.ite (.cmp .LtE (.v 2) (.v 1)) [.ret (.tup [(.c (.str "dry")),(.c (.non)),(.tup []),(.v 2)])] [],.set 4 (.tup []),.ite (.and (.cmp .Eq (.v 0) (.c (.int (1)))) (.cmp .Gt (.v 3) (.c (.int (0))))) [.set 4 (.bt .tuple [(.comp2 (.c (.int (1))) (.bin .add (.v 1) (.c (.int (1)))) (.tup [(.c (.str "num")),(.v 0)]))])] [],.ret (.tup [(.c (.str "answer")),(.tup [(.c (.str "num")),(.ix (.lst [(.bin .sub (.c (.int (0))) (.v 1)),(.v 1),(.c (.int (7))),(.v 1)]) (.v 0))]),(.v 4),(.bin .add (.v 1) (.c (.int (1))))])]⟩
noncomputable abbrev c_:Nat:=38
noncomputable def dZ:Fn:=⟨2,8,[.set 2 (.tup [(.c (.str "num"))]),.set 3 (.tup [(.tup [(.c (.str "r")),(.tup [(.c (.str "row")),(.c (.int (3)))])]),(.tup [(.c (.str "p")),(.tup [(.c (.str "named")),(.c (.str "pair"))])])]),.set 4 (.tup [(.tup [(.c (.str "setfield")),(.c (.str "p")),(.c (.str "x")),(.tup [(.c (.str "index")),(.fn 34 [(.c (.str "r"))]),(.tup [(.c (.str "num")),(.c (.int (2)))])])]),(.tup [(.c (.str "setat")),(.c (.str "r")),(.tup [(.c (.str "num")),(.c (.int (0)))]),(.tup [(.c (.str "num")),(.c (.int (7)))])])]),.set 5 (.tup [(.c (.str "fun")),(.c (.str "f")),(.v 3),(.tup [(.c (.str "named")),(.c (.str "pair"))]),(.bin .add (.v 4) (.tup [(.tup [(.c (.str "return")),(.fn 34 [(.c (.str "p"))])])]))]),.set 6 (.tup [(.tup [(.c (.str "let")),(.c (.str "s")),(.tup [(.c (.str "call")),(.c (.str "f")),(.tup [(.fn 34 [(.c (.str "r"))]),(.fn 34 [(.c (.str "p"))])])])])]),.set 6 (.bin .add (.v 6) (.tup [(.tup [(.c (.str "setat")),(.c (.str "r")),(.tup [(.c (.str "num")),(.c (.int (1)))]),(.tup [(.c (.str "field")),(.fn 34 [(.c (.str "s"))]),(.c (.str "x"))])]),(.tup [(.c (.str "log")),(.tup [(.c (.str "field")),(.fn 34 [(.c (.str "p"))]),(.c (.str "x"))])])])),.set 7 (.tup [(.c (.str "fun")),(.c (.str "main")),(.v 3),(.v 0),(.bin .add (.v 6) (.v 1))]),.ret (.fn 22 [(.tup [(.tup [(.tup [(.c (.str "pair")),(.tup [(.tup [(.c (.str "x")),(.v 2)]),(.tup [(.c (.str "y")),(.tup [(.c (.str "truth"))])])])])]),(.tup [(.v 5),(.v 7)])])])]⟩
noncomputable abbrev iy:Nat:=39
noncomputable def bA:Fn:=⟨1,12,[.unp [1,2,3] (.comp true (.c (.int (3))) (.bin .sub (.bin .mod (.fn 33 [(.v 1),(.bin .add (.c (.int (11))) (.v 0))]) (.c (.int (99)))) (.c (.int (50))))),.set 4 (.cmp .Eq (.bin .mod (.fn 33 [(.v 0),(.c (.int (15)))]) (.c (.int (2)))) (.c (.int (0)))),.set 5 (.tup [(.tup [(.c (.str "num")),(.v 2)])]),.set 6 (.lst [(.tup [(.v 1),(.v 2),(.v 3)]),(.tup [(.v 2),(.v 4)])]),.set 7 (.lst [(.tup [(.tup [(.c (.str "row")),(.c (.int (3)))]),(.c (.str "r")),(.tup [(.tup [(.c (.str "num")),(.v 1)]),(.tup [(.c (.str "num")),(.v 3)]),(.tup [(.c (.str "num")),(.v 3)])])])]),.set 7 (.bin .add (.v 7) (.lst [(.tup [(.tup [(.c (.str "named")),(.c (.str "pair"))]),(.c (.str "s")),(.tup [(.tup [(.c (.str "num")),(.v 3)]),(.tup [(.c (.str "truth")),(.v 4)])])]),(.tup [(.tup [(.c (.str "named")),(.c (.str "pair"))]),(.c (.str "p")),(.c (.non))])])),.forU [8,9,10] (.v 7) [.set 11 (.fn 38 [(.v 8),(.tup [(.tup [(.c (.str "return")),(.fn 34 [(.v 9)])])])]),.ite (.cmp .Is (.v 10) (.c (.non))) [.set 10 (.tup [(.tup [(.c (.str "num")),(.v 2)]),(.tup [(.c (.str "truth")),(.v 4)])])] [],.ite (.cmp .NotEq (.meth (.fn 20 [(.v 11),(.v 6),(.c (.int (1)))]) "seen" [("Run",42)] []) (.tup [(.c (.str "answer")),(.v 10),(.v 5),(.c (.int (1)))])) [.ret (.c (.bl false))] [],.ite (.cmp .NotEq (.meth (.fn 20 [(.v 11),(.v 6),(.c (.int (0)))]) "seen" [("Run",42)] []) (.tup [(.c (.str "dry")),(.c (.non)),(.tup []),(.c (.int (0)))])) [.ret (.c (.bl false))] []],.ret (.cmp .Eq (.meth (.fn 20 [(.fn 38 [(.tup [(.c (.str "num"))]),(.tup [])]),(.v 6),(.c (.int (5)))]) "seen" [("Run",42)] []) (.tup [(.c (.str "fault")),(.c (.str "end")),(.v 5),(.c (.int (1)))]))]⟩
noncomputable abbrev Cm:Nat:=40
noncomputable def rY:Fn:=⟨1,8,[.for_ 1 true (.c (.int (2))) [.set 2 (.fn 33 [(.fn 32 [(.v 0),(.c (.int (0)))]),(.v 1)]),.set 3 (.bin .mod (.v 2) (.c (.int (4)))),.set 4 (.ix (.lst [(.bin .mod (.bin .fdiv (.v 2) (.c (.int (4)))) (.c (.int (2001)))),(.bin .mod (.bin .fdiv (.v 2) (.c (.int (4)))) (.c (.int (40)))),(.c (.int (0)))]) (.bin .mod (.bin .fdiv (.v 2) (.c (.int (8004)))) (.c (.int (3))))),.set 5 (.ix (.lst [(.bin .add (.v 4) (.bin .mod (.bin .fdiv (.v 2) (.c (.int (100000)))) (.c (.int (4))))),(.c (.int (10000))),(.bin .fdiv (.v 4) (.c (.int (2)))),(.c (.int (0)))]) (.bin .mod (.bin .fdiv (.v 2) (.c (.int (24012)))) (.c (.int (4))))),.set 6 (.bin .mod (.bin .fdiv (.v 2) (.c (.int (1000000)))) (.c (.int (2)))),.set 7 (.fn 20 [(.fn 22 [(.fn 36 [(.v 3),(.v 6)])]),(.lst [(.v 4)]),(.v 5)]),.ite (.cmp .NotEq (.meth (.v 7) "seen" [("Run",42)] []) (.fn 37 [(.v 3),(.v 4),(.v 5),(.v 6)])) [.ret (.c (.bl false))] []],.ret (.fn 39 [(.fn 32 [(.v 0),(.c (.int (1)))])])]⟩
noncomputable abbrev qp:Nat:=41
noncomputable def gk:Fn:=⟨6,6,[.setf (.v 0) "ending" (.v 1) [] ["Run","Runner"],.setf (.v 0) "thing" (.v 2) [] ["Run","Runner"],.setf (.v 0) "log" (.bt .list [(.v 3)]) [] ["Run","Runner"],.setf (.v 0) "kept_log" (.bt .tuple [(.v 3)]) [] ["Run"],.setf (.v 0) "took" (.v 4) [] ["Run","Runner"],.setf (.v 0) "steps" (.v 5) [] ["Run","Runner"]]⟩
noncomputable abbrev qo:Nat:=42
noncomputable def gj:Fn:=⟨1,1,[.ret (.tup [(.fld (.v 0) "ending" [] ["Run","Runner"]),(.fld (.v 0) "thing" [] ["Run","Runner"]),(.fld (.v 0) "kept_log" [] ["Run"]),(.fld (.v 0) "took" [] ["Run","Runner"])])]⟩
noncomputable abbrev nI:Nat:=43
noncomputable def eR:Fn:=⟨2,2,[.setf (.v 0) "budget" (.v 1) [] ["Runner"],.setf (.v 0) "log" (.lst []) [] ["Run","Runner"],.setf (.v 0) "took" (.c (.int (0))) [] ["Run","Runner"],.setf (.v 0) "steps" (.c (.int (0))) [] ["Run","Runner"],.setf (.v 0) "ending" (.c (.non)) [] ["Run","Runner"],.setf (.v 0) "thing" (.c (.non)) [] ["Run","Runner"]]⟩
noncomputable abbrev eZ:Nat:=44
noncomputable def cF:Fn:=⟨1,1,[.ite (.cmp .Eq (.fld (.v 0) "took" [] ["Run","Runner"]) (.fld (.v 0) "budget" [] ["Runner"])) [.setf (.v 0) "ending" (.c (.str "dry")) [] ["Run","Runner"],.ret (.c (.bl false))] [],.augf (.v 0) "took" (.c (.int (1))) ["Run","Runner"],.ret (.c (.bl true))]⟩
noncomputable def d3:Fn:=⟨2,2,[.app (.fld (.v 0) "log" [] ["Run","Runner"]) (.fn 4 [(.v 1)])]⟩
noncomputable def dH:Fn:=⟨2,2,[.setf (.v 0) "ending" (.c (.str "answer")) [] ["Run","Runner"],.setf (.v 0) "thing" (.fn 4 [(.v 1)]) [] ["Run","Runner"]]⟩
noncomputable def eS:Fn:=⟨2,2,[.setf (.v 0) "ending" (.c (.str "fault")) [] ["Run","Runner"],.setf (.v 0) "thing" (.v 1) [] ["Run","Runner"]]⟩
noncomputable abbrev mf:Nat:=48
noncomputable def d4:Fn:=⟨1,1,[.ret (.new "Run" 41 [(.fld (.v 0) "ending" [] ["Run","Runner"]),(.fld (.v 0) "thing" [] ["Run","Runner"]),(.fld (.v 0) "log" [] ["Run","Runner"]),(.fld (.v 0) "took" [] ["Run","Runner"]),(.fld (.v 0) "steps" [] ["Run","Runner"])])]⟩
noncomputable abbrev nJ:Nat:=49
noncomputable def eT:Fn:=⟨3,3,[.setf (.v 0) "have" (.v 1) [] ["Frame"],.setf (.v 0) "waiting" (.lst [(.tup [(.c (.str "rows")),(.v 2),(.c (.int (0)))])]) [] ["Frame"],.setf (.v 0) "reckoned_parts" (.lst []) [] ["Frame"]]⟩
noncomputable abbrev jF:Nat:=50
noncomputable def cY:Fn:=⟨3,3,[.app (.fld (.v 0) "waiting" [] ["Frame"]) (.v 1),.ext (.fld (.v 0) "waiting" [] ["Frame"]) (.lrev (.v 2))]⟩
noncomputable abbrev iD:Nat:=51
noncomputable def d5:Fn:=⟨2,2,[.ret (.rv (.comp true (.v 1) (.pop (.fld (.v 1) "reckoned_parts" [] ["Frame"]) false)))]⟩
noncomputable abbrev iz:Nat:=52
noncomputable def ci:Fn:=⟨2,5,[.clr (.fld (.v 0) "reckoned_parts" [] ["Frame"]),.whil (.cmp .Gt (.bt .len [(.fld (.v 0) "waiting" [] ["Frame"])]) (.c (.int (0)))) [.set 2 (.pop (.fld (.v 0) "waiting" [] ["Frame"]) false),.ite (.cmp .Eq (.ix (.v 2) (.c (.int (0)))) (.c (.str "tried"))) [.forU [3,4] (.ix (.v 2) (.c (.int (1)))) [.ite (.cmp .Eq (.v 3) (.v 1)) [.ret (.v 4)] []]] []],.ret (.c (.non))]⟩
noncomputable abbrev me:Nat:=53
noncomputable def d0:Fn:=⟨3,3,[.ex (.fn 43 [(.v 0),(.v 2)]),.setf (.v 0) "program" (.v 1) [] ["Runner"],.setf (.v 0) "frames" (.lst []) [] ["Runner"]]⟩
noncomputable abbrev hJ:Nat:=54
noncomputable def dG:Fn:=⟨3,5,[.set 3 (.meth (.fld (.v 0) "program" [] ["Runner"]) "function_named" [("Typed",65)] [(.v 1)]),.set 4 (.dictP (.compZ (.ix (.v 3) (.c (.int (0)))) (.v 2) (.tup [(.ix (.v 0) (.c (.int (0)))),(.v 1)]))),.app (.fld (.v 0) "frames" [] ["Runner"]) (.new "Frame" 49 [(.v 4),(.ix (.v 3) (.c (.int (2))))])]⟩
noncomputable abbrev aq:Nat:=55
noncomputable def bS:Fn:=⟨1,3,[.set 1 (.ix (.fld (.v 0) "frames" [] ["Runner"]) (.neg (.c (.int (1))))),.ite (.cmp .Eq (.bt .len [(.fld (.v 1) "waiting" [] ["Frame"])]) (.c (.int (0)))) [.ex (.meth (.v 0) "fault_comes" [("Runner",63)] [(.c (.str "end"))]),.ret0] [],.set 2 (.pop (.fld (.v 1) "waiting" [] ["Frame"]) false),.ite (.inG ["const","local","op","call","let","set","if","while","log","do","return","raise","try"] (.ix (.v 2) (.c (.int (0))))) [.augf (.v 0) "steps" (.c (.int (1))) ["Run","Runner"],.ex (.meth (.v 0) "begin_node" [("Runner",56)] [(.v 1),(.v 2)])] [.ex (.meth (.v 0) "go_on_with" [("Runner",57)] [(.v 1),(.v 2)])]]⟩
noncomputable def bN:Fn:=⟨3,4,[.set 3 (.ix (.v 2) (.c (.int (0)))),.ite (.cmp .Eq (.v 3) (.c (.str "const"))) [.app (.fld (.v 1) "reckoned_parts" [] ["Frame"]) (.ix (.ix (.v 2) (.c (.int (1)))) (.c (.int (1))))] [.ite (.cmp .Eq (.v 3) (.c (.str "local"))) [.app (.fld (.v 1) "reckoned_parts" [] ["Frame"]) (.ix (.fld (.v 1) "have" [] ["Frame"]) (.ix (.v 2) (.c (.int (1)))))] [.ite (.cmp .Eq (.v 3) (.c (.str "op"))) [.ex (.meth (.v 1) "wait_for" [("Frame",50)] [(.tup [(.c (.str "reckon")),(.v 2)]),(.ix (.v 2) (.c (.int (3))))])] [.ite (.cmp .Eq (.v 3) (.c (.str "call"))) [.ex (.meth (.v 1) "wait_for" [("Frame",50)] [(.tup [(.c (.str "enter")),(.v 2)]),(.ix (.v 2) (.c (.int (2))))])] [.ite (.cmp .In (.v 3) (.tup [(.c (.str "let")),(.c (.str "set"))])) [.ex (.meth (.v 1) "wait_for" [("Frame",50)] [(.tup [(.c (.str "keep")),(.ix (.v 2) (.c (.int (1))))]),(.tup [(.ix (.v 2) (.c (.int (2))))])])] [.ite (.cmp .Eq (.v 3) (.c (.str "if"))) [.ex (.meth (.v 1) "wait_for" [("Frame",50)] [(.tup [(.c (.str "choose")),(.v 2)]),(.tup [(.ix (.v 2) (.c (.int (1))))])])] [.ite (.cmp .Eq (.v 3) (.c (.str "while"))) [.app (.fld (.v 1) "waiting" [] ["Frame"]) (.tup [(.c (.str "ask")),(.v 2)])] [.ite (.cmp .Eq (.v 3) (.c (.str "log"))) [.ex (.meth (.v 1) "wait_for" [("Frame",50)] [(.tup [(.c (.str "write"))]),(.tup [(.ix (.v 2) (.c (.int (1))))])])] [.ite (.cmp .Eq (.v 3) (.c (.str "do"))) [.ex (.meth (.v 1) "wait_for" [("Frame",50)] [(.tup [(.c (.str "drop"))]),(.tup [(.ix (.v 2) (.c (.int (1))))])])] [.ite (.cmp .Eq (.v 3) (.c (.str "return"))) [.ex (.meth (.v 1) "wait_for" [("Frame",50)] [(.tup [(.c (.str "leave"))]),(.tup [(.ix (.v 2) (.c (.int (1))))])])] [.ite (.cmp .Eq (.v 3) (.c (.str "raise"))) [.ex (.meth (.v 0) "fault_comes" [("Runner",63)] [(.ix (.v 2) (.c (.int (1))))])] [.ex (.meth (.v 1) "wait_for" [("Frame",50)] [(.tup [(.c (.str "tried")),(.ix (.v 2) (.c (.int (2))))]),(.tup [(.tup [(.c (.str "rows")),(.ix (.v 2) (.c (.int (1)))),(.c (.int (0)))])])])]]]]]]]]]]]]⟩
noncomputable def bM:Fn:=⟨3,4,[.set 3 (.ix (.v 2) (.c (.int (0)))),.ite (.cmp .Eq (.v 3) (.c (.str "rows"))) [.ex (.fn 21 [(.v 1),(.ix (.v 2) (.c (.int (1)))),(.ix (.v 2) (.c (.int (2))))])] [.ite (.cmp .Eq (.v 3) (.c (.str "reckon"))) [.ex (.meth (.v 0) "reckon" [("Runner",59)] [(.v 1),(.ix (.v 2) (.c (.int (1))))])] [.ite (.cmp .Eq (.v 3) (.c (.str "enter"))) [.ex (.meth (.v 0) "enter" [("Runner",60)] [(.ix (.ix (.v 2) (.c (.int (1)))) (.c (.int (1)))),(.meth (.v 1) "taken" [("Frame",51)] [(.bt .len [(.ix (.ix (.v 2) (.c (.int (1)))) (.c (.int (2))))])])])] [.ite (.cmp .Eq (.v 3) (.c (.str "ask"))) [.ex (.meth (.v 0) "ask" [("Runner",61)] [(.v 1),(.ix (.v 2) (.c (.int (1))))])] [.ite (.cmp .NotEq (.v 3) (.c (.str "tried"))) [.ex (.meth (.v 0) "use" [("Runner",58)] [(.v 1),(.v 2),(.pop (.fld (.v 1) "reckoned_parts" [] ["Frame"]) false)])] []]]]]]⟩
noncomputable def dD:Fn:=⟨4,5,[.set 4 (.ix (.v 2) (.c (.int (0)))),.ite (.cmp .Eq (.v 4) (.c (.str "keep"))) [.setix (.fld (.v 1) "have" [] ["Frame"]) (.ix (.v 2) (.c (.int (1)))) (.v 3)] [.ite (.cmp .Eq (.v 4) (.c (.str "choose"))) [.app (.fld (.v 1) "waiting" [] ["Frame"]) (.tup [(.c (.str "rows")),(.ite (.v 3) (.ix (.ix (.v 2) (.c (.int (1)))) (.c (.int (2)))) (.ix (.ix (.v 2) (.c (.int (1)))) (.c (.int (3))))),(.c (.int (0)))])] [.ite (.and (.cmp .Eq (.v 4) (.c (.str "loop"))) (.v 3)) [.ex (.meth (.v 1) "wait_for" [("Frame",50)] [(.tup [(.c (.str "ask")),(.ix (.v 2) (.c (.int (1))))]),(.tup [(.tup [(.c (.str "rows")),(.ix (.ix (.v 2) (.c (.int (1)))) (.c (.int (2)))),(.c (.int (0)))])])])] [.ite (.cmp .Eq (.v 4) (.c (.str "write"))) [.ex (.meth (.v 0) "write" [("Runner",45)] [(.v 3)])] [.ite (.cmp .Eq (.v 4) (.c (.str "leave"))) [.ex (.meth (.v 0) "leave" [("Runner",62)] [(.v 3)])] []]]]]]⟩
noncomputable def da:Fn:=⟨3,5,[.tryE [.set 3 (.fn 6 [(.ix (.v 2) (.c (.int (1)))),(.ix (.v 2) (.c (.int (2)))),(.meth (.v 1) "taken" [("Frame",51)] [(.bt .len [(.ix (.v 2) (.c (.int (3))))])])])] [.app (.fld (.v 1) "reckoned_parts" [] ["Frame"]) (.v 3)]]⟩
noncomputable def dF:Fn:=⟨3,3,[.ite (.meth (.v 0) "takes_tick" [("Runner",44)] []) [.ex (.meth (.v 0) "begin" [("Runner",54)] [(.v 1),(.v 2)])] []]⟩
noncomputable def eP:Fn:=⟨3,3,[.ite (.meth (.v 0) "takes_tick" [("Runner",44)] []) [.ex (.meth (.v 1) "wait_for" [("Frame",50)] [(.tup [(.c (.str "loop")),(.v 2)]),(.tup [(.ix (.v 2) (.c (.int (1))))])])] []]⟩
noncomputable def dE:Fn:=⟨2,2,[.ex (.pop (.fld (.v 0) "frames" [] ["Runner"]) false),.ite (.cmp .Eq (.bt .len [(.fld (.v 0) "frames" [] ["Runner"])]) (.c (.int (0)))) [.ex (.meth (.v 0) "answer" [("Runner",46)] [(.v 1)])] [.app (.fld (.ix (.fld (.v 0) "frames" [] ["Runner"]) (.neg (.c (.int (1))))) "reckoned_parts" [] ["Frame"]) (.v 1)]]⟩
noncomputable abbrev g_:Nat:=63
noncomputable def b9:Fn:=⟨2,3,[.whil (.cmp .Gt (.bt .len [(.fld (.v 0) "frames" [] ["Runner"])]) (.c (.int (0)))) [.set 2 (.meth (.ix (.fld (.v 0) "frames" [] ["Runner"]) (.neg (.c (.int (1))))) "caught_rows" [("Frame",52)] [(.v 1)]),.ite (.cmp .IsNot (.v 2) (.c (.non))) [.app (.fld (.ix (.fld (.v 0) "frames" [] ["Runner"]) (.neg (.c (.int (1))))) "waiting" [] ["Frame"]) (.tup [(.c (.str "rows")),(.v 2),(.c (.int (0)))]),.ret0] [],.ex (.pop (.fld (.v 0) "frames" [] ["Runner"]) false)],.ex (.meth (.v 0) "fail" [("Runner",47)] [(.v 1)])]⟩
noncomputable def eO:Fn:=⟨2,2,[.setf (.v 0) "functions" (.bt .dict [(.v 1)]) [] ["Typed","Heads"],.setf (.v 0) "kept_functions" (.bt .dict [(.v 1)]) [] ["Typed"]]⟩
noncomputable abbrev fZ:Nat:=65
noncomputable def bP:Fn:=⟨2,2,[.ret (.ix (.fld (.v 0) "kept_functions" [] ["Typed"]) (.v 1))]⟩
noncomputable def eQ:Fn:=⟨2,6,[.setf (.v 0) "records" .emp [] ["Heads"],.setf (.v 0) "functions" .emp [] ["Typed","Heads"],.set 2 (.c (.int (0))),.forU [3,4] (.ix (.v 1) (.c (.int (0)))) [.ex (.fn 26 [(.v 3),(.fld (.v 0) "records" [] ["Heads"]),(.v 2)]),.ex (.fn 27 [(.v 4),(.v 2)]),.setix (.fld (.v 0) "records" [] ["Heads"]) (.v 3) (.tup [(.v 2),(.v 4)]),.aug 2 (.c (.int (1)))],.for_ 5 false (.ix (.v 1) (.c (.int (1)))) [.ex (.meth (.v 0) "look_at_function" [("Heads",67)] [(.v 5),(.v 2)]),.aug 2 (.fn 19 [(.v 5)])],.ite (.cmp .NotIn (.c (.str "main")) (.fld (.v 0) "functions" [] ["Typed","Heads"])) [.stop] []]⟩
noncomputable def bG:Fn:=⟨3,6,[.ex (.fn 26 [(.ix (.v 1) (.c (.int (1)))),(.fld (.v 0) "functions" [] ["Typed","Heads"]),(.v 2)]),.set 3 .emp,.forU [4,5] (.ix (.v 1) (.c (.int (2)))) [.ex (.meth (.v 0) "need_record" [("Heads",68)] [(.v 5),(.v 2)]),.ex (.fn 26 [(.v 4),(.v 3),(.v 2)]),.setix (.v 3) (.v 4) (.c (.bl true))],.ex (.meth (.v 0) "need_record" [("Heads",68)] [(.ix (.v 1) (.c (.int (3)))),(.v 2)]),.setix (.fld (.v 0) "functions" [] ["Typed","Heads"]) (.ix (.v 1) (.c (.int (1)))) (.tup [(.v 2),(.ix (.v 1) (.c (.int (2)))),(.ix (.v 1) (.c (.int (3))))])]⟩
noncomputable def cg:Fn:=⟨3,3,[.ite (.and (.cmp .Eq (.ix (.v 1) (.c (.int (0)))) (.c (.str "named"))) (.cmp .NotIn (.ix (.v 1) (.c (.int (1)))) (.fld (.v 0) "records" [] ["Heads"]))) [.stop] []]⟩
noncomputable def cT:Fn:=⟨2,2,[.ite (.cmp .NotEq (.ix (.v 1) (.c (.int (0)))) (.c (.str "named"))) [.ret (.v 1)] [],.ret (.tup [(.c (.str "record")),(.bt .tuple [(.comp false (.meth (.v 0) "fields_of" [("Heads",70)] [(.v 1)]) (.ix (.v 0) (.c (.int (1)))))])])]⟩
noncomputable def cU:Fn:=⟨2,2,[.ret (.ix (.ix (.fld (.v 0) "records" [] ["Heads"]) (.ix (.v 1) (.c (.int (1))))) (.c (.int (1))))]⟩
noncomputable def b_:Fn:=⟨4,6,[.forE [4,5] (.meth (.v 0) "fields_of" [("Heads",70)] [(.v 1)]) [.ite (.cmp .Eq (.ix (.v 5) (.c (.int (0)))) (.v 2)) [.ret (.v 4)] []],.stop]⟩
noncomputable def fw:Fn:=⟨3,3,[.setf (.v 0) "heads" (.v 1) [] ["Body"],.setf (.v 0) "gives" (.v 2) [] ["Body"]]⟩
noncomputable def cj:Fn:=⟨2,4,[.set 2 (.ix (.ix (.fld (.fld (.v 0) "heads" [] ["Body"]) "functions" [] ["Typed","Heads"]) (.ix (.v 1) (.c (.int (1))))) (.c (.int (0)))),.set 3 (.dictP (.compU (.ix (.v 1) (.c (.int (2)))) (.tup [(.v 0),(.tup [(.v 1),(.v 4)])]))),.ret (.meth (.v 0) "look_at_rows" [("Body",74)] [(.ix (.v 1) (.c (.int (4)))),(.bin .add (.v 2) (.c (.int (1)))),(.v 3)])]⟩
noncomputable def ck:Fn:=⟨4,7,[.set 4 (.bt .dict [(.v 3)]),.set 5 (.lst []),.for_ 6 false (.v 1) [.app (.v 5) (.meth (.v 0) "look_at_row" [("Body",75)] [(.v 6),(.v 2),(.v 4)]),.aug 2 (.fn 19 [(.v 6)])],.ret (.bt .tuple [(.v 5)])]⟩
noncomputable def cI:Fn:=⟨4,6,[.set 4 (.ix (.v 1) (.c (.int (0)))),.ite (.cmp .Eq (.v 4) (.c (.str "raise"))) [.ret (.v 1)] [],.ite (.cmp .Eq (.v 4) (.c (.str "try"))) [.ret (.meth (.v 0) "look_at_try" [("Body",76)] [(.v 1),(.v 2),(.v 3)])] [],.ite (.cmp .In (.v 4) (.tup [(.c (.str "if")),(.c (.str "while"))])) [.ret (.meth (.v 0) "look_at_tested" [("Body",77)] [(.v 1),(.v 2),(.v 3)])] [],.set 5 (.meth (.v 0) "look_at_parts" [("Body",80)] [(.v 1),(.v 2),(.v 3)]),.ite (.cmp .Eq (.v 4) (.c (.str "let"))) [.ret (.meth (.v 0) "look_at_let" [("Body",78)] [(.v 1),(.v 2),(.v 3),(.ix (.v 5) (.c (.int (0))))])] [],.ite (.cmp .In (.v 4) (.tup [(.c (.str "set")),(.c (.str "setat")),(.c (.str "setfield"))])) [.ret (.meth (.v 0) "look_at_set" [("Body",79)] [(.v 1),(.v 2),(.v 3),(.v 5)])] [],.ite (.and (.cmp .Eq (.v 4) (.c (.str "log"))) (.cmp .NotIn (.ix (.ix (.v 5) (.c (.int (0)))) (.c (.int (1)))) (.tup [(.c (.tup [.str "num"])),(.c (.tup [.str "truth"]))]))) [.stop] [],.ite (.cmp .Eq (.v 4) (.c (.str "return"))) [.ex (.fn 28 [(.ix (.v 5) (.c (.int (0)))),(.fld (.v 0) "gives" [] ["Body"]),(.v 2)])] [],.ret (.tup [(.v 4),(.ix (.ix (.v 5) (.c (.int (0)))) (.c (.int (0))))])]⟩
noncomputable def cG:Fn:=⟨4,8,[.set 4 (.meth (.v 0) "look_at_rows" [("Body",74)] [(.ix (.v 1) (.c (.int (1)))),(.bin .add (.v 2) (.c (.int (1)))),(.v 3)]),.aug 2 (.bin .add (.c (.int (1))) (.fn 25 [(.ix (.v 1) (.c (.int (1))))])),.set 5 (.lst []),.forU [6,7] (.ix (.v 1) (.c (.int (2)))) [.app (.v 5) (.tup [(.v 6),(.meth (.v 0) "look_at_rows" [("Body",74)] [(.v 7),(.v 2),(.v 3)])]),.aug 2 (.fn 25 [(.v 7)])],.ret (.tup [(.c (.str "try")),(.v 4),(.bt .tuple [(.v 5)])])]⟩
noncomputable def bV:Fn:=⟨4,8,[.set 4 (.meth (.v 0) "look_at" [("Body",81)] [(.ix (.v 1) (.c (.int (1)))),(.bin .add (.v 2) (.c (.int (1)))),(.v 3)]),.set 5 (.bin .add (.bin .add (.v 2) (.c (.int (1)))) (.fn 19 [(.ix (.v 1) (.c (.int (1))))])),.set 6 (.lst []),.for_ 7 false (.sl (.v 1) (.c (.int (2))) (.c (.int (2))) true false) [.app (.v 6) (.meth (.v 0) "look_at_rows" [("Body",74)] [(.v 7),(.v 5),(.v 3)]),.aug 5 (.fn 25 [(.v 7)])],.ex (.fn 28 [(.v 4),(.c (.tup [.str "truth"])),(.v 2)]),.ret (.bin .add (.tup [(.ix (.v 1) (.c (.int (0)))),(.ix (.v 4) (.c (.int (0))))]) (.bt .tuple [(.v 6)]))]⟩
noncomputable def cK:Fn:=⟨5,5,[.ex (.fn 26 [(.ix (.v 1) (.c (.int (1)))),(.v 3),(.v 2)]),.setix (.v 3) (.ix (.v 1) (.c (.int (1)))) (.tup [(.ix (.v 4) (.c (.int (1)))),(.v 2)]),.ret (.tup [(.c (.str "let")),(.ix (.v 1) (.c (.int (1)))),(.ix (.v 4) (.c (.int (0))))])]⟩
noncomputable def cH:Fn:=⟨5,10,[.set 5 (.ix (.v 1) (.c (.int (1)))),.ite (.cmp .NotIn (.v 5) (.v 3)) [.stop] [],.set 6 (.ix (.ix (.v 3) (.v 5)) (.c (.int (0)))),.set 7 (.meth (.fld (.v 0) "heads" [] ["Body"]) "told_kind" [("Heads",69)] [(.v 6)]),.set 8 (.bin .add (.lst [(.tup [(.tup [(.c (.str "local")),(.v 5),(.v 7)]),(.v 6),(.ix (.ix (.v 3) (.v 5)) (.c (.int (1))))])]) (.v 4)),.ite (.cmp .Eq (.ix (.v 1) (.c (.int (0)))) (.c (.str "set"))) [.ex (.fn 28 [(.ix (.v 4) (.c (.int (0)))),(.v 6),(.v 2)]),.ret (.tup [(.c (.str "set")),(.v 5),(.ix (.ix (.v 4) (.c (.int (0)))) (.c (.int (0))))])] [],.ite (.cmp .Eq (.ix (.v 1) (.c (.int (0)))) (.c (.str "setat"))) [.ex (.fn 30 [(.ix (.v 8) (.c (.int (0)))),(.c (.str "row")),(.v 2)]),.ex (.fn 29 [(.v 4),(.c (.tup [.str "num"])),(.v 2)]),.ret (.tup [(.c (.str "set")),(.v 5),(.fn 23 [(.c (.str "lay")),(.c (.non)),(.v 8),(.v 7)])])] [],.ex (.fn 30 [(.ix (.v 8) (.c (.int (0)))),(.c (.str "named")),(.v 2)]),.set 9 (.meth (.fld (.v 0) "heads" [] ["Body"]) "field_number" [("Heads",71)] [(.v 6),(.ix (.v 1) (.c (.int (2)))),(.v 2)]),.ex (.fn 28 [(.ix (.v 4) (.c (.int (0)))),(.ix (.ix (.meth (.fld (.v 0) "heads" [] ["Body"]) "fields_of" [("Heads",70)] [(.v 6)]) (.v 9)) (.c (.int (1)))),(.v 2)]),.ret (.tup [(.c (.str "set")),(.v 5),(.fn 23 [(.c (.str "put")),(.v 9),(.v 8),(.v 7)])])]⟩
noncomputable def ca:Fn:=⟨4,7,[.set 4 (.lst []),.set 5 (.bin .add (.v 2) (.c (.int (1)))),.for_ 6 false (.fn 16 [(.v 1)]) [.app (.v 4) (.meth (.v 0) "look_at" [("Body",81)] [(.v 6),(.v 5),(.v 3)]),.aug 5 (.fn 19 [(.v 6)])],.ret (.v 4)]⟩
noncomputable def dI:Fn:=⟨4,8,[.set 4 (.meth (.v 0) "look_at_parts" [("Body",80)] [(.v 1),(.v 2),(.v 3)]),.set 5 (.ix (.v 1) (.c (.int (0)))),.ite (.cmp .In (.v 5) (.tup [(.c (.str "num")),(.c (.str "truth"))])) [.ret (.tup [(.tup [(.c (.str "const")),(.v 1)]),(.tup [(.v 5)]),(.v 2)])] [],.ite (.cmp .Eq (.v 5) (.c (.str "name"))) [.ret (.meth (.v 0) "look_at_name" [("Body",82)] [(.ix (.v 1) (.c (.int (1)))),(.v 2),(.v 3)])] [],.ite (.cmp .Eq (.v 5) (.c (.str "call"))) [.ret (.meth (.v 0) "look_at_call" [("Body",83)] [(.ix (.v 1) (.c (.int (1)))),(.v 2),(.v 4)])] [],.ite (.cmp .Eq (.v 5) (.c (.str "new"))) [.ret (.meth (.v 0) "look_at_new" [("Body",84)] [(.ix (.v 1) (.c (.int (1)))),(.v 2),(.v 4)])] [],.ite (.cmp .Eq (.v 5) (.c (.str "field"))) [.ret (.meth (.v 0) "look_at_field" [("Body",85)] [(.ix (.v 1) (.c (.int (2)))),(.v 2),(.v 4)])] [],.ite (.cmp .Eq (.v 5) (.c (.str "row"))) [.ex (.fn 29 [(.v 4),(.c (.tup [.str "num"])),(.v 2)]),.set 6 (.tup [(.c (.str "row")),(.bt .len [(.v 4)])]),.ret (.tup [(.fn 23 [(.c (.str "make")),(.v 6),(.v 4),(.v 6)]),(.v 6),(.v 2)])] [],.ite (.cmp .Eq (.v 5) (.c (.str "index"))) [.ex (.fn 30 [(.ix (.v 4) (.c (.int (0)))),(.c (.str "row")),(.v 2)]),.ex (.fn 28 [(.ix (.v 4) (.c (.int (1)))),(.c (.tup [.str "num"])),(.v 2)]),.ret (.tup [(.fn 23 [(.c (.str "pick")),(.c (.non)),(.v 4),(.c (.tup [.str "num"]))]),(.c (.tup [.str "num"])),(.v 2)])] [],.set 7 (.ite (.cmp .Eq (.v 5) (.c (.str "two"))) (.ixG [("+",.tup [.str "add",.tup [.str "num"],.tup [.str "num"]]),("-",.tup [.str "sub",.tup [.str "num"],.tup [.str "num"]]),("*",.tup [.str "mul",.tup [.str "num"],.tup [.str "num"]]),("/",.tup [.str "div",.tup [.str "num"],.tup [.str "num"]]),("mod",.tup [.str "mod",.tup [.str "num"],.tup [.str "num"]]),("<",.tup [.str "less",.tup [.str "num"],.tup [.str "truth"]]),("=",.tup [.str "same",.tup [.str "num"],.tup [.str "truth"]]),("and",.tup [.str "and",.tup [.str "truth"],.tup [.str "truth"]]),("or",.tup [.str "or",.tup [.str "truth"],.tup [.str "truth"]])] (.ix (.v 1) (.c (.int (1))))) (.ixG [("-",.tup [.str "neg",.tup [.str "num"],.tup [.str "num"]]),("not",.tup [.str "not",.tup [.str "truth"],.tup [.str "truth"]])] (.ix (.v 1) (.c (.int (1)))))),.ex (.fn 29 [(.v 4),(.ix (.v 7) (.c (.int (1)))),(.v 2)]),.ret (.tup [(.fn 23 [(.ix (.v 7) (.c (.int (0)))),(.c (.non)),(.v 4),(.ix (.v 7) (.c (.int (2))))]),(.ix (.v 7) (.c (.int (2)))),(.v 2)])]⟩
noncomputable def cm:Fn:=⟨4,5,[.ite (.cmp .NotIn (.v 1) (.v 3)) [.stop] [],.set 4 (.ix (.ix (.v 3) (.v 1)) (.c (.int (0)))),.ret (.tup [(.tup [(.c (.str "local")),(.v 1),(.meth (.fld (.v 0) "heads" [] ["Body"]) "told_kind" [("Heads",69)] [(.v 4)])]),(.v 4),(.v 2)])]⟩
noncomputable def cq:Fn:=⟨4,5,[.ite (.cmp .NotIn (.v 1) (.fld (.fld (.v 0) "heads" [] ["Body"]) "functions" [] ["Typed","Heads"])) [.stop] [],.set 4 (.ix (.fld (.fld (.v 0) "heads" [] ["Body"]) "functions" [] ["Typed","Heads"]) (.v 1)),.ex (.fn 31 [(.v 3),(.ix (.v 4) (.c (.int (1)))),(.ix (.v 4) (.c (.int (0)))),(.v 2)]),.ret (.tup [(.tup [(.c (.str "call")),(.v 1),(.fn 24 [(.v 3)]),(.meth (.fld (.v 0) "heads" [] ["Body"]) "told_kind" [("Heads",69)] [(.ix (.v 4) (.c (.int (2))))])]),(.ix (.v 4) (.c (.int (2)))),(.v 2)])]⟩
noncomputable def cJ:Fn:=⟨4,7,[.ite (.cmp .NotIn (.v 1) (.fld (.fld (.v 0) "heads" [] ["Body"]) "records" [] ["Heads"])) [.stop] [],.set 4 (.ix (.fld (.fld (.v 0) "heads" [] ["Body"]) "records" [] ["Heads"]) (.v 1)),.ex (.fn 31 [(.v 3),(.ix (.v 4) (.c (.int (1)))),(.ix (.v 4) (.c (.int (0)))),(.v 2)]),.set 5 (.tup [(.c (.str "named")),(.v 1)]),.set 6 (.meth (.fld (.v 0) "heads" [] ["Body"]) "told_kind" [("Heads",69)] [(.v 5)]),.ret (.tup [(.fn 23 [(.c (.str "make")),(.v 6),(.v 3),(.v 6)]),(.v 5),(.v 2)])]⟩
noncomputable def cb:Fn:=⟨4,6,[.ex (.fn 30 [(.ix (.v 3) (.c (.int (0)))),(.c (.str "named")),(.v 2)]),.set 4 (.meth (.fld (.v 0) "heads" [] ["Body"]) "field_number" [("Heads",71)] [(.ix (.ix (.v 3) (.c (.int (0)))) (.c (.int (1)))),(.v 1),(.v 2)]),.set 5 (.ix (.ix (.meth (.fld (.v 0) "heads" [] ["Body"]) "fields_of" [("Heads",70)] [(.ix (.ix (.v 3) (.c (.int (0)))) (.c (.int (1))))]) (.v 4)) (.c (.int (1)))),.ret (.tup [(.fn 23 [(.c (.str "get")),(.v 4),(.v 3),(.v 5)]),(.v 5),(.v 2)])]⟩
noncomputable def tab:List Fn:=[gc,ge,f8,gd,ja,gf,f7,jd,jc,jb,ik,eL,f6,eK,dB,dX,f9,cQ,dA,il,eJ,cR,kt,ij,eI,dY,f_,dW,ft,eM,fk,gb,dC,eN,fv,gh,fu,gi,dZ,bA,rY,gk,gj,eR,cF,d3,dH,eS,d4,eT,cY,d5,ci,d0,dG,bS,bN,bM,dD,da,dF,eP,dE,b9,eO,bP,eQ,bG,cg,cT,cU,b_,fw,cj,ck,cI,cG,bV,cK,cH,ca,dI,cm,cq,cJ,cb]
local macro_rules| `(tactic|walk_at "call0")=> `(tactic|(refine m7 rfl rfl ?_;dsimp only[gc,ge,f8,gd,ja,gf,f7,jd,jc,jb,ik,eL,f6,eK,dB,dX,f9,cQ,dA,il,eJ,cR,kt,ij,eI,dY,f_,dW,ft,eM,fk,gb,dC,eN,fv,gh,fu,gi,dZ,bA,rY,gk,gj,eR,cF,d3,dH,eS,d4,eT,cY,d5,ci,d0,dG,bS,bN,bM,dD,da,dF,eP,dE,b9,eO,bP,eQ,bG,cg,cT,cU,b_,fw,cj,ck,cI,cG,bV,cK,cH,ca,dI,cm,cq,cJ,cb,List.map,List.length,List.replicate,List.append,HAppend.hAppend,Append.append]))
local macro_rules| `(tactic|walk_at "callx0")=> `(tactic|(refine w_callX rfl rfl ?_;dsimp only[gc,ge,f8,gd,ja,gf,f7,jd,jc,jb,ik,eL,f6,eK,dB,dX,f9,cQ,dA,il,eJ,cR,kt,ij,eI,dY,f_,dW,ft,eM,fk,gb,dC,eN,fv,gh,fu,gi,dZ,bA,rY,gk,gj,eR,cF,d3,dH,eS,d4,eT,cY,d5,ci,d0,dG,bS,bN,bM,dD,da,dF,eP,dE,b9,eO,bP,eQ,bG,cg,cT,cU,b_,fw,cj,ck,cI,cG,bV,cK,cH,ca,dI,cm,cq,cJ,cb,List.map,List.length,List.replicate,List.append,HAppend.hAppend,Append.append]))
local macro_rules| `(tactic|walk_at "call")=> `(tactic|(walk_at "call0";walk_at "ev"))
local macro_rules| `(tactic|walk_at "callx")=> `(tactic|(walk_at "callx0";walk_at "ev"))
theorem eq_str{a b:Str}:gJ 60 st (.str a) (.str b)=some (a==b):=by simp[gJ,shape,vQ]
noncomputable def vE:Ex->Option Nat
 | .v j=>some j
 |_=>none
theorem tN(h:vE e=some j):e=.v j:=by unfold vE at h;split at h<;>cases h;rfl
noncomputable def sE:Ex->Option Str
 | .c d=>(match d with
  | .str k=>some k
  |_=>none)
 |_=>none
theorem kU{k:Str}(h:sE e=some k):e=.c (.str k):=by
 unfold sE at h;split at h
 ·split at h<;>cases h;rfl
 ·cases h
noncomputable def uE:Ex->Option (List Ex)
 | .tup es=>some es
 |_=>none
theorem yR{es:List Ex}(h:uE e=some es):e=.tup es:=by unfold uE at h;split at h<;>cases h;rfl
noncomputable def Ez(i:Nat)(w:Str)(c:Ex):Option (Option Bool):=match c with
 | .cmp op x y=>(vE x).bind λj=>if j=i then(match op with
  | .Eq=>(sE y).map λk=>some (w==k)
  | .NotEq=>(sE y).map λk=>some (!(w==k))
  | .In=>(uE y).bind λes=>(jP es).bind λq=>(sE q.1).bind λk1=>(sE q.2).map λk2=>some (k1==w||k2==w)
  |_=>none) else none
 | .and x _=>(match x with
  | .cmp op x y=>(match op with
   | .Eq=>(vE x).bind λj=>if j=i then(sE y).map λk=>if w==k then none else some false else none
   |_=>none)
  |_=>none)
 |_=>none
noncomputable def Cl:S->Bool
 | .ite _ _ _=>true
 |_=>false
noncomputable def pick:Nat->S->Str->Nat->Option (List S)
 |0,_,_,_=>none
 |n+1,s,w,i=>match s with
  | .ite c a b=>(Ez i w c).bind λr=>match r with
   |some k=>if k=true then some a else(one b).elim (some b) λs'=>if Cl s'=true then pick n s' w i else some b
   |none=>some [s]
  |_=>none
theorem kA{s:S}(h:W (exec g s loc st) Q):W (execs g [s] loc st) Q:=by
 rw[execs];refine aF (h.mono λr st1 q=>?_);cases r with
 |nx l=>exact am q
 |rt d=>exact q
 |ex n l=>exact q
theorem wj{s:S}(h:W (execs g [s] loc st) Q):W (exec g s loc st) Q:=by
 rw[execs] at h;unfold aZ at h;cases e:exec g s loc st with
 |bad=>rw[e] at h;exact h
 |ok r st1=>
  rw[e] at h;cases r with
  |nx l=>have h:W (execs g [] l st1) Q:=h;rw[execs] at h;exact h
  |rt d=>exact h
  |ex n l=>exact h
theorem tI{c:Ex}{a b:List S}(k:Bool)(h:W (run g c loc st) λz st1=>z=.bl k/\W (execs g (if k=true then a else b) loc st1) Q):W (exec g (.ite c a b) loc st) Q:=by
 rw[exec];refine aF (h.mono λz st1 hp=>?_);obtain⟨rfl,q⟩:=hp;cases k with
 |true=>exact q
 |false=>exact q
theorem A_{Q:D->aK->Prop}{w:Str}{i:Nat}{c:Ex}{r:Bool}(hi:loc[i]? =some (some (.str w)))(h:Ez i w c=some (some r))(hq:Q (.bl r) st):W (run g c loc st) Q:=by
 cases c with
 |cmp op x y=>
  obtain⟨j,hj,h3⟩:=bs h;obtain⟨ej,h4⟩:=fS h3;clear h h3;subst ej;cases tN hj;cases op with
  |Eq=>obtain⟨k,hk,e⟩:=map_some h4;cases kU hk;cases e;exact bf (av hi (aO (w_eq eq_str hq)))
  |NotEq=>obtain⟨k,hk,e⟩:=map_some h4;cases kU hk;cases e;exact bf (av hi (aO (tG eq_str hq)))
  |In=>
   obtain⟨es,he,h5⟩:=bs h4;obtain⟨z,hp,h6⟩:=bs h5;obtain⟨k1,h1,h7⟩:=bs h6;obtain⟨k2,h2,e⟩:=map_some h7;cases e;cases yR he;rw[eU hp,kU h1,kU h2];exact bf (av hi (ba (ab (aO (ab (aO (ah (w_inS rfl (by simp only[e8,eq_str,Bool.or_false]) hq))))))))
  |_=>cases h4
 |and x y=>
  cases x with
  |cmp op x y=>
   cases op with
   |Eq=>
    obtain⟨j,hj,h3⟩:=bs h;obtain⟨ej,h4⟩:=fS h3;clear h h3;subst ej;cases tN hj;obtain⟨k,hk,e⟩:=map_some h4;cases kU hk;cases q:w==k with
    |true=>rw[q] at e;cases e
    |false=>
     rw[q] at e;cases e;exact w_and (bf (av hi (aO (w_eq eq_str ⟨_,rfl,(λz=>by rw[q] at z;cases z),λ_=>hq⟩))))
   |_=>cases h
  |_=>cases h
 |_=>cases h
theorem kz{g:eB}{loc:Loc}{st:aK}{Q:Fl->aK->Prop}{w:Str}{i:Nat}(hi:loc[i]? =some (some (.str w))):∀(n:Nat){s:S}{br:List S},pick n s w i=some br->W (execs g br loc st) Q->W (exec g s loc st) Q
 |0,_,_,h,_=>by cases h
 |n+1,s,br,h,k=>by
  cases s with
  |ite c a b=>
   obtain⟨r,ht,h⟩:=bs h;cases r with
   |none=>cases h;exact wj k
   |some t=>
    refine tI t (A_ hi ht ⟨rfl,?_⟩);cases t with
    |true=>cases h;exact k
    |false=>
     rcases kj h with⟨s',ho,h⟩|⟨_,h⟩
     ·cases dv ho;rcases D2 h with⟨_,h⟩|h
      ·exact kA (kz hi n h k)
      ·cases h;exact k
     ·cases h;exact k
  |_=>cases h
theorem km:∀{fs:List (Str×D)}{m:Str},(fs.map (·.1)).contains m=false->fs.lookup m=none
 |[],_,_=>rfl
 |(a,w)::r,m,h=>by simp only[List.map_cons,List.contains_cons,Bool.or_eq_false_iff] at h;simp only[List.lookup_cons,h.1];exact km h.2
theorem lk:∀{fs:List (Str×D)}{f:Str}{d:D}(i:Nat),fs[i]? =some (f,d)->((fs.take i).map (·.1)).contains f=false->fs.lookup f=some d
 |(a,w)::r,f,d,0,h,_=>by simp at h;obtain⟨rfl,rfl⟩:=h;simp[List.lookup_cons]
 |(a,w)::r,f,d,i+1,h,k=>by
  simp only[List.take_succ_cons,List.map_cons,List.contains_cons,Bool.or_eq_false_iff] at k;simp only[List.lookup_cons,k.1];exact lk i (by simpa using h) k.2
theorem Cy{c:Str}{fs:List (Str×D)}{ics:List Str}{P:D->Prop}(hp:st1[p]? =some (.ins c fs))(i:Nat)(hi:fs[i]? =some (f,d))(q:P d)(hc:c∈ics:=by decide+kernel)(hk:((fs.take i).map (·.1)).contains f=false:=by(simp only[List.nil_append,List.cons_append,List.take_succ_cons,List.take_zero,List.map_cons,List.map_nil];decide+kernel)):∃n c fs d,D.ref p=.ref n/\st1[n]? =some (.ins c fs)/\fs.lookup f=some d/\c∈ics/\P d:=⟨p,c,fs,d,rfl,hp,lk i hi hk,hc,q⟩
theorem z_{c m:Str}{fs:List (Str×D)}{ms:List (Str×Nat)}{P:Nat->Nat->Prop}(hp:st1[p]? =some (.ins c fs))(hj:ms.lookup c=some j)(q:P p j)(hk:(fs.map (·.1)).contains m=false:=by(simp only[List.nil_append,List.cons_append,List.map_cons,List.map_nil];decide+kernel)):∃n c fs j,D.ref p=.ref n/\st1[n]? =some (.ins c fs)/\fs.lookup m=none/\ms.lookup c=some j/\P n j:=⟨p,c,fs,j,rfl,hp,km hk,hj,q⟩
theorem rq:∀{fs:List (Str×D)}{f:Str}{v:D},(fs.map (·.1)).contains f=false->putD f v fs=fs++[(f,v)]
 |[],_,_,_=>rfl
 |(a,w)::r,f,v,h=>by
  simp only[List.map_cons,List.contains_cons,Bool.or_eq_false_iff] at h;have hne:a≠f:=λz=>by simp[z] at h
  simp[putD,hne,rq h.2]
theorem gN{cs ics:List Str}(h0:loc[0]? =some (some (.ref p)))
  (h:W (run g e loc st) λd st1=>∃c fs,(st1[p]? =some (.ins c fs)/\fs.length<900/\c∈ics/\(fs.map (·.1)).contains f=false)/\W (execs g ss loc (st1.set p (.ins c (fs++[(f,d)])))) Q):W (execs g (.setf (.v 0) f e cs ics::ss) loc st) Q:=
 gL (h.mono λd st1 ⟨c,fs,⟨hp,hl,hc,hk⟩,q⟩=>av h0 (fe hp ⟨hl,hc⟩ (by rw[rq hk];exact q)))
theorem o7{c:Str}{fs:List (Str×D)}{ics:List Str}{P:Str->List (Str×D)->Prop}(hp:st1[p]? =some (.ins c fs))(q:P c fs)(hl:fs.length<900:=by simp)(hc:c∈ics:=by decide+kernel)(hk:(fs.map (·.1)).contains f=false:=by(simp only[List.nil_append,List.cons_append,List.map_cons,List.map_nil];decide+kernel)):∃c fs,(st1[p]? =some (.ins c fs)/\fs.length<900/\c∈ics/\(fs.map (·.1)).contains f=false)/\P c fs:=⟨c,fs,⟨hp,hl,hc,hk⟩,q⟩
theorem sn{i:Nat}{o x:O}(h:st[i]? =some o)(hne:j≠i):(st.set j x)[i]? =some o:=by rw[bd hne];exact h
structure Fm where
 a:Nat
 kvs:List (Key×D)
 ws:List D
 ps:List D
noncomputable def vL(a:Nat):List (Str×D):=[("have",.ref a),("waiting",.ref (a+2)),("reckoned_parts",.ref (a+3))]
noncomputable def gH(R t:Nat)(B tk sp:Int)(en th:D):List (Str×D):=[("budget",.int B),("log",.ref (R+1)),("took",.int tk),("steps",.int sp),("ending",en),("thing",th),("program",.ref t),("frames",.ref (R+2))]
structure FmAt(st:aK)(f:Fm):Prop where
 hv:st[f.a]? =some (.dct f.kvs)
 fm:st[f.a+1]? =some (.ins "Frame" (vL f.a))
 wt:st[f.a+2]? =some (.lst f.ws.reverse)
 pt:st[f.a+3]? =some (.lst f.ps.reverse)
noncomputable def Fs(lo:Nat)(st:aK):Nat->List Fm->Prop
 |_,[]=>True
 |hi,f::r=>(lo<=f.a/\f.a+4<=hi)/\FmAt st f/\Fs lo st f.a r
theorem FmAt.keep{f:Fm}(h:FmAt st f)(k:∀i o,f.a<=i->i<f.a+4->st[i]? =some o->st'[i]? =some o):FmAt st' f:=
 ⟨k _ _ (by omega) (by omega) h.hv,k _ _ (by omega) (by omega) h.fm,k _ _ (by omega) (by omega) h.wt,k _ _ (by omega) (by omega) h.pt⟩
theorem Fs.keep{lo:Nat}:∀{fs:List Fm}{hi hi':Nat},Fs lo st hi fs->hi<=hi'->(∀i o,lo<=i->i<hi->st[i]? =some o->st'[i]? =some o)->Fs lo st' hi' fs
 |[],_,_,_,_,_=>trivial
 |f::r,hi,hi',h,l,k=>⟨⟨h.1.1,aT h.1.2 l⟩,h.2.1.keep λi o h1 h2 e=>k i o (aT h.1.1 h1) (ao h2 h.1.2) e,Fs.keep h.2.2 (ae _) λi o h1 h2 e=>k i o h1 (by have:=h.1.2;omega) e⟩
structure Rp(b:aK)(t:Nat)(B:Int)(st:aK)(fs:List Fm)(lg:List D)(tk:Int)(en th:D):Prop where
 gr:Gr b st
 br:∃sp,st[b.length]? =some (.ins "Runner" (gH b.length t B tk sp en th))
 lg:st[b.length+1]? =some (.lst lg)
 fr:st[b.length+2]? =some (.lst (fs.map λf=>D.ref (f.a+1)).reverse)
 fo:Fs (b.length+3) st st.length fs
section
variable{b st st':aK}{t:Nat}{B tk tk' sp':Int}{fs r:List Fm}{f:Fm}{lg lg':List D}{en th en' th':D}
theorem jG{o:O}(h:Gr b st)(hj:b.length<=j):Gr b (st.set j o):=by obtain⟨u,rfl⟩:=h;rw[List.set_append_right _ _ hj];exact⟨_,rfl⟩
theorem Rp.more(h:Rp b t B st fs lg tk en th)(g:Gr st st'):Rp b t B st' fs lg tk en th:=
 ⟨h.gr.trans g,let⟨sp,e⟩:=h.br;⟨sp,g.at e⟩,g.at h.lg,g.at h.fr,h.fo.keep g.le λi o _ _ e=>g.at e⟩
theorem Rp.rn(h:Rp b t B st fs lg tk en th):Rp b t B (st.set b.length (.ins "Runner" (gH b.length t B tk' sp' en' th'))) fs lg tk' en' th':=
 ⟨jG h.gr (ae _),⟨sp',dO (by obtain⟨_,e⟩:=h.br;exact(aL e).1)⟩,sn h.lg (by omega),sn h.fr (by omega),h.fo.keep (by simp) λi o h1 _ e=>sn e (by omega)⟩
theorem Rp.lgs(h:Rp b t B st fs lg tk en th):Rp b t B (st.set (b.length+1) (.lst lg')) fs lg' tk en th:=
 ⟨jG h.gr (by omega),let⟨sp,e⟩:=h.br;⟨sp,sn e (by omega)⟩,dO (aL h.lg).1,sn h.fr (by omega),h.fo.keep (by simp) λi o h1 _ e=>sn e (by omega)⟩
theorem Rp.pop(h:Rp b t B st (f::r) lg tk en th):Rp b t B (st.set (b.length+2) (.lst (r.map λf=>D.ref (f.a+1)).reverse)) r lg tk en th:=
 ⟨jG h.gr (by omega),let⟨sp,e⟩:=h.br;⟨sp,sn e (by omega)⟩,sn h.lg (by omega),dO (aL h.fr).1,h.fo.2.2.keep (by have:=h.fo.1.2;simp;omega) λi o h1 _ e=>sn e (by omega)⟩
theorem Rp.top(h:Rp b t B st (f::r) lg tk en th){o:O}{f':Fm}(hj:f.a<=j/\j<f.a+4)(ha:f'.a=f.a)(hf:FmAt (st.set j o) f'):Rp b t B (st.set j o) (f'::r) lg tk en th:=by
 have h1:=h.fo.1.1;have h2:=h.fo.1.2;refine⟨jG h.gr (by omega),let⟨sp,e⟩:=h.br;⟨sp,sn e (by omega)⟩,sn h.lg (by omega),?_,⟨⟨by rw[ha];exact h1,by rw[ha,aA];exact h2⟩,hf,?_⟩⟩
 ·have:=sn (x:=o) (j:=j) h.fr (by omega)
  rw[this];simp[ha]
 ·rw[ha];exact h.fo.2.2.keep (ae _) λi o _ h2 e=>sn e (by omega)
variable{kvs kvs':List (Key×D)}{ws ws' ps ps':List D}{a:Nat}
theorem Rp.wss{x:List D}(h:Rp b t B st (⟨a,kvs,ws,ps⟩::r) lg tk en th)(hx:x=ws'.reverse):Rp b t B (st.set (a+2) (.lst x)) (⟨a,kvs,ws',ps⟩::r) lg tk en th:=by
 subst hx;have f:=h.fo.2.1;exact h.top (f':=⟨a,kvs,ws',ps⟩) (by simp) rfl ⟨sn f.hv (by simp),sn f.fm (by simp),dO (aL f.wt).1,sn f.pt (by simp)⟩
theorem Rp.pss{x:List D}(h:Rp b t B st (⟨a,kvs,ws,ps⟩::r) lg tk en th)(hx:x=ps'.reverse):Rp b t B (st.set (a+3) (.lst x)) (⟨a,kvs,ws,ps'⟩::r) lg tk en th:=by
 subst hx;have f:=h.fo.2.1;exact h.top (f':=⟨a,kvs,ws,ps'⟩) (by simp) rfl ⟨sn f.hv (by simp),sn f.fm (by simp),sn f.wt (by simp),dO (aL f.pt).1⟩
theorem Rp.kvz(h:Rp b t B st (⟨a,kvs,ws,ps⟩::r) lg tk en th):Rp b t B (st.set a (.dct kvs')) (⟨a,kvs',ws,ps⟩::r) lg tk en th:=by
 have f:=h.fo.2.1;exact h.top (f':=⟨a,kvs',ws,ps⟩) (by simp) rfl ⟨dO (aL f.hv).1,sn f.fm (by simp),sn f.wt (by simp),sn f.pt (by simp)⟩
end
section
variable{R t p a:Nat}{B tk sp tk' sp':Int}{en th en' th' d:D}{f m:Str}{st:aK}{ics:List Str}{ms:List (Str×Nat)}{j:Nat}
theorem uz:(gH R t B tk sp en th).lookup ("budget":Str)=some (.int B):=lk 0 rfl rfl
theorem uw:(gH R t B tk sp en th).lookup ("log":Str)=some (.ref (R+1)):=lk 1 rfl (by show List.contains (["budget"]:List Str) ("log":Str)=false;decide+kernel)
theorem ke:(gH R t B tk sp en th).lookup ("took":Str)=some (.int tk):=lk 2 rfl (by show List.contains (["budget","log"]:List Str) ("took":Str)=false;decide+kernel)
theorem oH:(gH R t B tk sp en th).lookup ("steps":Str)=some (.int sp):=lk 3 rfl (by show List.contains (["budget","log","took"]:List Str) ("steps":Str)=false;decide+kernel)
theorem jt:(gH R t B tk sp en th).lookup ("ending":Str)=some en:=lk 4 rfl (by show List.contains (["budget","log","took","steps"]:List Str) ("ending":Str)=false;decide+kernel)
theorem uv:(gH R t B tk sp en th).lookup ("thing":Str)=some th:=lk 5 rfl (by show List.contains (["budget","log","took","steps","ending"]:List Str) ("thing":Str)=false;decide+kernel)
theorem rl:(gH R t B tk sp en th).lookup ("program":Str)=some (.ref t):=lk 6 rfl (by show List.contains (["budget","log","took","steps","ending","thing"]:List Str) ("program":Str)=false;decide+kernel)
theorem bo:(gH R t B tk sp en th).lookup ("frames":Str)=some (.ref (R+2)):=lk 7 rfl (by show List.contains (["budget","log","took","steps","ending","thing","program"]:List Str) ("frames":Str)=false;decide+kernel)
theorem bL(h:List.contains (["budget","log","took","steps","ending","thing","program","frames"]:List Str) (m:Str)=false):(gH R t B tk sp en th).lookup m=none:=km h
theorem Cw:(vL a).lookup ("have":Str)=some (.ref a):=lk 0 rfl rfl
theorem iN:(vL a).lookup ("waiting":Str)=some (.ref (a+2)):=lk 1 rfl (by show List.contains (["have"]:List Str) ("waiting":Str)=false;decide+kernel)
theorem qt:(vL a).lookup ("reckoned_parts":Str)=some (.ref (a+3)):=lk 2 rfl (by show List.contains (["have","waiting"]:List Str) ("reckoned_parts":Str)=false;decide+kernel)
theorem i_(h:List.contains (["have","waiting","reckoned_parts"]:List Str) (m:Str)=false):(vL a).lookup m=none:=km h
theorem fq{c:Str}{fs:List (Str×D)}{P:D->Prop}(hp:st[p]? =some (.ins c fs))(hl:fs.lookup f=some d)(q:P d)(hc:c∈ics:=by decide+kernel):∃n c fs d,D.ref p=.ref n/\st[n]? =some (.ins c fs)/\fs.lookup f=some d/\c∈ics/\P d:=⟨p,c,fs,d,rfl,hp,hl,hc,q⟩
theorem mq{c:Str}{fs:List (Str×D)}{P:Nat->Nat->Prop}(hp:st[p]? =some (.ins c fs))(hl:fs.lookup m=none)(hj:ms.lookup c=some j)(q:P p j):∃n c fs j,D.ref p=.ref n/\st[n]? =some (.ins c fs)/\fs.lookup m=none/\ms.lookup c=some j/\P n j:=⟨p,c,fs,j,rfl,hp,hl,hj,q⟩
theorem dq{a f:Str}{w:D}{r:List (Str×D)}(h:(a==f)=false):putD f v ((a,w)::r)=(a,w)::putD f v r:=by
 have hne:a≠f:=λz=>by simp[z] at h
 rw[putD,if_neg hne]
theorem kf{f:Str}{w:D}{r:List (Str×D)}:putD f v ((f,w)::r)=(f,v)::r:=by rw[putD,if_pos rfl]
theorem uD:putD "took" (.int tk') (gH R t B tk sp en th)=gH R t B tk' sp en th:=by
 unfold gH;rw[dq (by decide+kernel),dq (by decide+kernel),kf]
theorem sy:putD "steps" (.int sp') (gH R t B tk sp en th)=gH R t B tk sp' en th:=by
 unfold gH;rw[dq (by decide+kernel),dq (by decide+kernel),dq (by decide+kernel),kf]
theorem fU:putD "ending" en' (gH R t B tk sp en th)=gH R t B tk sp en' th:=by
 unfold gH;rw[dq (by decide+kernel),dq (by decide+kernel),dq (by decide+kernel),dq (by decide+kernel),kf]
theorem jv:putD "thing" th' (gH R t B tk sp en th)=gH R t B tk sp en th':=by
 unfold gH;rw[dq (by decide+kernel),dq (by decide+kernel),dq (by decide+kernel),dq (by decide+kernel),dq (by decide+kernel),kf]
end
section
variable{k:Nat}{st:aK}{Q:D->aK->Prop}{p:Nat}
theorem w6{b:D}(hp:st[p]? =some (.ins "Runner" []))(h:Q .non ((st++[O.lst []]).set p (.ins "Runner" [("budget",b),("log",.ref st.length),("took",.int 0),("steps",.int 0),("ending",.non),("thing",.non)]))):Wv (calls tab (k+1) nI [.ref p,b] st) Q:=by
 walk_at "call0"
 have hlt:=(aL hp).1;refine gN rfl (av rfl (o7 hp ?_));refine gN rfl (gp (ah (o7 (bU (dO hlt)) ?_)));rw[aA,bc _ _ (by rw[aA];exact hlt),List.set_set]
 refine gN rfl (aO (o7 (bU (dO hlt)) ?_));rw[bc _ _ (by rw[aA];exact hlt),List.set_set]
 refine gN rfl (aO (o7 (bU (dO hlt)) ?_));rw[bc _ _ (by rw[aA];exact hlt),List.set_set]
 refine gN rfl (aO (o7 (bU (dO hlt)) ?_));rw[bc _ _ (by rw[aA];exact hlt),List.set_set]
 refine gN rfl (aO (o7 (bU (dO hlt)) ?_));rw[bc _ _ (by rw[aA];exact hlt),List.set_set]
 refine am (bg ?_);rw[bc _ _ hlt] at h;exact h
theorem oG(h:∀st',Rp st t B st' [] [] 0 .non .non->Q .non st'):Wv (calls tab (k+2) me [.ref st.length,.ref t,.int B] (st++[.ins "Runner" []])) Q:=by
 obtain⟨s0,hs0⟩:∃s0,s0=st++[O.ins "Runner" []]:=⟨_,rfl⟩;rw[<-hs0]
 walk_at "call0"
 rw[hs0];refine cf (bW (ab (av rfl (ab (av rfl (ah (w6 (k:=k) bJ ?_)))))));rw[List.append_assoc,show [O.ins "Runner" []]++[O.lst []]=[O.ins "Runner" [],O.lst []] from rfl,dn];have e:(st++[O.ins "Runner" []]).length=st.length+1:=by simp
 rw[e];refine gN rfl (av rfl (o7 pL ?_));rw[dn];refine gN rfl (gp (ah (o7 (bU pL) ?_)));refine am (bg (h _ ?_));rw[bc _ _ (by simp),dn]
 have e2:∀a b:O,(st++[a,b]).length=st.length+2:=λa b=>by simp
 rw[e2];refine⟨⟨_,by rw[List.append_assoc]⟩,⟨0,?_⟩,?_,?_,trivial⟩
 ·rw[List.append_assoc];simp[gH]
 ·rw[List.append_assoc];simp
 ·rw[List.append_assoc];simp
theorem rj{H:Nat}{kvs:List (Key×D)}(hH:st.length=H+1)(hv:st[H]? =some (.dct kvs))(h:FmAt (st++[O.ins "Frame" (vL H),.lst [.tup [.str "rows",x,.int 0]],.lst []]) ⟨H,kvs,[.tup [.str "rows",x,.int 0]],[]⟩->Q .non (st++[O.ins "Frame" (vL H),.lst [.tup [.str "rows",x,.int 0]],.lst []])):Wv (calls tab (k+1) nJ [.ref st.length,.ref H,x] (st++[.ins "Frame" []])) Q:=by
 obtain⟨s0,hs0⟩:∃s0,s0=st++[O.ins "Frame" []]:=⟨_,rfl⟩;rw[<-hs0]
 walk_at "call0"
 rw[hs0];have e:∀a:O,(st++[a]).length=st.length+1:=λa=>by simp
 have e2:∀a b:O,(st++[a,b]).length=st.length+2:=λa b=>by simp
 refine gN rfl (av rfl (o7 bJ ?_));rw[nk];refine gN rfl (gp (ab (ba (ab (aO (ab (av rfl (ab (aO (ah (ah (o7 (bU bJ) ?_))))))))))));rw[e,List.append_assoc,show ∀a b:O,[a]++[b]=[a,b] from λ_ _=>rfl,dn];refine gN rfl (gp (ah (o7 (bU pL) ?_)));refine am (bg ?_);rw[bc _ _ (by simp),dn,e2]
 have z:=h ⟨bU hv,by rw[<-hH];simp,by show _=some (O.lst [_]);rw[aQ (by simp only;omega)];simp[hH],by rw[aQ (by simp only;omega)];simp[hH]⟩
 simpa[vL,hH] using z
end
noncomputable def Fa:S:=bN.body.getD 1 .stop
noncomputable def EG:S:=bM.body.getD 1 .stop
noncomputable def EM:S:=dD.body.getD 1 .stop
noncomputable def qc:List Str:=["const","local","op","call","let","set","if","while","log","do","return","raise","try"]
section
variable{k:Nat}{b st:aK}{Q:D->aK->Prop}{t a:Nat}{B tk:Int}{kvs:List (Key×D)}{ws ps:List D}{r:List Fm}{lg:List D}{en th:D}
theorem Rp.fm(h:Rp b t B st (⟨a,kvs,ws,ps⟩::r) lg tk en th):st[a+1]? =some (.ins "Frame" (vL a)):=h.fo.2.1.fm
theorem Rp.wt(h:Rp b t B st (⟨a,kvs,ws,ps⟩::r) lg tk en th):st[a+2]? =some (.lst ws.reverse):=h.fo.2.1.wt
theorem Rp.pt(h:Rp b t B st (⟨a,kvs,ws,ps⟩::r) lg tk en th):st[a+3]? =some (.lst ps.reverse):=h.fo.2.1.pt
theorem Rp.hv(h:Rp b t B st (⟨a,kvs,ws,ps⟩::r) lg tk en th):st[a]? =some (.dct kvs):=h.fo.2.1.hv
theorem xy:iH (xs++[x]) (-1)=some x:=by
 unfold iH sN;simp only[List.length_append,List.length_cons,List.length_nil];rw[if_neg (by omega),if_pos (by omega)]
 show(xs++[x])[_]? =some x;rw[show(-1+(((xs.length+(0+1):Nat)):Int)).toNat=xs.length by omega]
 simp
theorem A1:iH (x::xs) 0=some x:=by unfold iH sN;simp
theorem Rp.at1(h:Rp b t B st (⟨a,kvs,ws,ps⟩::r) lg tk en th){P:D->aK->Prop}(q:P (.ref (a+1)) st):W (index (.ref (b.length+2)) (.int (-1)) st) P:=by refine cZ h.fr ?_ q;rw[List.map_cons,List.reverse_cons];exact xy
theorem um(hR:Rp b t B st (⟨a,kvs,.tup (.str s::xs)::ws,ps⟩::r) lg tk en th)(h:∀st',Rp b t B st' (⟨a,kvs,ws,ps⟩::r) lg tk en th->W (execs (calls tab k) (bS.body.drop 3) [some (.ref b.length),some (.ref (a+1)),some (.tup (.str s::xs))] st') (Kr Q)):Wv (calls tab (k+1) aq [.ref b.length] st) Q:=by
 walk_at "call0"
 obtain⟨sp,hb⟩:=hR.br;refine bB (aW (aN (av rfl (fq hb bo (iR (aO ⟨1,rfl,hR.at1 ?_⟩))))));refine bu (bf (dN (ab (aN (av rfl (fq hR.fm iN (ah (c0 hR.wt (aO ?_)))))))));refine fL ⟨false,by simp;omega,nofun,λ_=>am (bi ?_)⟩
 refine bB (eV (aN (av rfl (fq hR.fm iN ⟨_,_,.tup (.str s::xs),rfl,hR.wt,by simp,?_⟩))))
 exact h _ (hR.wss (by simp))
theorem et(hR:Rp b t B st (⟨a,kvs,.tup (.str s::xs)::ws,ps⟩::r) lg tk en th)(hs:qc.contains s=true)(hp:pick 20 Fa s 3=some br)
  (h:∀st',Rp b t B st' (⟨a,kvs,ws,ps⟩::r) lg tk en th->W (execs (calls tab k) br [some (.ref b.length),some (.ref (a+1)),some (.tup (.str s::xs)),some (.str s)] st') (Kr λ_ st2=>Q .non st2)):Wv (calls tab (k+2) aq [.ref b.length] st) Q:=by
 refine um (k:=k+1) hR λs1 h1=>?_;dsimp only[bS,List.drop];refine bu (yf (aW (av rfl (aO (aU A1 ⟨s,rfl,true,congrArg D.bl hs,λ_=>?_,nofun⟩)))));obtain⟨sp,hb⟩:=h1.br;refine tL (av rfl ⟨_,_,_,sp,rfl,hb,oH,by decide+kernel,aO ⟨1,_,rfl,hb,by simp[gH],?_⟩⟩)
 rw[sy];have h2:Rp b t B _ (⟨a,kvs,ws,ps⟩::r) lg tk en th:=h1.rn (sp':=sp+1);obtain⟨sp2,hb2⟩:=h2.br;refine cf (a9 (av rfl (mq hb2 (bL (by decide+kernel)) rfl (ab (av rfl (ab (av rfl (ah ?_))))))))
 refine m7 rfl rfl (bB (aW (av rfl (aO (aU A1 (kA (kz (w:=s) (i:=3) rfl 20 hp ((h _ h2).mono λf st3 q=>?_))))))));cases f with
 |nx l=>exact bg (am (bi (am (bg q))))
 |rt d=>exact cA (am (bi (am (bg q))))
 |ex n l=>exact q.elim
theorem fG(hR:Rp b t B st (⟨a,kvs,.tup (.str s::xs)::ws,ps⟩::r) lg tk en th)(hs:qc.contains s=false)(hp:pick 20 EG s 3=some br)
  (h:∀st',Rp b t B st' (⟨a,kvs,ws,ps⟩::r) lg tk en th->W (execs (calls tab k) br [some (.ref b.length),some (.ref (a+1)),some (.tup (.str s::xs)),some (.str s)] st') (Kr λ_ st2=>Q .non st2)):Wv (calls tab (k+2) aq [.ref b.length] st) Q:=by
 refine um (k:=k+1) hR λs1 h1=>?_;dsimp only[bS,List.drop];refine bu (yf (aW (av rfl (aO (aU A1 ⟨s,rfl,false,congrArg D.bl hs,nofun,λ_=>?_⟩)))));obtain⟨sp,hb⟩:=h1.br;refine cf (a9 (av rfl (mq hb (bL (by decide+kernel)) rfl (ab (av rfl (ab (av rfl (ah ?_))))))))
 refine m7 rfl rfl (bB (aW (av rfl (aO (aU A1 (kA (kz (w:=s) (i:=3) rfl 20 hp ((h _ h1).mono λf st3 q=>?_))))))));cases f with
 |nx l=>exact bg (am (bi (am (bg q))))
 |rt d=>exact cA (am (bi (am (bg q))))
 |ex n l=>exact q.elim
theorem zf(hl:ws.length<1000/\ys.length<1000)(hR:Rp b t B st (⟨a,kvs,ws,ps⟩::r) lg tk en th)(h:∀st',Rp b t B st' (⟨a,kvs,ys++x::ws,ps⟩::r) lg tk en th->Q .non st'):Wv (calls tab (k+1) jF [.ref (a+1),x,.tup ys] st) Q:=by
 walk_at "call0"
 refine ff (aN (av rfl (fq hR.fm iN (cP hR.wt (av rfl ?_)))));refine bY hR.wt (by simp;omega) ?_
 have h1:Rp b t B (st.set (a+2) (.lst (ws.reverse++[x]))) (⟨a,kvs,x::ws,ps⟩::r) lg tk en th:=hR.wss (by simp)
 refine Bd (aN (av rfl (fq h1.fm iN (cP h1.wt (yN (av rfl ⟨_,rfl,?_⟩))))));refine tK (bU h1.wt) bJ (by simp;omega) ?_
 exact am (bg (h _ ((h1.more (.one _ _)).wss (by simp))))
theorem fC(h1:loc[1]? =some (some (.ref (a+1))))(hl:ws.length<1000/\ys.length<1000)(hR:Rp b t B st (⟨a,kvs,ws,ps⟩::r) lg tk en th)
  (he:W (runs (calls tab (k+1)) [e1,e2] loc st) λds st1=>ds=[x,.tup ys]/\st1=st)(h:∀st',Rp b t B st' (⟨a,kvs,ys++x::ws,ps⟩::r) lg tk en th->Q .non st'):
  W (execs (calls tab (k+1)) [.ex (.meth (.v 1) "wait_for" [("Frame",50)] [e1,e2])] loc st) (Kr λ_ st2=>Q .non st2):=by
 refine cf (a9 (av h1 (mq hR.fm (i_ (by decide+kernel)) rfl (he.mono λds st1 hp=>?_))))
 obtain⟨rfl,rfl⟩:=hp;exact zf (k:=k) hl hR λst' q=>am (bg (h st' q))
variable{x d:D}
theorem dz(hl:ps.length<1000)(hR:Rp b t B st (⟨a,kvs,.tup [.str "const",.tup [x,d]]::ws,ps⟩::r) lg tk en th)(h:∀st',Rp b t B st' (⟨a,kvs,ws,d::ps⟩::r) lg tk en th->Q .non st'):Wv (calls tab (k+2) aq [.ref b.length] st) Q:=by
 refine et (k:=k) hR (by decide+kernel) rfl λs1 h1=>?_
 refine ff (aN (av rfl (fq h1.fm qt (cP h1.pt (aW (aW (av rfl (aO (aU rfl (aO (aU (d:=d) rfl ?_)))))))))));exact bY h1.pt (by simp;omega) (am (bg (h _ (h1.pss (by simp)))))
theorem bE{y:Str}(hl:ps.length<1000)(hd:fE kvs (.inr y)=some d)(hR:Rp b t B st (⟨a,kvs,.tup [.str "local",.str y,x]::ws,ps⟩::r) lg tk en th)(h:∀st',Rp b t B st' (⟨a,kvs,ws,d::ps⟩::r) lg tk en th->Q .non st'):Wv (calls tab (k+2) aq [.ref b.length] st) Q:=by
 refine et (k:=k) hR (by decide+kernel) rfl λs1 h1=>?_
 refine ff (aN (av rfl (fq h1.fm qt (cP h1.pt (aW (aN (av rfl (fq h1.fm Cw (aW (av rfl (aO (aU rfl (ye h1.hv hd ?_)))))))))))));exact bY h1.pt (by simp;omega) (am (bg (h _ (h1.pss (by simp)))))
theorem jH{o e:D}(hl:ws.length<1000/\ys.length<1000)(hR:Rp b t B st (⟨a,kvs,.tup [.str "op",o,e,.tup ys,kd]::ws,ps⟩::r) lg tk en th)(h:∀st',Rp b t B st' (⟨a,kvs,ys++ .tup [.str "reckon",.tup [.str "op",o,e,.tup ys,kd]]::ws,ps⟩::r) lg tk en th->Q .non st'):Wv (calls tab (k+3) aq [.ref b.length] st) Q:=
 et (k:=k+1) hR (by decide+kernel) rfl λs1 h1=>fC rfl hl h1 (ab (ba (ab (aO (ab (av rfl (ah (ab (aW (av rfl (aO (aU rfl (ah ⟨rfl,rfl⟩))))))))))))) h
theorem qr{f:D}(hl:ws.length<1000/\ys.length<1000)(hR:Rp b t B st (⟨a,kvs,.tup [.str "call",f,.tup ys,kd]::ws,ps⟩::r) lg tk en th)(h:∀st',Rp b t B st' (⟨a,kvs,ys++ .tup [.str "enter",.tup [.str "call",f,.tup ys,kd]]::ws,ps⟩::r) lg tk en th->Q .non st'):Wv (calls tab (k+3) aq [.ref b.length] st) Q:=
 et (k:=k+1) hR (by decide+kernel) rfl λs1 h1=>fC rfl hl h1 (ab (ba (ab (aO (ab (av rfl (ah (ab (aW (av rfl (aO (aU rfl (ah ⟨rfl,rfl⟩))))))))))))) h
theorem vC{e:D}(hl:ws.length<1000)(hR:Rp b t B st (⟨a,kvs,.tup [.str "let",y,e]::ws,ps⟩::r) lg tk en th)(h:∀st',Rp b t B st' (⟨a,kvs,e:: .tup [.str "keep",y]::ws,ps⟩::r) lg tk en th->Q .non st'):Wv (calls tab (k+3) aq [.ref b.length] st) Q:=
 et (k:=k+1) hR (by decide+kernel) rfl λs1 h1=>fC (ys:=[e]) rfl ⟨hl,by simp⟩ h1 (ab (ba (ab (aO (ab (aW (av rfl (aO (aU rfl (ah (ab (ba (ab (aW (av rfl (aO (aU rfl (ah (ah ⟨rfl,rfl⟩))))))))))))))))))) h
theorem rV{e:D}(hl:ws.length<1000)(hR:Rp b t B st (⟨a,kvs,.tup [.str "set",y,e]::ws,ps⟩::r) lg tk en th)(h:∀st',Rp b t B st' (⟨a,kvs,e:: .tup [.str "keep",y]::ws,ps⟩::r) lg tk en th->Q .non st'):Wv (calls tab (k+3) aq [.ref b.length] st) Q:=
 et (k:=k+1) hR (by decide+kernel) rfl λs1 h1=>fC (ys:=[e]) rfl ⟨hl,by simp⟩ h1 (ab (ba (ab (aO (ab (aW (av rfl (aO (aU rfl (ah (ab (ba (ab (aW (av rfl (aO (aU rfl (ah (ah ⟨rfl,rfl⟩))))))))))))))))))) h
theorem Ea{x:D}(hl:ws.length<1000)(hR:Rp b t B st (⟨a,kvs,.tup [.str "if",c,x,y]::ws,ps⟩::r) lg tk en th)(h:∀st',Rp b t B st' (⟨a,kvs,c:: .tup [.str "choose",.tup [.str "if",c,x,y]]::ws,ps⟩::r) lg tk en th->Q .non st'):Wv (calls tab (k+3) aq [.ref b.length] st) Q:=
 et (k:=k+1) hR (by decide+kernel) rfl λs1 h1=>fC (ys:=[c]) rfl ⟨hl,by simp⟩ h1 (ab (ba (ab (aO (ab (av rfl (ah (ab (ba (ab (aW (av rfl (aO (aU rfl (ah (ah ⟨rfl,rfl⟩)))))))))))))))) h
theorem xH{x:D}(hl:ws.length<1000)(hR:Rp b t B st (⟨a,kvs,.tup [.str "while",c,x]::ws,ps⟩::r) lg tk en th)(h:∀st',Rp b t B st' (⟨a,kvs,.tup [.str "ask",.tup [.str "while",c,x]]::ws,ps⟩::r) lg tk en th->Q .non st'):Wv (calls tab (k+2) aq [.ref b.length] st) Q:=by
 refine et (k:=k) hR (by decide+kernel) rfl λs1 h1=>?_
 refine ff (aN (av rfl (fq h1.fm iN (cP h1.wt (ba (ab (aO (ab (av rfl (ah ?_))))))))));exact bY h1.wt (by simp;omega) (am (bg (h _ (h1.wss (by simp)))))
theorem yF{e:D}(hl:ws.length<1000)(hR:Rp b t B st (⟨a,kvs,.tup [.str "log",e]::ws,ps⟩::r) lg tk en th)(h:∀st',Rp b t B st' (⟨a,kvs,e:: .tup [.str "write"]::ws,ps⟩::r) lg tk en th->Q .non st'):Wv (calls tab (k+3) aq [.ref b.length] st) Q:=
 et (k:=k+1) hR (by decide+kernel) rfl λs1 h1=>fC (ys:=[e]) rfl ⟨hl,by simp⟩ h1 (ab (ba (ab (aO (ah (ab (ba (ab (aW (av rfl (aO (aU rfl (ah (ah ⟨rfl,rfl⟩)))))))))))))) h
theorem d9{e:D}(hl:ws.length<1000)(hR:Rp b t B st (⟨a,kvs,.tup [.str "return",e]::ws,ps⟩::r) lg tk en th)(h:∀st',Rp b t B st' (⟨a,kvs,e:: .tup [.str "leave"]::ws,ps⟩::r) lg tk en th->Q .non st'):Wv (calls tab (k+3) aq [.ref b.length] st) Q:=
 et (k:=k+1) hR (by decide+kernel) rfl λs1 h1=>fC (ys:=[e]) rfl ⟨hl,by simp⟩ h1 (ab (ba (ab (aO (ah (ab (ba (ab (aW (av rfl (aO (aU rfl (ah (ah ⟨rfl,rfl⟩)))))))))))))) h
theorem Cr{x:D}(hl:ws.length<1000)(hR:Rp b t B st (⟨a,kvs,.tup [.str "try",x,y]::ws,ps⟩::r) lg tk en th)(h:∀st',Rp b t B st' (⟨a,kvs,.tup [.str "rows",x,.int 0]:: .tup [.str "tried",y]::ws,ps⟩::r) lg tk en th->Q .non st'):Wv (calls tab (k+3) aq [.ref b.length] st) Q:=
 et (k:=k+1) hR (by decide+kernel) rfl λs1 h1=>fC (ys:=[.tup [.str "rows",x,.int 0]]) rfl ⟨hl,by simp⟩ h1 (ab (ba (ab (aO (ab (aW (av rfl (aO (aU rfl (ah (ab (ba (ab (ba (ab (aO (ab (aW (av rfl (aO (aU rfl (ab (aO (ah (ah (ah ⟨rfl,rfl⟩)))))))))))))))))))))))))) h
end
section
variable{k:Nat}{b st:aK}{Q:D->aK->Prop}{t a:Nat}{B tk:Int}{kvs:List (Key×D)}{ws ps:List D}{r:List Fm}{lg:List D}{en th:D}{d:D}
theorem qP{v:Int}(h:Q (.tup [.str "num",.int v]) st):Wv (calls tab (k+1) i5 [.int v] st) Q:=by
 have e:calls tab (k+1) i5 [.int v] st=.ok (.v (.tup [.str "num",.int v])) st:=by kernel_rfl
 rw[e];exact h
theorem bD{i:Nat}(hl:ws.length<1000)(hy:xs[i]? =some y)(hR:Rp b t B st (⟨a,kvs,.tup [.str "rows",.tup xs,.int (i:Int)]::ws,ps⟩::r) lg tk en th)
  (h:∀st',Rp b t B st' (⟨a,kvs,y:: .tup [.str "rows",.tup xs,.int ((i:Int)+1)]::ws,ps⟩::r) lg tk en th->Q .non st'):Wv (calls tab (k+3) aq [.ref b.length] st) Q:=by
 have hi:=(aL hy).1;refine fG (k:=k+1) hR (by decide+kernel) rfl λs1 h1=>?_
 refine cf (bW (ab (av rfl (ab (aW (av rfl (aO (aU rfl (ab (aW (av rfl (aO (aU rfl (ah ?_))))))))))))))
 walk_at "call0"
 refine bu (bf (av rfl (dN (ab (av rfl (ah (gM (w_lt ⟨true,by simp;omega,λ_=>?_,nofun⟩))))))))
 refine ff (aN (av rfl (fq h1.fm iN (cP h1.wt (ba (ab (aO (ab (av rfl (ab (bR (av rfl (aO (w_add (ah ?_)))))))))))))));refine bY h1.wt (by simp;omega) ?_
 have h2:Rp b t B (s1.set (a+2) (.lst (ws.reverse++[.tup [.str "rows",.tup xs,.int ((i:Int)+1)]]))) (⟨a,kvs,.tup [.str "rows",.tup xs,.int ((i:Int)+1)]::ws,ps⟩::r) lg tk en th:=h1.wss (by simp)
 refine ff (aN (av rfl (fq h2.fm iN (cP h2.wt (aW (av rfl (av rfl (aU (d:=y) (by unfold iH sN;simp[hi];simpa[hi] using hy) ?_))))))))
 refine bY h2.wt (by simp;omega) ?_
 exact am (bi (am (bg (am (bg (h _ (h2.wss (by simp))))))))
theorem kq(hi:i=xs.length)(hR:Rp b t B st (⟨a,kvs,.tup [.str "rows",.tup xs,.int i]::ws,ps⟩::r) lg tk en th)
  (h:∀st',Rp b t B st' (⟨a,kvs,ws,ps⟩::r) lg tk en th->Q .non st'):Wv (calls tab (k+3) aq [.ref b.length] st) Q:=by
 refine fG (k:=k+1) hR (by decide+kernel) rfl λs1 h1=>?_
 refine cf (bW (ab (av rfl (ab (aW (av rfl (aO (aU rfl (ab (aW (av rfl (aO (aU rfl (ah ?_))))))))))))))
 walk_at "call0"
 refine bu (bf (av rfl (dN (ab (av rfl (ah (gM (w_lt ⟨false,by simp;omega,nofun,λ_=>?_⟩))))))))
 exact am (bi (am (bg (am (bg (h _ h1))))))
theorem ka(hl:xs.length<1000)(hR:Rp b t B st (⟨a,kvs,ws,xs++ps'⟩::r) lg tk en th)(h:∀v st',st'[v]? =some (.lst xs.reverse)->Rp b t B st' (⟨a,kvs,ws,ps'⟩::r) lg tk en th->Q (.ref v) st'):
  Wv (calls tab (k+1) iD [.ref (a+1),.int (xs.length:Int)] st) Q:=by
 walk_at "call0"
 refine cL (Dr (pJ (av rfl ⟨_,iJ (by omega),?_⟩)))
 refine iS (by simp[cB];omega) (λi acc st'=>acc=xs.take i/\Rp b t B st' (⟨a,kvs,ws,xs.drop i++ps'⟩::r) lg tk en th) ⟨rfl,by simpa using hR⟩ ?_ ?_
 ·rintro i y acc st' hy ⟨rfl,h1⟩
  have hi:i<xs.length:=by have:=(aL hy).1;simpa[cB] using this
  have e:xs.drop i=xs[i]::xs.drop (i+1):=List.drop_eq_getElem_cons hi;obtain⟨z,hz⟩:∃z,z=xs[i]:=⟨_,rfl⟩;rw[e,<-hz,List.cons_append] at h1;refine mr (eV (aN (av rfl (fq h1.fm qt ⟨_,_,z,rfl,h1.pt,by rw[List.reverse_cons];simp,?_⟩))))
  refine⟨?_,h1.pss (by rw[List.reverse_cons,List.dropLast_concat])⟩
  rw[List.take_succ_eq_append_getElem hi,hz]
 ·rintro acc st' ⟨rfl,h1⟩;rw[p7,show((xs.length:Int)).toNat=xs.length by omega,List.take_length] at*
  rw[List.drop_length,List.nil_append] at h1;refine⟨_,_,rfl,bJ,?_⟩;exact cA (h _ _ bJ ((h1.more (.one _ _)).more (.one _ _)))
theorem BL{d:D}(e:∀st,calls tab (k+1) eY [.str o,u,v] st=.ok (.v d) st)(h:Q d st):Wv (calls tab (k+1) eY [.str o,u,v] st) Q:=by rw[e];exact h
theorem wZ{d:D}(hn:st[n]? =some (.lst [u,v]))(ho:([o== "mul",o== "div",o== "mod",o== "pick",o== "lay",o== "make",o== "get",o== "put"]:List Bool)=[false,false,false,false,false,false,false,false])
  (e:∀st,calls tab (k+1) eY [.str o,u,v] st=.ok (.v d) st)(h:Q d st):Wv (calls tab (k+2) cC [.str o,ex,.ref n] st) Q:=by
 simp only[List.cons.injEq,and_true] at ho;obtain⟨h1,h2,h3,h4,h5,h6,h7,h8⟩:=ho;have ne:∀{a b:Str},(a==b)=false->(b==a)=false:=λ{a b} h=>by simp at h ⊢;exact λz=>h z.symm
 walk_at "call0"
 refine bu (bW (ab (av rfl (ah ?_))))
 walk_at "call0"
 refine cL (bf (av rfl (aO (w_inS (k:=false) rfl (by simp only[e8,eq_str,ne h1,ne h2,ne h3,ne h4,ne h5];rfl) ?_))))
 refine cA ⟨false,rfl,nofun,λ_=>am (bi ?_)⟩;refine bu (bf (av rfl (aO (w_eq (k:=false) (by rw[eq_str,h6]) ⟨false,rfl,nofun,λ_=>am (bi ?_)⟩))))
 refine bu (bf (av rfl (aO (w_eq (k:=false) (by rw[eq_str,h7]) ⟨false,rfl,nofun,λ_=>am (bi ?_)⟩))))
 refine bu (bf (av rfl (aO (w_eq (k:=false) (by rw[eq_str,h8]) ⟨false,rfl,nofun,λ_=>am (bi ?_)⟩))))
 refine bu (bf (dN (ab (av rfl (ah (c0 hn (aO (fL ⟨false,rfl,nofun,λ_=>am (bi ?_)⟩))))))));refine cL (bW (ab (av rfl (ab (aW (av rfl (aO (cZ hn rfl (ab (aW (av rfl (aO (cZ hn rfl (ah ?_))))))))))))));exact BL e (cA h)
theorem w5{v:Int}(hn:st[n]? =some (.lst [.int v]))(h:Q (.int (0 - v)) st):Wv (calls tab (k+2) cC [.str "neg",ex,.ref n] st) Q:=by
 walk_at "call0"
 refine bu (bW (ab (av rfl (ah ?_))))
 walk_at "call0"
 refine cL (bf (av rfl (aO (w_inS (k:=false) rfl (by simp only[e8,eq_str];decide+kernel) ?_))))
 refine cA ⟨false,rfl,nofun,λ_=>am (bi ?_)⟩;refine bu (bf (av rfl (aO (w_eq (k:=false) (by rw[eq_str];decide+kernel) ⟨false,rfl,nofun,λ_=>am (bi ?_)⟩))))
 refine bu (bf (av rfl (aO (w_eq (k:=false) (by rw[eq_str];decide+kernel) ⟨false,rfl,nofun,λ_=>am (bi ?_)⟩))))
 refine bu (bf (av rfl (aO (w_eq (k:=false) (by rw[eq_str];decide+kernel) ⟨false,rfl,nofun,λ_=>am (bi ?_)⟩))))
 refine bu (bf (dN (ab (av rfl (ah (c0 hn (aO (fL ⟨true,rfl,λ_=>?_,nofun⟩))))))));refine cL (bW (ab (av rfl (ab (aW (av rfl (aO (cZ hn rfl (ah ?_)))))))));have e:calls tab (k+1) vp [.str "neg",.int v] st=.ok (.v (.int (0 - v))) st:=by kernel_rfl
 rw[e];exact h
theorem cw{d:D}(hl:ps'.length<1000/\xs.length<1000)(hx:xs.length=ys.length)
  (he:∀n st1 (P:D->aK->Prop),st1[n]? =some (.lst xs.reverse)->P d st1->Wv (calls tab (k+2) cC [.str o,ex,.ref n] st1) P)
  (hR:Rp b t B st (⟨a,kvs,.tup [.str "reckon",.tup [.str "op",.str o,ex,.tup ys,kd]]::ws,xs++ps'⟩::r) lg tk en th) (h:∀st',Rp b t B st' (⟨a,kvs,ws,d::ps'⟩::r) lg tk en th->Q .non st'):
  Wv (calls tab (k+5) aq [.ref b.length] st) Q:=by
 refine fG (k:=k+3) hR (by decide+kernel) rfl λs1 h1=>?_
 obtain⟨sp,hb⟩:=h1.br;refine cf (a9 (av rfl (mq hb (bL (by decide+kernel)) rfl (ab (av rfl (ab (aW (av rfl (aO (aU rfl (ah ?_)))))))))))
 walk_at "call0"
 refine yM (bB (bW ?_));refine ab (aW (av rfl (aO (aU rfl (ab (aW (av rfl (aO (aU rfl (ab (a9 (av rfl (mq h1.fm (i_ (by decide+kernel)) rfl (ab (dN (ab (aW (av rfl (aO (aU rfl (ah (gM (ah ?_)))))))))))))))))))))))
 rw[<-hx];refine ka (k:=k+1) hl.2 h1 λv s2 hv h2=>ah ?_;refine he v s2 _ hv (am ?_);refine ff (aN (av rfl (fq h2.fm qt (cP h2.pt (av rfl ?_)))));refine bY h2.pt (by simp;omega) ?_
 exact am (bi (am (bg (am (bg (h _ (h2.pss (by simp))))))))
end
section
variable{k:Nat}{b st:aK}{Q:D->aK->Prop}{t a:Nat}{B tk:Int}{kvs:List (Key×D)}{ws ps:List D}{r:List Fm}{lg:List D}{en th:D}{x d:D}
theorem jO(hR:Rp b t B st (⟨a,kvs,.tup (.str s::xs)::ws,d::ps⟩::r) lg tk en th)(hs:qc.contains s=false)(hg:pick 20 EG s 3=some [.ex (.meth (.v 0) "use" [("Runner",58)] [(.v 1),(.v 2),(.pop (.fld (.v 1) "reckoned_parts" [] ["Frame"]) false)])])(hp:pick 20 EM s 4=some br)
  (h:∀st',Rp b t B st' (⟨a,kvs,ws,ps⟩::r) lg tk en th->W (execs (calls tab k) br [some (.ref b.length),some (.ref (a+1)),some (.tup (.str s::xs)),some d,some (.str s)] st') (Kr λ_ st2=>Q .non st2)):Wv (calls tab (k+3) aq [.ref b.length] st) Q:=by
 refine fG (k:=k+1) hR hs hg λs1 h1=>?_;obtain⟨sp,hb⟩:=h1.br;refine cf (a9 (av rfl (mq hb (bL (by decide+kernel)) rfl (ab (av rfl (ab (av rfl (ab (eV (aN (av rfl (fq h1.fm qt ⟨_,_,d,rfl,h1.pt,by simp,ah ?_⟩))))))))))))
 have h2:Rp b t B (s1.set (a+3) (.lst (d::ps).reverse.dropLast)) (⟨a,kvs,ws,ps⟩::r) lg tk en th:=h1.pss (by simp)
 refine m7 rfl rfl (bB (aW (av rfl (aO (aU A1 (kA (kz (w:=s) (i:=4) rfl 20 hp ((h _ h2).mono λf st3 q=>?_))))))));cases f with
 |nx l=>exact bg (am (bg q))
 |rt d=>exact cA (am (bg q))
 |ex n l=>exact q.elim
theorem iM{y:Str}(hl:kvs.length<1000)(hR:Rp b t B st (⟨a,kvs,.tup [.str "keep",.str y]::ws,d::ps⟩::r) lg tk en th)(h:∀st',Rp b t B st' (⟨a,c9 kvs (.inr y) d,ws,ps⟩::r) lg tk en th->Q .non st'):Wv (calls tab (k+3) aq [.ref b.length] st) Q:=by
 refine jO (k:=k) hR (by decide+kernel) rfl rfl λs1 h1=>?_
 refine qH (av rfl (aN (av rfl (fq h1.fm Cw (aW (av rfl (aO (aU rfl (pH h1.hv rfl (by omega) ?_)))))))))
 exact am (bg (h _ h1.kvz))
theorem vH{x:D}{v:Bool}(hl:ws.length<1000)(hR:Rp b t B st (⟨a,kvs,.tup [.str "choose",.tup [.str "if",c,x,y]]::ws,.bl v::ps⟩::r) lg tk en th)(h:∀st',Rp b t B st' (⟨a,kvs,.tup [.str "rows",if v then x else y,.int 0]::ws,ps⟩::r) lg tk en th->Q .non st'):Wv (calls tab (k+3) aq [.ref b.length] st) Q:=by
 refine jO (k:=k) hR (by decide+kernel) rfl rfl λs1 h1=>?_
 refine ff (aN (av rfl (fq h1.fm iN (cP h1.wt (ba (ab (aO (ab (yg (av rfl ⟨v,rfl,λe=>?_,λe=>?_⟩))))))))))
 ·subst e;refine aW (aW (av rfl (aO (aU rfl (aO (aU rfl (ab (aO (ah (bY h1.wt (by simp;omega) ?_))))))))))
  exact am (bg (h _ (h1.wss (by simp))))
 ·subst e;refine aW (aW (av rfl (aO (aU rfl (aO (aU rfl (ab (aO (ah (bY h1.wt (by simp;omega) ?_))))))))))
  exact am (bg (h _ (h1.wss (by simp))))
theorem rT{v:Int}(hl:lg.length<100000)(hR:Rp b t B st (⟨a,kvs,.tup [.str "write"]::ws,.int v::ps⟩::r) lg tk en th)(h:∀st',Rp b t B st' (⟨a,kvs,ws,ps⟩::r) (lg++[.tup [.str "num",.int v]]) tk en th->Q .non st'):Wv (calls tab (k+5) aq [.ref b.length] st) Q:=by
 refine jO (k:=k+2) hR (by decide+kernel) rfl rfl λs1 h1=>?_
 obtain⟨sp,hb⟩:=h1.br;refine cf (a9 (av rfl (mq hb (bL (by decide+kernel)) rfl (ab (av rfl (ah ?_))))))
 walk_at "call0"
 refine ff (aN (av rfl (fq hb uw (cP h1.lg (bW (ab (av rfl (ah (qP (k:=k) ?_)))))))));refine bY h1.lg (by omega) ?_
 exact am (bg (am (bg (h _ h1.lgs))))
variable{fs:List Fm}
theorem pY(hk:tk≠B)(hR:Rp b t B st fs lg tk en th)(h:∀st',Rp b t B st' fs lg (tk+1) en th->(∀i o,i≠b.length->st[i]? =some o->st'[i]? =some o)->Q (.bl true) st'):Wv (calls tab (k+1) eZ [.ref b.length] st) Q:=by
 walk_at "call0"
 obtain⟨sp,hb⟩:=hR.br;refine bu (bf (aN (av rfl (fq hb ke (aN (av rfl (fq hb uz (fL ⟨false,by simpa using hk,nofun,λ_=>am (bi ?_)⟩))))))))
 refine tL (av rfl ⟨_,_,_,tk,rfl,hb,ke,by decide+kernel,aO ⟨1,_,rfl,hb,by simp[gH],?_⟩⟩)
 rw[uD];exact cL (aO (cA (h _ hR.rn λi o hi e=>sn e (Ne.symm hi))))
theorem uo(hk:tk=B)(hR:Rp b t B st fs lg tk en th)(h:∀st',Rp b t B st' fs lg tk (.str "dry") th->Q (.bl false) st'):Wv (calls tab (k+1) eZ [.ref b.length] st) Q:=by
 walk_at "call0"
 obtain⟨sp,hb⟩:=hR.br;refine bu (bf (aN (av rfl (fq hb ke (aN (av rfl (fq hb uz (fL ⟨true,by simpa using hk,λ_=>?_,nofun⟩))))))))
 refine gL (aO (av rfl (fe hb ⟨by simp[gH],by decide+kernel⟩ ?_)))
 rw[fU];exact cL (aO (fi (cA (h _ hR.rn))))
theorem vI{x:D}(hl:ws.length<1000)(hk:tk≠B)(hR:Rp b t B st (⟨a,kvs,.tup [.str "ask",.tup [.str "while",c,x]]::ws,ps⟩::r) lg tk en th)(h:∀st',Rp b t B st' (⟨a,kvs,c:: .tup [.str "loop",.tup [.str "while",c,x]]::ws,ps⟩::r) lg (tk+1) en th->Q .non st'):Wv (calls tab (k+4) aq [.ref b.length] st) Q:=by
 refine fG (k:=k+2) hR (by decide+kernel) rfl λs1 h1=>?_
 obtain⟨sp,hb⟩:=h1.br;refine cf (a9 (av rfl (mq hb (bL (by decide+kernel)) rfl (ab (av rfl (ab (aW (av rfl (aO (aU rfl (ah ?_)))))))))))
 walk_at "call0"
 refine bu (a9 (av rfl (mq hb (bL (by decide+kernel)) rfl (ah (pY (k:=k) hk h1 λs2 h2 _=>⟨true,rfl,λ_=>?_,nofun⟩)))))
 refine W.mono (fC (ys:=[c]) rfl ⟨hl,by simp⟩ h2 (ab (ba (ab (aO (ab (av rfl (ah (ab (ba (ab (aW (av rfl (aO (aU rfl (ah (ah ⟨rfl,rfl⟩)))))))))))))))) h) λf st3 q=>?_
 cases f with
 |nx l=>exact bi (am (bg (am (bg q))))
 |rt d=>exact fi (cA (am (bg q)))
 |ex n l=>exact q.elim
theorem vJ{x:D}(hk:tk=B)(hR:Rp b t B st (⟨a,kvs,.tup [.str "ask",.tup [.str "while",c,x]]::ws,ps⟩::r) lg tk en th)(h:∀fs st',Rp b t B st' fs lg tk (.str "dry") th->Q .non st'):Wv (calls tab (k+4) aq [.ref b.length] st) Q:=by
 refine fG (k:=k+2) hR (by decide+kernel) rfl λs1 h1=>?_
 obtain⟨sp,hb⟩:=h1.br;refine cf (a9 (av rfl (mq hb (bL (by decide+kernel)) rfl (ab (av rfl (ab (aW (av rfl (aO (aU rfl (ah ?_)))))))))))
 walk_at "call0"
 refine bu (a9 (av rfl (mq hb (bL (by decide+kernel)) rfl (ah (uo (k:=k) hk h1 λs2 h2=>⟨false,rfl,nofun,λ_=>?_⟩)))))
 exact am (bi (am (bg (am (bg (h _ _ h2))))))
theorem xJ{x:D}(hl:ws.length<1000)(hR:Rp b t B st (⟨a,kvs,.tup [.str "loop",.tup [.str "while",c,x]]::ws,.bl true::ps⟩::r) lg tk en th)(h:∀st',Rp b t B st' (⟨a,kvs,.tup [.str "rows",x,.int 0]:: .tup [.str "ask",.tup [.str "while",c,x]]::ws,ps⟩::r) lg tk en th->Q .non st'):Wv (calls tab (k+4) aq [.ref b.length] st) Q:=by
 refine jO (k:=k+1) hR (by decide+kernel) rfl rfl λs1 h1=>?_
 refine kA (tI true (w_and (bf (av rfl (aO (w_eq (k:=true) (by rw[eq_str];decide+kernel) ⟨true,rfl,λ_=>av rfl ⟨rfl,?_⟩,nofun⟩))))))
 exact fC (ys:=[.tup [.str "rows",x,.int 0]]) rfl ⟨hl,by simp⟩ h1 (ab (ba (ab (aO (ab (aW (av rfl (aO (aU rfl (ah (ab (ba (ab (ba (ab (aO (ab (aW (aW (av rfl (aO (aU rfl (aO (aU rfl (ab (aO (ah (ah (ah ⟨rfl,rfl⟩))))))))))))))))))))))))))))) h
theorem xK{x:D}(hR:Rp b t B st (⟨a,kvs,.tup [.str "loop",.tup [.str "while",c,x]]::ws,.bl false::ps⟩::r) lg tk en th)(h:∀st',Rp b t B st' (⟨a,kvs,ws,ps⟩::r) lg tk en th->Q .non st'):Wv (calls tab (k+3) aq [.ref b.length] st) Q:=by
 refine jO (k:=k) hR (by decide+kernel) rfl rfl λs1 h1=>?_
 refine kA (tI false (w_and (bf (av rfl (aO (w_eq (k:=true) (by rw[eq_str];decide+kernel) ⟨true,rfl,λ_=>av rfl ⟨rfl,?_⟩,nofun⟩))))))
 refine kA (kz (w:= "loop") (i:=4) rfl 20 (br:=[]) rfl (am (bg (h _ h1))))
end
noncomputable def Tr(b:aK)(t:Nat)(name:Str)(fn:D):Prop:=∃f1 f2 kv,b[t]? =some (.ins "Typed" [("functions",.ref f1),("kept_functions",.ref f2)])/\b[f2]? =some (.dct kv)/\fE kv (.inr name)=some fn
section
variable{k:Nat}{b st:aK}{Q:D->aK->Prop}{t a:Nat}{B tk:Int}{kvs:List (Key×D)}{ws ps:List D}{r fs:List Fm}{lg:List D}{en th:D}{d:D}
theorem kb{name:Str}{fn:D}(hT:Tr b t name fn)(g:Gr b st)(h:Q fn st):Wv (calls tab (k+1) fZ [.ref t,.str name] st) Q:=by
 obtain⟨f1,f2,kv,h1,h2,h3⟩:=hT
 walk_at "call0"
 exact cL (aW (aN (av rfl (Cy (g.at h1) 1 rfl (av rfl (ye (g.at h2) h3 (cA h)))))))
theorem rh{name y:Str}{val:D}{v:Nat}(hl:fs.length<100000)(hT:Tr b t name (.tup [.tup [.tup [.str y,kd]],gv,rows]))(hv:st[v]? =some (.lst [val]))(hR:Rp b t B st fs lg tk en th)
  (h:∀a st',Rp b t B st' (⟨a,[(.inr y,val)],[.tup [.str "rows",rows,.int 0]],[]⟩::fs) lg tk en th->Q .non st'):Wv (calls tab (k+2) hJ [.ref b.length,.str name,.ref v] st) Q:=by
 walk_at "call0"
 obtain⟨sp,hb⟩:=hR.br;obtain⟨f1,f2,kv,t1,t2,t3⟩:=id hT;refine bB (a9 (aN (av rfl (fq hb rl (z_ (hR.gr.at t1) rfl (ab (av rfl (ah (kb (k:=k) hT hR.gr ?_)))))))));refine bB (qK ?_);refine qL (aW (av rfl (aO (aU rfl (av rfl ⟨_,rfl,?_⟩)))));refine n8 (L:=[.tup [.tup [.str y,kd],val]]) (by simp[d8,a8]) (by simp[d8,a8]) (λi acc st'=>acc=([.tup [.str y,val]]:List D).take i/\st'=st) ⟨rfl,rfl⟩ ?_ ?_ ?_
 ·rintro i acc st' ⟨_,rfl⟩;simp only[fc,a8,hv]
  match i with
  |0=>rfl
  |i+1=>rfl
 ·rintro i z acc st' hz ⟨rfl,rfl⟩
  match i with
  |0=>cases hz;exact ia (ba (ab (aW (av rfl (aO (aU rfl (ab (av rfl (ah ⟨rfl,rfl⟩)))))))))
  |i+1=>cases hz
 rintro acc st' ⟨e,rfl⟩;have e:acc=[.tup [.str y,val]]:=e;subst e;refine⟨_,_,[(.inr y,val)],rfl,bJ,rfl,?_⟩;rw[show iF [(Sum.inr y,val)]=[(Sum.inr y,val)] from rfl];generalize hs1:st'++[O.lst [.tup [.str y,val]]]=s1;have g1:Gr st' s1:=⟨_,hs1.symm⟩;have h1:=hR.more g1;have h2:=h1.more (.one s1 (.dct [(.inr y,val)]));obtain⟨sp2,hb2⟩:=h2.br;refine ff (aN (av rfl (fq hb2 bo (cP h2.fr (mo (ab (av rfl (ab (aW (av rfl (aO (aU rfl (ah (rj (k:=k) (H:=s1.length) (by simp) bJ λhf=>⟨rfl,?_⟩))))))))))))))
 have h3:=h2.more ⟨_,rfl⟩ (st':=s1++[O.dct [(.inr y,val)]]++[O.ins "Frame" (vL s1.length),.lst [.tup [.str "rows",rows,.int 0]],.lst []]);refine bY h3.fr (by simp;omega) (am (bg (h s1.length _ ?_)))
 have hbl:b.length+3<=s1.length:=by have:=(aL h1.fr).1;omega
 have hlen:(s1++[O.dct [(.inr y,val)]]).length=s1.length+1:=by simp
 rw[hlen];refine⟨jG h3.gr (by omega),let⟨sp,e⟩:=h3.br;⟨sp,sn e (by omega)⟩,sn h3.lg (by omega),?_,⟨hbl,?_⟩,?_,?_⟩
 ·rw[dO (aL h3.fr).1];simp
 ·simp
 ·exact hf.keep λi o i1 i2 e=>sn e (by simp only at i1;omega)
 ·refine Fs.keep (hi:=s1.length) (st:=s1) h1.fo (ae _) λi o i1 i2 e=>sn (bU (bU e)) (by omega)
theorem oZ{name y:Str}{val e:D}(hl:r.length<90000)(hk:tk≠B)(hT:Tr b t name (.tup [.tup [.tup [.str y,kd]],gv,rows]))(hR:Rp b t B st (⟨a,kvs,.tup [.str "enter",.tup [.str "call",.str name,.tup [e],kd2]]::ws,val::ps⟩::r) lg tk en th)
  (h:∀a' st',Rp b t B st' (⟨a',[(.inr y,val)],[.tup [.str "rows",rows,.int 0]],[]⟩::⟨a,kvs,ws,ps⟩::r) lg (tk+1) en th->Q .non st'):Wv (calls tab (k+5) aq [.ref b.length] st) Q:=by
 refine fG (k:=k+3) hR (by decide+kernel) rfl λs1 h1=>?_
 obtain⟨sp,hb⟩:=h1.br;refine cf (a9 (av rfl (mq hb (bL (by decide+kernel)) rfl (ab (aW (aW (av rfl (aO (aU rfl (aO (aU rfl (ab (a9 (av rfl (mq h1.fm (i_ (by decide+kernel)) rfl (ab (dN (ab (aW (aW (av rfl (aO (aU rfl (aO (aU rfl (ah (gM (ah ?_))))))))))))))))))))))))))))
 refine ka (k:=k+2) (xs:=[val]) (ps':=ps) (by simp) h1 λv s2 hv h2=>ah ?_
 walk_at "call0"
 obtain⟨sp2,hb2⟩:=h2.br;have hvb:v≠b.length:=λz=>by subst z;rw[hb2] at hv;cases hv
 refine bu (a9 (av rfl (mq hb2 (bL (by decide+kernel)) rfl (ah (pY (k:=k+2) hk h2 λs3 h3 keep=>⟨true,rfl,λ_=>?_,nofun⟩)))))
 obtain⟨sp3,hb3⟩:=h3.br;refine cf (a9 (av rfl (mq hb3 (bL (by decide+kernel)) rfl (ab (av rfl (ab (av rfl (ah (rh (k:=k) (by simp;omega) hT (keep v _ hvb hv) h3 λa' s4 h4=>?_)))))))))
 exact am (bi (am (bg (am (bg (h a' s4 h4))))))
theorem o0{name:D}{val e:D}(hk:tk=B)(hR:Rp b t B st (⟨a,kvs,.tup [.str "enter",.tup [.str "call",name,.tup [e],kd2]]::ws,val::ps⟩::r) lg tk en th)
  (h:∀fs st',Rp b t B st' fs lg tk (.str "dry") th->Q .non st'):Wv (calls tab (k+5) aq [.ref b.length] st) Q:=by
 refine fG (k:=k+3) hR (by decide+kernel) rfl λs1 h1=>?_
 obtain⟨sp,hb⟩:=h1.br;refine cf (a9 (av rfl (mq hb (bL (by decide+kernel)) rfl (ab (aW (aW (av rfl (aO (aU rfl (aO (aU rfl (ab (a9 (av rfl (mq h1.fm (i_ (by decide+kernel)) rfl (ab (dN (ab (aW (aW (av rfl (aO (aU rfl (aO (aU rfl (ah (gM (ah ?_))))))))))))))))))))))))))))
 refine ka (k:=k+2) (xs:=[val]) (ps':=ps) (by simp) h1 λv s2 hv h2=>ah ?_
 walk_at "call0"
 obtain⟨sp2,hb2⟩:=h2.br;refine bu (a9 (av rfl (mq hb2 (bL (by decide+kernel)) rfl (ah (uo (k:=k+2) hk h2 λs3 h3=>⟨false,rfl,nofun,λ_=>?_⟩)))))
 exact am (bi (am (bg (am (bg (h _ _ h3))))))
theorem lu{F:Fm}(hl:F.ps.length<1000)(hR:Rp b t B st (⟨a,kvs,.tup [.str "leave"]::ws,d::ps⟩::F::r) lg tk en th)(h:∀st',Rp b t B st' (⟨F.a,F.kvs,F.ws,d::F.ps⟩::r) lg tk en th->Q .non st'):Wv (calls tab (k+4) aq [.ref b.length] st) Q:=by
 obtain⟨a2,kvs2,ws2,ps2⟩:=F;refine jO (k:=k+1) hR (by decide+kernel) rfl rfl λs1 h1=>?_
 obtain⟨sp,hb⟩:=h1.br;refine cf (a9 (av rfl (mq hb (bL (by decide+kernel)) rfl (ab (av rfl (ah ?_))))))
 walk_at "call0"
 refine cf (eV (aN (av rfl (fq hb bo ⟨_,_,.ref (a+1),rfl,h1.fr,by rw[List.map_cons,List.reverse_cons];simp,?_⟩))))
 have h2:=h1.pop;rw[List.map_cons,List.reverse_cons,List.dropLast_concat];generalize hs2:s1.set (b.length+2) (O.lst ((⟨a2,kvs2,ws2,ps2⟩::r:List Fm).map λf=>D.ref (f.a+1)).reverse)=s2 at h2;obtain⟨sp2,hb2⟩:=h2.br;refine bu (bf (dN (ab (aN (av rfl (fq hb2 bo (ah (c0 h2.fr (aO (fL ⟨false,by simp;omega,nofun,λ_=>?_⟩))))))))))
 refine ff (aN (aW (aN (av rfl (fq hb2 bo (iR (aO ⟨1,rfl,h2.at1 (fq h2.fm qt (cP h2.pt (av rfl ?_)))⟩)))))));refine bY h2.pt (by simp;exact Nat.lt_trans hl (by decide)) ?_
 exact am (bi (am (bg (am (bg (h _ (h2.pss (by simp))))))))
theorem i9{v:Int}(hR:Rp b t B st [⟨a,kvs,.tup [.str "leave"]::ws,.int v::ps⟩] lg tk en th)(h:∀st',Rp b t B st' [] lg tk (.str "answer") (.tup [.str "num",.int v])->Q .non st'):Wv (calls tab (k+6) aq [.ref b.length] st) Q:=by
 refine jO (k:=k+3) hR (by decide+kernel) rfl rfl λs1 h1=>?_
 obtain⟨sp,hb⟩:=h1.br;refine cf (a9 (av rfl (mq hb (bL (by decide+kernel)) rfl (ab (av rfl (ah ?_))))))
 walk_at "call0"
 refine cf (eV (aN (av rfl (fq hb bo ⟨_,_,.ref (a+1),rfl,h1.fr,rfl,?_⟩))));have h2:Rp b t B (s1.set (b.length+2) (O.lst [])) [] lg tk en th:=h1.pop;rw[show(List.map (λf:Fm=>D.ref (f.a+1)) [⟨a,kvs,ws,ps⟩]).reverse.dropLast=[] from rfl];generalize s1.set (b.length+2) (O.lst [])=s2 at h2 ⊢;obtain⟨sp2,hb2⟩:=h2.br;refine bu (bf (dN (ab (aN (av rfl (fq hb2 bo (ah (c0 h2.fr (aO (fL ⟨true,rfl,λ_=>?_,nofun⟩))))))))));refine cf (a9 (av rfl (mq hb2 (bL (by decide+kernel)) rfl (ab (av rfl (ah ?_))))))
 walk_at "call0"
 refine gL (aO (av rfl (fe hb2 ⟨by simp[gH],by decide+kernel⟩ ?_)))
 rw[fU];have h3:=h2.rn (tk':=tk) (sp':=sp2) (en':= .str "answer") (th':=th);generalize s2.set b.length (O.ins "Runner" (gH b.length t B tk sp2 (.str "answer") th))=s3 at h3 ⊢;obtain⟨sp3,hb3⟩:=h3.br;refine gL (bW (ab (av rfl (ah (qP (k:=k) ?_)))));refine av rfl (fe hb3 ⟨by simp[gH],by decide+kernel⟩ ?_)
 rw[jv];exact am (bg (am (bi (am (bg (am (bg (h _ h3.rn))))))))
end
noncomputable def NT(w:D):Prop:=∃s xs,w=.tup (.str s::xs)/\(s==("tried":Str))=false
inductive Ct(f:Str):List D->D->List D->Prop where
 |nil:Ct f [] .non []
 |skip {w:D}{ws ws':List D}{d:D}(h:NT w)(t:Ct f ws d ws'):Ct f (w::ws) d ws'
 |hit1 {n2:Str}{r1 r2:List D}{ws:List D}:Ct f (.tup [.str "tried",.tup [.tup [.str f,.tup r1],.tup [.str n2,.tup r2]]]::ws) (.tup r1) ws
 |hit2 {n1:Str}{r1 r2:List D}{ws:List D}(h:(n1==f)=false):Ct f (.tup [.str "tried",.tup [.tup [.str n1,.tup r1],.tup [.str f,.tup r2]]]::ws) (.tup r2) ws
inductive Un(f:Str):List Fm->List D->List Fm->Prop where
 |here {F:Fm}{rs ws:List D}{r:List Fm}(h:Ct f F.ws (.tup rs) ws):Un f (F::r) rs (⟨F.a,F.kvs,ws,[]⟩::r)
 |up {F:Fm}{rs:List D}{r r':List Fm}(h:∃ws,Ct f F.ws .non ws)(t:Un f r rs r'):Un f (F::r) rs r'
section
variable{k:Nat}{b st:aK}{Q:D->aK->Prop}{t a:Nat}{B tk:Int}{kvs:List (Key×D)}{ws ps:List D}{r fs:List Fm}{lg:List D}{en th:D}{d:D}
theorem kS{ws':List D}(hl:ws.length<1000)(hc:Ct f ws d ws')(hR:Rp b t B st (⟨a,kvs,ws,ps⟩::r) lg tk en th)(h:∀st',Rp b t B st' (⟨a,kvs,ws',[]⟩::r) lg tk en th->Q d st'):
  Wv (calls tab (k+1) iz [.ref (a+1),.str f] st) Q:=by
 walk_at "call0"
 refine Be (aN (av rfl (fq hR.fm qt ⟨_,_,rfl,hR.pt,?_⟩)));have h1:Rp b t B (st.set (a+3) (.lst [])) (⟨a,kvs,ws,[]⟩::r) lg tk en th:=hR.pss rfl;refine pG (λm loc st'=>∃l2 l3 l4 us,loc=[some (.ref (a+1)),some (.str f),l2,l3,l4]/\m=us.length/\Ct f us d ws'/\Rp b t B st' (⟨a,kvs,us,[]⟩::r) lg tk en th) ws.length (by omega) ⟨_,_,_,ws,rfl,rfl,hc,h1⟩ ?_
 rintro m loc st' ⟨l2,l3,l4,us,rfl,rfl,hu,h2⟩;refine bf (dN (ab (aN (av rfl (fq h2.fm iN (ah (c0 h2.wt (aO (sj ?_)))))))));cases hu with
 |nil=>exact⟨false,rfl,nofun,λ_=>cL (aO (cA (h _ h2)))⟩
 | @skip w us' _ _ hn hu=>
  refine⟨true,by simp,λ_=>⟨us'.length,by simp,?_⟩,nofun⟩
  obtain⟨s,xs,rfl,hs⟩:=hn;refine bB (eV (aN (av rfl (fq h2.fm iN ⟨_,_,.tup (.str s::xs),rfl,h2.wt,by simp,?_⟩))))
  have h3:Rp b t B (st'.set (a+2) (.lst (D.tup (.str s::xs)::us').reverse.dropLast)) (⟨a,kvs,us',[]⟩::r) lg tk en th:=h2.wss (by simp)
  refine bu (bf (aW (av rfl (aO (aU A1 (aO (w_eq (k:=false) (by rw[eq_str];exact congrArg some hs) ⟨false,rfl,nofun,λ_=>am (bi (am ?_))⟩)))))))
  exact⟨_,l3,l4,us',rfl,rfl,hu,h3⟩
 | @hit1 n2 r1 r2=>
  refine⟨true,by simp,λ_=>⟨ws'.length,by simp,?_⟩,nofun⟩
  refine bB (eV (aN (av rfl (fq h2.fm iN ⟨_,_,.tup [.str "tried",.tup [.tup [.str f,.tup r1],.tup [.str n2,.tup r2]]],rfl,h2.wt,by simp,?_⟩))))
  have h3:Rp b t B (st'.set (a+2) (.lst (D.tup [.str "tried",.tup [.tup [.str f,.tup r1],.tup [.str n2,.tup r2]]]::ws').reverse.dropLast)) (⟨a,kvs,ws',[]⟩::r) lg tk en th:=h2.wss (by simp)
  refine bu (bf (aW (av rfl (aO (aU rfl (aO (w_eq (k:=true) (by rw[eq_str];decide+kernel) ⟨true,rfl,λ_=>?_,nofun⟩)))))))
  refine tJ (xs:=[.tup [.str f,.tup r1],.tup [.str n2,.tup r2]]) (λi loc st2=>i=0/\loc[1]? =some (some (.str f))/\loc.length=5/\Rp b t B st2 (⟨a,kvs,ws',[]⟩::r) lg tk en th) (aW (av rfl (aO (aU rfl ⟨rfl,⟨rfl,rfl,rfl,h3⟩,?_,?_⟩))))
  ·rintro i y loc st2 hy ⟨rfl,hf,hz,h4⟩;cases hy;refine⟨_,rfl,rfl,?_⟩;refine bu (bf (av (d:= .str f) (by simp[cV,hz]) (av (d:= .str f) (by simp[cV];exact hf) (w_eq (k:=true) (by rw[eq_str];simp) ⟨true,rfl,λ_=>?_,nofun⟩))))
   exact cL (av (d:= .tup r1) (by simp[cV,hz]) (fi (vb (fi (fi (cA (h _ h4)))))))
  ·rintro loc st2 ⟨z,_⟩;cases z
 | @hit2 n1 r1 r2 _ hn=>
  refine⟨true,by simp,λ_=>⟨ws'.length,by simp,?_⟩,nofun⟩
  refine bB (eV (aN (av rfl (fq h2.fm iN ⟨_,_,.tup [.str "tried",.tup [.tup [.str n1,.tup r1],.tup [.str f,.tup r2]]],rfl,h2.wt,by simp,?_⟩))))
  have h3:Rp b t B (st'.set (a+2) (.lst (D.tup [.str "tried",.tup [.tup [.str n1,.tup r1],.tup [.str f,.tup r2]]]::ws').reverse.dropLast)) (⟨a,kvs,ws',[]⟩::r) lg tk en th:=h2.wss (by simp)
  refine bu (bf (aW (av rfl (aO (aU rfl (aO (w_eq (k:=true) (by rw[eq_str];decide+kernel) ⟨true,rfl,λ_=>?_,nofun⟩)))))))
  refine tJ (xs:=[.tup [.str n1,.tup r1],.tup [.str f,.tup r2]]) (λi loc st2=>i<=1/\loc[1]? =some (some (.str f))/\loc.length=5/\Rp b t B st2 (⟨a,kvs,ws',[]⟩::r) lg tk en th) (aW (av rfl (aO (aU rfl ⟨rfl,⟨Nat.zero_le _,rfl,rfl,h3⟩,?_,?_⟩))))
  ·rintro i y loc st2 hy ⟨hi,hf,hz,h4⟩
   match i,hi with
   |0,_=>
    cases hy;refine⟨_,rfl,rfl,?_⟩;refine bu (bf (av (d:= .str n1) (by simp[cV,hz]) (av (d:= .str f) (by simp[cV];exact hf) (w_eq (k:=false) (by rw[eq_str,hn]) ⟨false,rfl,nofun,λ_=>am (bi (am ?_))⟩))))
    exact mE ⟨ae _,by simp[cV];exact hf,by simp[cV,hz],h4⟩
   |1,_=>
    cases hy;refine⟨_,rfl,rfl,?_⟩;refine bu (bf (av (d:= .str f) (by simp[cV,hz]) (av (d:= .str f) (by simp[cV];exact hf) (w_eq (k:=true) (by rw[eq_str];simp) ⟨true,rfl,λ_=>?_,nofun⟩))))
    exact cL (av (d:= .tup r2) (by simp[cV,hz]) (fi (vb (fi (fi (cA (h _ h4)))))))
  ·rintro loc st2 ⟨z,_⟩;exact absurd z (by simp)
theorem rf{F:Fm}{r':List Fm}(hl:∀F∈fs,F.ws.length<900)(hz:fs.length<100000)(hu:Un f fs rs (F::r'))(hR:Rp b t B st fs lg tk en th)(h:∀st',Rp b t B st' (⟨F.a,F.kvs,.tup [.str "rows",.tup rs,.int 0]::F.ws,F.ps⟩::r') lg tk en th->Q .non st'):
  Wv (calls tab (k+2) g_ [.ref b.length,.str f] st) Q:=by
 walk_at "call0"
 refine pG (λm loc st'=>∃l2 us,loc=[some (.ref b.length),some (.str f),l2]/\m=us.length/\(∀F∈us,F.ws.length<900)/\Un f us rs (F::r')/\Rp b t B st' us lg tk en th) fs.length (by omega) ⟨_,fs,rfl,rfl,hl,hu,hR⟩ ?_
 rintro m loc st' ⟨l2,us,rfl,rfl,hl,hu,h1⟩;obtain⟨sp,hb⟩:=h1.br;refine bf (dN (ab (aN (av rfl (fq hb bo (ah (c0 h1.fr (aO (sj ?_)))))))));generalize hFr:F::r'=Fr at hu;cases hu with
 | @here G _ ws1 r1 hc=>
  cases hFr;obtain⟨a,kvs,ws,ps⟩:=G;refine⟨true,by simp,λ_=>⟨_,by simp;rfl,?_⟩,nofun⟩
  refine bB (a9 (aW (aN (av rfl (fq hb bo (iR (aO ⟨1,rfl,h1.at1 (mq h1.fm (i_ (by decide+kernel)) rfl (ab (av rfl (ah ?_))))⟩)))))))
  refine kS (k:=k) (Nat.lt_trans (hl _ (.head _)) (by decide)) hc h1 λs2 h2=>?_
  obtain⟨sp2,hb2⟩:=h2.br
  have hw:ws1.length<1000:=by
   have:=hl _ (.head _)
   have:∀{ws ws':List D}{d:D},Ct f ws d ws'->ws'.length<=ws.length:=λ{ws ws' d} c=>by
    induction c with
    |nil=>exact ae _
    |skip _ _ ih=>simp;omega
    |hit1=>simp
    |hit2=>simp
   have:=this hc;simp only at*;omega
  refine bu (bf (av rfl (aO ⟨true,rfl,λ_=>?_,nofun⟩)));refine ff (aN (aW (aN (av rfl (fq hb2 bo (iR (aO ⟨1,rfl,h2.at1 (fq h2.fm iN (cP h2.wt (ba (ab (aO (ab (av rfl (ab (aO (ah ?_))))))))))⟩)))))));refine bY h2.wt (by simp;omega) (m4 ?_)
  exact(show Q .non _ from h _ (h2.wss (by simp)))
 | @up G _ r1 _ hc ht=>
  obtain⟨a,kvs,ws,ps⟩:=G;obtain⟨ws1,hc⟩:=hc;refine⟨true,by simp,λ_=>⟨r1.length,by simp,?_⟩,nofun⟩
  refine bB (a9 (aW (aN (av rfl (fq hb bo (iR (aO ⟨1,rfl,h1.at1 (mq h1.fm (i_ (by decide+kernel)) rfl (ab (av rfl (ah ?_))))⟩)))))))
  refine kS (k:=k) (Nat.lt_trans (hl _ (.head _)) (by decide)) hc h1 λs2 h2=>?_
  obtain⟨sp2,hb2⟩:=h2.br;refine bu (bf (av rfl (aO ⟨false,rfl,nofun,λ_=>am (bi ?_)⟩)));refine cf (eV (aN (av rfl (fq hb2 bo ⟨_,_,.ref (a+1),rfl,h2.fr,by rw[List.map_cons,List.reverse_cons];simp,?_⟩))))
  rw[List.map_cons,List.reverse_cons,List.dropLast_concat];subst hFr;exact am ⟨_,r1,rfl,rfl,λF hF=>hl F (.tail _ hF),ht,h2.pop⟩
theorem xI{F:Fm}{r':List Fm}(hl:∀F∈(⟨a,kvs,ws,ps⟩::r:List Fm),F.ws.length<900)(hz:r.length<90000)(hu:Un f (⟨a,kvs,ws,ps⟩::r) rs (F::r'))(hR:Rp b t B st (⟨a,kvs,.tup [.str "raise",.str f]::ws,ps⟩::r) lg tk en th)
  (h:∀st',Rp b t B st' (⟨F.a,F.kvs,.tup [.str "rows",.tup rs,.int 0]::F.ws,F.ps⟩::r') lg tk en th->Q .non st'):Wv (calls tab (k+4) aq [.ref b.length] st) Q:=by
 refine et (k:=k+2) hR (by decide+kernel) rfl λs1 h1=>?_
 obtain⟨sp,hb⟩:=h1.br;refine cf (a9 (av rfl (mq hb (bL (by decide+kernel)) rfl (ab (aW (av rfl (aO (aU rfl (ah ?_)))))))))
 exact rf (k:=k) hl (by simp;omega) hu h1 λst' h'=>am (bg (h st' h'))
theorem Cs{F:Fm}{r':List Fm}(hl:∀F∈(⟨a,kvs,[],ps⟩::r:List Fm),F.ws.length<900)(hz:r.length<90000)(hu:Un "end" (⟨a,kvs,[],ps⟩::r) rs (F::r'))(hR:Rp b t B st (⟨a,kvs,[],ps⟩::r) lg tk en th)
  (h:∀st',Rp b t B st' (⟨F.a,F.kvs,.tup [.str "rows",.tup rs,.int 0]::F.ws,F.ps⟩::r') lg tk en th->Q .non st'):Wv (calls tab (k+4) aq [.ref b.length] st) Q:=by
 walk_at "call0"
 obtain⟨sp,hb⟩:=hR.br;refine bB (aW (aN (av rfl (fq hb bo (iR (aO ⟨1,rfl,hR.at1 ?_⟩))))));refine bu (bf (dN (ab (aN (av rfl (fq hR.fm iN (ah (c0 hR.wt (aO (fL ⟨true,rfl,λ_=>?_,nofun⟩))))))))));refine cf (a9 (av rfl (mq hb (bL (by decide+kernel)) rfl (ab (aO (ah ?_))))))
 exact rf (k:=k+1) hl (by simp;omega) hu hR λst' h'=>m4 (fi (cA (h st' h')))
end
noncomputable def E_:Ex:= .cmp .Is (.fld (.v 4) "ending" [] ["Run","Runner"]) (.c .non)
noncomputable def EI:List S:=[.ex (.meth (.v 4) "go_on" [("Runner",55)] [])]
noncomputable def Lp(k:Nat)(b:aK)(loc:Loc)(Q:Fl->aK->Prop)(N:Nat)(st:aK):Prop:=loc[4]? =some (some (.ref b.length))->∀n,N<=n->W (dM (run (calls tab k) E_) (execs (calls tab k) EI) n loc st) Q
section
variable{k:Nat}{b st:aK}{loc:Loc}{Q:Fl->aK->Prop}{t:Nat}{B tk:Int}{fs:List Fm}{lg:List D}{th:D}{d:D}{N:Nat}
theorem Lp.turn(hR:Rp b t B st fs lg tk .non th)(h:Wv (calls tab k aq [.ref b.length] st) λ_ st'=>Lp k b loc Q N st'):Lp k b loc Q (N+1) st:=by
 intro h4 n hn;obtain⟨m,rfl⟩:∃m,n=m+1:=⟨n - 1,by omega⟩
 obtain⟨sp,hb⟩:=hR.br;rw[dM];refine aF (bf (aN (av h4 (fq hb jt (aO ?_)))));refine aF (show W (aZ (execs (calls tab k) EI loc) _ st) Q from ?_);refine aF (cf (a9 (av h4 (mq hb (bL (by decide+kernel)) rfl (ah (h.mono λd st1 q=>am ?_))))))
 exact q h4 m (by omega)
theorem Lp.fin{en':Str}(hR:Rp b t B st fs lg tk (.str en') th)(h:Q (.nx loc) st):Lp k b loc Q 1 st:=by
 intro h4 n hn;obtain⟨m,rfl⟩:∃m,n=m+1:=⟨n - 1,by omega⟩
 obtain⟨sp,hb⟩:=hR.br;rw[dM];refine aF (bf (aN (av h4 (fq hb jt (aO ?_)))));exact h
theorem Lp.le{N':Nat}(h:Lp k b loc Q N st)(hN:N<=N'):Lp k b loc Q N' st:=λh4 n hn=>h h4 n (by omega)
end
noncomputable def kN:D:= .tup [.str "num"]
noncomputable def kT:D:= .tup [.str "truth"]
noncomputable def lc(x:Str):D:= .tup [.str "local",.str x,kN]
noncomputable def cn(i:Int):D:= .tup [.str "const",.tup [.str "num",.int i]]
noncomputable def Ce(o:Str)(a b k:D):D:= .tup [.str "op",.str o,.non,.tup [a,b],k]
noncomputable def CY:D:= .tup [.str "call",.str "f",.tup [Ce "sub" (lc "n") (cn 1) kN],kN]
noncomputable def u_:D:= .tup [.str "let",.str "m",CY]
noncomputable def Ch:D:= .tup [.str "log",lc "n"]
noncomputable def uA:D:= .tup [.str "return",Ce "add" (lc "m") (cn 1) kN]
noncomputable def jg(l:Bool):List D:=if l then [u_,Ch,uA] else [u_,uA]
noncomputable def Aq(bot:List D)(l:Bool):D:= .tup [.str "if",Ce "less" (lc "n") (cn 1) kT,.tup bot,.tup (jg l)]
noncomputable def fD(bot:List D)(l:Bool):D:= .tup [.tup [.tup [.str "n",kN]],kN,.tup [Aq bot l]]
noncomputable def Cf:List D:=[.tup [.str "return",.tup [.str "op",.str "neg",.non,.tup [lc "a"],kN]]]
noncomputable def Cz:List D:=[.tup [.str "return",cn 7]]
noncomputable def CW:D:= .tup [.tup [.str "odd",.tup Cf],.tup [.str "end",.tup Cz]]
noncomputable def BY:D:= .tup [.str "return",.tup [.str "call",.str "f",.tup [lc "a"],kN]]
noncomputable def k5:List D:=[.tup [.str "try",.tup [BY],CW]]
noncomputable def yA:D:= .tup [.tup [.tup [.str "a",kN]],kN,.tup k5]
noncomputable def A8:D:= .tup [.str "while",Ce "less" (lc "c") (lc "a") kT,.tup [.tup [.str "set",.str "c",Ce "add" (lc "c") (cn 1) kN]]]
noncomputable def u7:List D:=[.tup [.str "let",.str "c",cn 0],A8,.tup [.str "return",lc "c"]]
noncomputable def yB:D:= .tup [.tup [.tup [.str "a",kN]],kN,.tup u7]
noncomputable def l_(xs:List D)(i:Int):D:= .tup [.str "rows",.tup xs,.int i]
noncomputable def fO(v:Int)(a:Nat):Fm:=⟨a,[(.inr "a",.int v)],[.tup [.str "leave"],l_ [BY] 1,.tup [.str "tried",CW],l_ k5 1],[]⟩
noncomputable def wC(bot:List D)(l:Bool)(v:Int)(a:Nat):Fm:=⟨a,[(.inr "n",.int v)],[.tup [.str "keep",.str "m"],l_ (jg l) 1,l_ [Aq bot l] 1],[]⟩
noncomputable def fresh(bot:List D)(l:Bool)(v:Int)(a:Nat):Fm:=⟨a,[(.inr "n",.int v)],[l_ [Aq bot l] 0],[]⟩
inductive Stk(bot:List D)(l:Bool)(dp:Int):Int->List Fm->Prop where
 |base (a:Nat):Stk bot l dp dp [fO dp a]
 |up {v:Int}{F:List Fm}(a:Nat)(h:Stk bot l dp v F):Stk bot l dp (v - 1) (wC bot l v a::F)
theorem Stk.len{l:Bool}{dp v:Int}{F:List Fm}(h:Stk bot l dp v F):v<=dp/\(F.length:Int)=dp - v+1:=by
 induction h with
 |base a=>exact⟨by omega,by simp⟩
 |up a h ih=>exact⟨by omega,by simp;omega⟩
section
variable{k:Nat}{b st:aK}{loc:Loc}{Q:Fl->aK->Prop}{t a:Nat}{B tk:Int}{F:List Fm}{lg:List D}{d:D}{N:Nat}{bot:List D}{l:Bool}{v:Int}
theorem of2{v d:D}(ho:([o== "mul",o== "div",o== "mod",o== "pick",o== "lay",o== "make",o== "get",o== "put"]:List Bool)=[false,false,false,false,false,false,false,false])
  (e:∀st,calls tab (k+1) eY [.str o,u,v] st=.ok (.v d) st):∀n st1 (P:D->aK->Prop),st1[n]? =some (.lst [v,u].reverse)->P d st1->Wv (calls tab (k+2) cC [.str o,.non,.ref n] st1) P:=
 λn st1 P hn hp=>wZ hn ho e hp
theorem pQ{j:Int}:∀st,calls tab (k+1) eY [.str "less",.int i,.int j] st=.ok (.v (.bl (decide (i<j)))) st:=λst=>by kernel_rfl
theorem Bq{j:Int}:∀st,calls tab (k+1) eY [.str "sub",.int i,.int j] st=.ok (.v (.int (i - j))) st:=λst=>by kernel_rfl
theorem yi{j:Int}:∀st,calls tab (k+1) eY [.str "add",.int i,.int j] st=.ok (.v (.int (i+j))) st:=λst=>by kernel_rfl
theorem nO(hR:Rp b t B st (fresh bot l v a::F) lg tk .non .non)(h:∀st',Rp b t B st' (⟨a,[(.inr "n",.int v)],[.tup [.str "rows",if decide (v<1) then .tup bot else .tup (jg l),.int 0],l_ [Aq bot l] 1],[]⟩::F) lg tk .non .non->Lp (k+6) b loc Q N st'):Lp (k+6) b loc Q (N+7) st:=by
 refine Lp.turn hR (bD (i:=0) (y:=Aq bot l) (by simp) rfl hR λst hR=>?_)
 refine Lp.turn hR (Ea (by simp) hR λst hR=>?_)
 refine Lp.turn hR (jH (by simp) hR λst hR=>?_)
 refine Lp.turn hR (bE (d:= .int v) (by simp) (by simp[fE]) hR λst hR=>?_)
 refine Lp.turn hR (dz (by simp) hR λst hR=>?_)
 refine Lp.turn hR (cw (xs:=[.int 1,.int v]) (ps':=[]) (by simp) (by rfl) (of2 (by decide+kernel) pQ) hR λst hR=>?_)
 refine Lp.turn hR (vH (by simp) hR λst hR=>?_)
 exact h _ hR
end
section
variable{k:Nat}{b st:aK}{loc:Loc}{Q:Fl->aK->Prop}{t a:Nat}{B tk:Int}{r fs F:List Fm}{lg:List D}{d:D}{N:Nat}{bot:List D}{l:Bool}{v dp:Int}
theorem Av(hv:¬v<1)(hz:F.length<80000)(hT:Tr b t "f" (fD bot l))(hR:Rp b t B st (fresh bot l v a::F) lg tk .non .non)
  (h0:tk=B->∀fs st',Rp b t B st' fs lg tk (.str "dry") .non->Lp (k+6) b loc Q N st') (h1:tk≠B->∀a' st',Rp b t B st' (fresh bot l (v - 1) a'::wC bot l v a::F) lg (tk+1) .non .non->Lp (k+6) b loc Q N st'):Lp (k+6) b loc Q (N+15) st:=by
 refine nO (N:=N+8) hR λst hR=>?_;rw[show(if decide (v<1) then D.tup bot else .tup (jg l))=.tup (u_::(jg l).tail) by rw[decide_eq_false hv];cases l<;>rfl] at hR
 refine Lp.turn hR (bD (i:=0) (y:=u_) (by simp) rfl hR λst hR=>?_)
 refine Lp.turn hR (vC (by simp) hR λst hR=>?_)
 refine Lp.turn hR (qr (by simp) hR λst hR=>?_)
 refine Lp.turn hR (jH (by simp) hR λst hR=>?_)
 refine Lp.turn hR (bE (d:= .int v) (by simp) (by simp[fE]) hR λst hR=>?_)
 refine Lp.turn hR (dz (by simp) hR λst hR=>?_)
 refine Lp.turn hR (cw (xs:=[.int 1,.int v]) (ps':=[]) (by simp) (by rfl) (of2 (by decide+kernel) Bq) hR λst hR=>?_)
 by_cases hk:tk=B
 ·exact Lp.turn hR (o0 hk hR λfs st hR=>h0 hk fs st hR)
 ·refine Lp.turn hR (oZ (by omega) hk hT hR λa' st hR=>h1 hk a' st ?_)
  have e:u_::(jg l).tail=jg l:=by cases l<;>rfl
  rw[e] at hR;exact hR
theorem CS(hd:0<=dp/\dp<=2000)(hT:Tr b t "f" (fD bot l))(h0:B<=dp->∀fs st',Rp b t B st' fs [] B (.str "dry") .non->Lp (k+6) b loc Q N st')(h1:dp+1<=B->∀a F st',Stk bot l dp 0 F->Rp b t B st' (fresh bot l 0 a::F) [] (dp+1) .non .non->Lp (k+6) b loc Q N st'):
  ∀(n:Nat)(a:Nat) (F:List Fm)(st:aK),Stk bot l dp n F->dp - n+1<=B->Rp b t B st (fresh bot l n a::F) [] (dp - n+1) .non .non->Lp (k+6) b loc Q (N+15*n) st
 |0,a,F,st,hS,hB,hR=>h1 (by simpa using hB) a F st hS (by simpa using hR)
 |n+1,a,F,st,hS,hB,hR=>by
  have hl:=hS.len;refine Av (N:=N+15*n) (by omega) (by omega) hT hR (λe fs st hR=>(h0 (by omega) fs st (by rw[e] at hR;exact hR)).le (by omega)) λe a' st hR=>?_
  have e1:((n+1:Nat):Int) - 1=(n:Int):=by omega
  have hS':=hS.up a;rw[e1] at hS' hR;refine CS hd hT h0 h1 n a' _ st hS' (by omega) ?_
  rw[show dp - ((n+1:Nat):Int)+1+1=dp - (n:Int)+1 by omega] at hR
  exact hR
noncomputable def lV(l:Bool)(n:Nat):List D:=if l then(List.range n).map λ(i:Nat)=>D.tup [.str "num",.int ((i:Int)+1)] else []
theorem u9:lV true n++[.tup [.str "num",.int ((n:Int)+1)]]=lV true (n+1):=by simp[lV,List.range_succ]
theorem Aw{G:Fm}(hg:G.ps.length<1000)(hn:n<3000)(hR:Rp b t B st (⟨a,[(.inr "n",.int ((n:Int)+1))],[.tup [.str "keep",.str "m"],l_ (jg l) 1,l_ [Aq bot l] 1],[.int n]⟩::G::F) (lV l n) tk .non .non)
  (h:∀st',Rp b t B st' (⟨G.a,G.kvs,G.ws,.int ((n:Int)+1)::G.ps⟩::F) (lV l (n+1)) tk .non .non->Lp (k+6) b loc Q N st'):Lp (k+6) b loc Q (N+12) st:=by
 refine Lp.turn hR (iM (by simp) hR λst hR=>?_)
 rw[show c9 [(Sum.inr "n",D.int ((n:Int)+1))] (Sum.inr "m") (.int n)=[(.inr "n",.int ((n:Int)+1)),(.inr "m",.int n)] from by kernel_rfl] at hR
 have fin:∀{st:aK}{i:Int},Rp b t B st (⟨a,[(.inr "n",.int ((n:Int)+1)),(.inr "m",.int n)],[uA,l_ (jg l) i,l_ [Aq bot l] 1],[]⟩::G::F) (lV l (n+1)) tk .non .non->Lp (k+6) b loc Q (N+6) st:=λ{st i} hR=>by
  refine Lp.turn hR (d9 (by simp) hR λst hR=>?_)
  refine Lp.turn hR (jH (by simp) hR λst hR=>?_)
  refine Lp.turn hR (bE (d:= .int n) (by simp) (by kernel_rfl) hR λst hR=>?_)
  refine Lp.turn hR (dz (by simp) hR λst hR=>?_)
  refine Lp.turn hR (cw (xs:=[.int 1,.int n]) (ps':=[]) (by simp) (by rfl) (of2 (by decide+kernel) yi) hR λst hR=>?_)
  exact Lp.turn hR (lu hg hR h)
 cases l with
 |false=>
  refine Lp.turn (N:=N+10) hR (bD (i:=1) (y:=uA) (by simp) rfl hR λst hR=>?_)
  exact(fin hR).le (by omega)
 |true=>
  refine Lp.turn (N:=N+10) hR (bD (i:=1) (y:=Ch) (by simp) rfl hR λst hR=>?_)
  refine Lp.turn hR (yF (by simp) hR λst hR=>?_)
  refine Lp.turn hR (bE (d:= .int ((n:Int)+1)) (by simp) (by simp[fE]) hR λst hR=>?_)
  refine Lp.turn hR (rT (by simp[lV];omega) hR λst hR=>?_)
  rw[u9] at hR;refine Lp.turn (N:=N+6) hR (bD (i:=2) (y:=uA) (by simp) rfl hR λst hR=>?_)
  exact fin hR
theorem Stk.topF(hS:Stk bot l dp v F):∃G r,F=G::r/\G.ps.length<1000:=by
 cases hS with
 |base a=>exact⟨_,_,rfl,by simp[fO]⟩
 |up a h=>exact⟨_,_,rfl,by simp[wC]⟩
theorem asc(hd:0<=dp/\dp<=2000)(h:∀a st',Rp b t B st' [⟨a,(fO dp a).kvs,(fO dp a).ws,[.int dp]⟩] (lV l dp.toNat) tk .non .non->Lp (k+6) b loc Q N st'):
  ∀{v:Int}{F:List Fm},Stk bot l dp v F->∀(n:Nat)(G:Fm)(r:List Fm)(st:aK),v=n->F=G::r->Rp b t B st (⟨G.a,G.kvs,G.ws,.int n::G.ps⟩::r) (lV l n) tk .non .non->Lp (k+6) b loc Q (N+12*(dp.toNat - n)) st:=by
 intro v F hS
 induction hS with
 |base a=>
  intro n G r st hv hF hR;cases hF;subst hv;refine(h a st ?_).le (by omega)
  rw[Int.toNat_natCast];exact hR
 | @up v F a hS ih=>
  intro n G r st hv hF hR;have hl:=hS.len;cases hF;have hv':v=(n:Int)+1:=by omega
  subst hv';obtain⟨G,r,rfl,hg⟩:=hS.topF
  ·refine(Aw (N:=N+12*(dp.toNat - (n+1))) hg (by omega) hR λst' hR'=>ih (n+1) G r st' (by omega) rfl ?_).le (by omega)
   simpa using hR'
theorem Ey{ws:List D}(hc:∀a,Ct f (fO dp a).ws (.tup rs) ws):∀{v:Int}{F:List Fm},Stk bot l dp v F->∃a,Un f F rs [⟨a,(fO dp a).kvs,ws,[]⟩]:=by
 intro v F hS
 induction hS with
 |base a=>exact⟨a,.here (hc a)⟩
 |up a hS ih=>
  obtain⟨a',h⟩:=ih;refine⟨a',.up ⟨_,.skip ⟨_,_,rfl,by decide+kernel⟩ (.skip ⟨_,_,rfl,by decide+kernel⟩ (.skip ⟨_,_,rfl,by decide+kernel⟩ .nil))⟩ h⟩
theorem Stk.ws{v:Int}{F:List Fm}(hS:Stk bot l dp v F):∀G∈F,G.ws.length<900:=by
 induction hS with
 |base a=>simp[fO]
 |up a hS ih=>
  intro G hG;rcases List.mem_cons.mp hG with rfl|hG
  ·simp[wC]
  ·exact ih G hG
theorem AI(a:Nat):Ct "odd" (fO dp a).ws (.tup Cf) [l_ k5 1]:= .skip ⟨_,_,rfl,by decide+kernel⟩ (.skip ⟨_,_,rfl,by decide+kernel⟩ .hit1)
theorem AJ(a:Nat):Ct "end" (fO dp a).ws (.tup Cz) [l_ k5 1]:= .skip ⟨_,_,rfl,by decide+kernel⟩ (.skip ⟨_,_,rfl,by decide+kernel⟩ (.hit2 (by decide+kernel)))
theorem x3(hd:0<=dp/\dp<=2000)(hS:Stk [.tup [.str "raise",.str "odd"]] l dp 0 F)(hR:Rp b t B st (fresh [.tup [.str "raise",.str "odd"]] l 0 a::F) lg tk .non .non)(h:∀st',Rp b t B st' [] lg tk (.str "answer") (.tup [.str "num",.int (0 - dp)])->Lp (k+6) b loc Q N st'):Lp (k+6) b loc Q (N+15) st:=by
 have hl:=hS.len;refine nO (N:=N+8) hR λst hR=>?_;refine Lp.turn hR (bD (xs:=[.tup [.str "raise",.str "odd"]]) (i:=0) (y:= .tup [.str "raise",.str "odd"]) (by simp) rfl hR λst hR=>?_)
 obtain⟨a',hu⟩:=Ey AI hS;refine Lp.turn hR (xI (F:=⟨a',(fO dp a').kvs,[l_ k5 1],[]⟩) (r':=[]) ?_ (by omega) (.up ⟨_,.skip ⟨_,_,rfl,by decide+kernel⟩ (.skip ⟨_,_,rfl,by decide+kernel⟩ .nil)⟩ hu) hR λst hR=>?_)
 ·intro G hG;rcases List.mem_cons.mp hG with rfl|hG
  ·simp
  ·exact hS.ws G hG
 refine Lp.turn hR (bD (i:=0) (by simp) rfl hR λst hR=>?_)
 refine Lp.turn hR (d9 (by simp) hR λst hR=>?_)
 refine Lp.turn hR (jH (by simp) hR λst hR=>?_)
 refine Lp.turn hR (bE (d:= .int dp) (by simp) (by simp[fO,fE]) hR λst hR=>?_)
 refine Lp.turn hR (cw (xs:=[.int dp]) (ps':=[]) (by simp) (by rfl) (λn st1 P hn hp=>w5 hn hp) hR λst hR=>?_)
 exact Lp.turn hR (i9 hR h)
theorem x4(hd:0<=dp/\dp<=2000)(hS:Stk [] l dp 0 F)(hR:Rp b t B st (fresh [] l 0 a::F) lg tk .non .non)(h:∀st',Rp b t B st' [] lg tk (.str "answer") (.tup [.str "num",.int 7])->Lp (k+6) b loc Q N st'):Lp (k+6) b loc Q (N+15) st:=by
 have hl:=hS.len;refine nO (N:=N+8) hR λst hR=>?_;refine Lp.turn (N:=N+7) hR (kq (xs:=[]) rfl hR λst hR=>?_);refine Lp.turn (N:=N+6) hR (kq rfl hR λst hR=>?_);obtain⟨a',hu⟩:=Ey AJ hS;refine Lp.turn (N:=N+5) hR (Cs (F:=⟨a',(fO dp a').kvs,[l_ k5 1],[]⟩) (r':=[]) ?_ (by omega) (.up ⟨_,.nil⟩ hu) hR λst hR=>?_)
 ·intro G hG;rcases List.mem_cons.mp hG with rfl|hG
  ·simp
  ·exact hS.ws G hG
 refine Lp.turn hR (bD (i:=0) (by simp) rfl hR λst hR=>?_)
 refine Lp.turn hR (d9 (by simp) hR λst hR=>?_)
 refine Lp.turn hR (dz (by simp) hR λst hR=>?_)
 exact(Lp.turn hR (i9 hR h)).le (by omega)
theorem x2(hd:0<=dp/\dp<=2000)(hS:Stk [.tup [.str "return",cn 0]] l dp 0 F)(hR:Rp b t B st (fresh [.tup [.str "return",cn 0]] l 0 a::F) [] tk .non .non)(h:∀st',Rp b t B st' [] (lV l dp.toNat) tk (.str "answer") (.tup [.str "num",.int dp])->Lp (k+6) b loc Q N st'):Lp (k+6) b loc Q (N+12*dp.toNat+15) st:=by
 have hl:=hS.len;refine nO (N:=N+12*dp.toNat+8) hR λst hR=>?_;refine Lp.turn hR (bD (xs:=[.tup [.str "return",cn 0]]) (i:=0) (y:= .tup [.str "return",cn 0]) (by simp) rfl hR λst hR=>?_)
 refine Lp.turn hR (d9 (by simp) hR λst hR=>?_)
 refine Lp.turn hR (dz (by simp) hR λst hR=>?_)
 obtain⟨G,r,rfl,hg⟩:=hS.topF
 ·refine Lp.turn (N:=N+12*dp.toNat+4) hR (lu hg hR λst hR=>?_);have e:([]:List D)=lV l 0:=by cases l<;>rfl
  rw[e] at hR;refine(asc (N:=N+1) hd (λa st hR=>Lp.turn hR (i9 hR h)) hS 0 G r st rfl rfl hR).le (by omega)
end
section
variable{k:Nat}{b st:aK}{loc:Loc}{Q:Fl->aK->Prop}{t a:Nat}{B:Int}{fs F:List Fm}{d:D}{N:Nat}{bot:List D}{l:Bool}{dp:Int}
theorem Ac(hd:0<=dp/\dp<=2000)(hB:0<=B)(hT:Tr b t "f" (fD bot l))(hR:Rp b t B st [⟨a,[(.inr "a",.int dp)],[l_ k5 0],[]⟩] [] 0 .non .non)
  (h0:B<=dp->∀fs st',Rp b t B st' fs [] B (.str "dry") .non->Lp (k+6) b loc Q N st') (h1:dp+1<=B->∀a F st',Stk bot l dp 0 F->Rp b t B st' (fresh bot l 0 a::F) [] (dp+1) .non .non->Lp (k+6) b loc Q N st'):Lp (k+6) b loc Q (N+15*dp.toNat+7) st:=by
 refine Lp.turn hR (bD (i:=0) (by simp) rfl hR λst hR=>?_)
 refine Lp.turn hR (Cr (by simp) hR λst hR=>?_)
 refine Lp.turn hR (bD (i:=0) (by simp) rfl hR λst hR=>?_)
 refine Lp.turn hR (d9 (by simp) hR λst hR=>?_)
 refine Lp.turn hR (qr (by simp) hR λst hR=>?_)
 refine Lp.turn hR (bE (d:= .int dp) (by simp) (by simp[fE]) hR λst hR=>?_)
 by_cases hk:(0:Int)=B
 ·subst hk;exact Lp.turn hR (o0 rfl hR λfs st hR=>(h0 hd.1 fs st hR).le (by omega))
 ·refine Lp.turn hR (oZ (by simp) hk hT hR λa' st hR=>?_)
  have e:((dp.toNat:Nat):Int)=dp:=by omega
  refine(CS hd hT h0 h1 dp.toNat a' [fO dp a] st ?_ (by omega) ?_)
  ·rw[e];exact .base a
  ·rw[e,show dp - dp+1=0+1 by omega]
   exact hR
theorem wk(hd:0<=dp/\dp<=2000)(h0:B<=dp->∀fs st',Rp b t B st' fs [] B (.str "dry") .non->Lp (k+6) b loc Q N st')(h1:dp+1<=B->∀st',Rp b t B st' [] [] (dp+1) (.str "answer") (.tup [.str "num",.int dp])->Lp (k+6) b loc Q N st'):
  ∀(n:Nat)(i:Int)(st:aK),i+n=dp->i<=B->0<=i->Rp b t B st [⟨a,[(.inr "a",.int dp),(.inr "c",.int i)],[.tup [.str "ask",A8],l_ u7 2],[]⟩] [] i .non .non->Lp (k+6) b loc Q (N+15*n+10) st:=by
 intro n
 induction n with
 |zero=>
  intro i st hi hB h0i hR;by_cases hk:i=B
  ·exact Lp.turn (N:=N+9) hR (vJ hk hR λfs st hR=>(h0 (by omega) fs st (by rw[hk] at hR;exact hR)).le (by omega))
  refine Lp.turn (N:=N+9) hR (vI (by simp) hk hR λst hR=>?_)
  refine Lp.turn hR (jH (by simp) hR λst hR=>?_)
  refine Lp.turn hR (bE (d:= .int i) (by simp) (by kernel_rfl) hR λst hR=>?_)
  refine Lp.turn hR (bE (d:= .int dp) (by simp) (by kernel_rfl) hR λst hR=>?_)
  refine Lp.turn hR (cw (xs:=[.int dp,.int i]) (ps':=[]) (by simp) (by rfl) (of2 (by decide+kernel) pQ) hR λst hR=>?_)
  rw[decide_eq_false (by omega)] at hR
  refine Lp.turn hR (xK hR λst hR=>?_);refine Lp.turn hR (bD (i:=2) (by simp) rfl hR λst hR=>?_)
  refine Lp.turn hR (d9 (by simp) hR λst hR=>?_)
  refine Lp.turn hR (bE (d:= .int i) (by simp) (by kernel_rfl) hR λst hR=>?_)
  refine Lp.turn hR (i9 hR λst hR=>?_);have e:i=dp:=by simpa using hi
  rw[e] at hR;exact h1 (by omega) st hR
 |succ n ih=>
  intro i st hi hB h0i hR;by_cases hk:i=B
  ·exact Lp.turn (N:=N+15*(n+1)+9) hR (vJ hk hR λfs st hR=>(h0 (by omega) fs st (by rw[hk] at hR;exact hR)).le (by omega))
  refine Lp.turn (N:=N+15*(n+1)+9) hR (vI (by simp) hk hR λst hR=>?_)
  refine Lp.turn hR (jH (by simp) hR λst hR=>?_)
  refine Lp.turn hR (bE (d:= .int i) (by simp) (by kernel_rfl) hR λst hR=>?_)
  refine Lp.turn hR (bE (d:= .int dp) (by simp) (by kernel_rfl) hR λst hR=>?_)
  refine Lp.turn hR (cw (xs:=[.int dp,.int i]) (ps':=[]) (by simp) (by rfl) (of2 (by decide+kernel) pQ) hR λst hR=>?_)
  rw[decide_eq_true (show i<dp by omega)] at hR
  refine Lp.turn hR (xJ (by simp) hR λst hR=>?_)
  refine Lp.turn hR (bD (i:=0) (by simp) rfl hR λst hR=>?_)
  refine Lp.turn hR (rV (by simp) hR λst hR=>?_)
  refine Lp.turn hR (jH (by simp) hR λst hR=>?_)
  refine Lp.turn (N:=N+15*n+15) hR (bE (d:= .int i) (by simp) (by kernel_rfl) hR λst hR=>?_)
  refine Lp.turn hR (dz (by simp) hR λst hR=>?_)
  refine Lp.turn hR (cw (xs:=[.int 1,.int i]) (ps':=[]) (by simp) (by rfl) (of2 (by decide+kernel) yi) hR λst hR=>?_)
  refine Lp.turn hR (iM (by simp) hR λst hR=>?_)
  rw[show c9 [(Sum.inr "a",D.int dp),(Sum.inr "c",D.int i)] (Sum.inr "c") (.int (i+1))=[(.inr "a",.int dp),(.inr "c",.int (i+1))] from by kernel_rfl] at hR
  refine Lp.turn (N:=N+15*n+11) hR (kq rfl hR λst hR=>?_);exact(ih (i+1) st (by omega) (by omega) (by omega) hR).le (by omega)
theorem Ab(hd:0<=dp/\dp<=2000)(hB:0<=B)(hR:Rp b t B st [⟨a,[(.inr "a",.int dp)],[l_ u7 0],[]⟩] [] 0 .non .non)
  (h0:B<=dp->∀fs st',Rp b t B st' fs [] B (.str "dry") .non->Lp (k+6) b loc Q N st') (h1:dp+1<=B->∀st',Rp b t B st' [] [] (dp+1) (.str "answer") (.tup [.str "num",.int dp])->Lp (k+6) b loc Q N st'):Lp (k+6) b loc Q (N+15*dp.toNat+20) st:=by
 refine Lp.turn hR (bD (i:=0) (by simp) rfl hR λst hR=>?_)
 refine Lp.turn hR (vC (by simp) hR λst hR=>?_)
 refine Lp.turn hR (dz (by simp) hR λst hR=>?_)
 refine Lp.turn hR (iM (by simp) hR λst hR=>?_)
 rw[show c9 [(Sum.inr "a",D.int dp)] (Sum.inr "c") (.int 0)=[(.inr "a",.int dp),(.inr "c",.int 0)] from by kernel_rfl] at hR
 refine Lp.turn hR (bD (i:=1) (by simp) rfl hR λst hR=>?_)
 refine Lp.turn hR (xH (by simp) hR λst hR=>?_)
 exact(wk hd h0 h1 dp.toNat 0 st (by omega) hB (by omega) hR).le (by omega)
end
section
variable{k:Nat}{st:aK}{Q:D->aK->Prop}{dp B:Int}
theorem wq{Q:Fl->aK->Prop}{body:List S}{q:Nat}(h2:is.length=2)(he:run g e loc st=.ok (.ref q) st)(hq:st[q]? =some (.lst [x]))
  (h:W (execs g body (cV is [.int 0,x] loc) st) λr st1=>∃loc',r=.nx loc'/\st1=st/\W (execs g ss loc' st) Q):W (execs g (.forE is e body::ss) loc st) Q:=by
 refine qJ ?_;rw[he];refine⟨.en q,rfl,?_⟩;have n0:fc (.en q) 0 st=some (some (.tup [.int 0,x])):=by simp only[fc,hq];rfl
 have n1:fc (.en q) 1 st=some none:=by simp only[fc,hq];rfl
 have hL:d8 (.en q) st=1:=by simp only[d8,hq];rfl
 unfold eG;rw[hL,eg];simp only[n0];refine aF (aF ?_);simp only[items?,a8,List.length_cons,List.length_nil,h2];refine h.mono λr st1 hp=>?_;obtain⟨loc',rfl,rfl,hs⟩:=hp;show W (eg _ (.en q) 1 1 loc' st1) _;rw[eg];simp only[n1];exact hs
theorem oE(hB:0<=B/\B<=10000)(h:Q .non st):Wv (calls tab (k+2) md [.int B] st) Q:=by
 walk_at "call0"
 have e:calls tab (k+1) qj [.int B] st=.ok (.v (.bl true)) st:=by kernel_rfl
 refine bu (w_or (w_not (bW (ab (av rfl (ah ?_))))));rw[e];refine⟨true,rfl,false,rfl,nofun,λ_=>?_⟩;refine w_not (qN (aO (av rfl (wm ⟨true,by simp[hB.1],λ_=>aO (wm ⟨true,by simp[hB.2],false,rfl,nofun,λ_=>?_⟩),nofun⟩))))
 exact am (bi (am (bg h)))
theorem wW{q v:Nat}(hq:st[q]? =some (.lst [kN]))(hv:st[v]? =some (.lst [.int dp]))(hB:0<=B/\B<=10000)(h:Q .non st):Wv (calls tab (k+3) i6 [.ref q,.ref v,.int B] st) Q:=by
 walk_at "call0"
 refine cf (bW (ab (dN (ab (av rfl (ah (c0 hq (ab (av rfl (ah ?_))))))))))
 walk_at "call0"
 refine bu (w_or (w_not (tH (av rfl ⟨true,by simp only[i0,hv],true,rfl,false,rfl,nofun,λ_=>?_⟩))))
 refine bf (dN (ab (av rfl (ah (c0 hv (av rfl (tF ⟨false,rfl,nofun,λ_=>am (bi (am (bg ?_)))⟩)))))));refine wq rfl (by simp only[run,dL,List.getElem?_cons_zero];rfl) hq ?_
 refine bu (w_not (bW (ab (aW (av rfl (av rfl (cZ hv rfl (ab (av rfl (ah ?_))))))))));have e:calls tab (k+2) qk [.int dp,kN] st=.ok (.v (.bl true)) st:=by kernel_rfl
 rw[e];refine⟨true,rfl,false,rfl,nofun,λ_=>am (bi (am ⟨_,rfl,rfl,?_⟩))⟩;exact cf (bW (ab (av rfl (ah (oE (k:=k) hB (am (bg h)))))))
end
noncomputable def Seen(st:aK)(n:Nat)(e:Str)(th:D)(lg:List D)(tk:Int):Prop:=∃l sp,st[n]? =some (.ins "Run" [("ending",.str e),("thing",th),("log",l),("kept_log",.tup lg),("took",.int tk),("steps",sp)])
section
variable{k:Nat}{st b:aK}{Q:D->aK->Prop}{dp B tk:Int}{t:Nat}{fs:List Fm}{lg:List D}{e:Str}{th:D}
theorem BU{sp:Int}(hl:st[l]? =some (.lst lg))(h:∀st',Gr st st'->(∃l sp,st'[st.length]? =some (.ins "Run" [("ending",x),("thing",y),("log",l),("kept_log",.tup lg),("took",.int tk),("steps",sp)]))->Q .non st'):Wv (calls tab (k+1) qp [.ref st.length,x,y,.ref l,.int tk,.int sp] (st++[.ins "Run" []])) Q:=by
 obtain⟨s0,hs0⟩:∃s0,s0=st++[O.ins "Run" []]:=⟨_,rfl⟩;rw[<-hs0]
 walk_at "call0"
 rw[hs0];have e1:∀a:O,(st++[a]).length=st.length+1:=λa=>by simp
 refine gN rfl (av rfl (o7 bJ ?_));rw[nk];refine gN rfl (av rfl (o7 bJ ?_));rw[nk];refine gN rfl (dN (ab (av rfl (ah (wl (bU hl) (o7 (bU bJ) ?_))))));rw[e1,List.append_assoc,show ∀a b:O,[a]++[b]=[a,b] from λ_ _=>rfl,dn];refine gN rfl (dN (ab (av rfl (ah (n6 (bU hl) (o7 pL ?_))))));rw[dn];refine gN rfl (av rfl (o7 pL ?_));rw[dn];refine gN rfl (av rfl (o7 pL ?_));rw[dn];exact am (bg (h _ ⟨_,rfl⟩ ⟨_,_,pL⟩))
theorem rg(hR:Rp b t B st fs lg tk (.str e) th)(h:∀n st',Gr st st'->Seen st' n e th lg tk->Q (.ref n) st'):Wv (calls tab (k+2) mf [.ref b.length] st) Q:=by
 walk_at "call0"
 obtain⟨sp,hb⟩:=hR.br;refine cL (mo ?_);refine ab (aN (av rfl (fq hb jt ?_)));refine ab (aN (av rfl (fq hb uv ?_)));refine ab (aN (av rfl (fq hb uw ?_)));refine ab (aN (av rfl (fq hb ke ?_)));refine ab (aN (av rfl (fq hb oH (ah ?_))));exact BU (k:=k) hR.lg λst' g hs=>⟨rfl,cA (h _ _ g hs)⟩
theorem pZ(hs:Seen st n e th lg tk)(h:Q (.tup [.str e,th,.tup lg,.int tk]) st):Wv (calls tab (k+1) qo [.ref n] st) Q:=by
 walk_at "call0"
 obtain⟨l,sp,hs⟩:=hs;refine cL (ba (ab (aN (av rfl (Cy hs 0 rfl (ab (aN (av rfl (Cy hs 1 rfl (ab (aN (av rfl (Cy hs 3 rfl (ab (aN (av rfl (Cy hs 4 rfl (ah ?_))))))))))))))))));exact cA h
theorem yl{v:Nat}(P:Str->D->List D->Int->Prop)(hN:N<=900000000)(hB:0<=B/\B<=10000)(hM:Tr st t "main" (.tup [.tup [.tup [.str "a",kN]],kN,.tup rs]))(hv:st[v]? =some (.lst [.int dp]))
  (hr:∀{b st1:aK}{a:Nat}{loc:Loc}{Q':Fl->aK->Prop},Gr st b->Rp b t B st1 [⟨a,[(.inr "a",.int dp)],[l_ rs 0],[]⟩] [] 0 .non .non->(∀st' fs lg tk e th,P e th lg tk->Rp b t B st' fs lg tk (.str e) th->Lp (k+6) b loc Q' 1 st')->Lp (k+6) b loc Q' N st1)
  (h:∀n st' e th lg tk,P e th lg tk->Gr st st'->Seen st' n e th lg tk->Q (.ref n) st'):Wv (calls tab (k+7) cX [.ref t,.ref v,.int B] st) Q:=by
 walk_at "call0"
 obtain⟨f1,f2,kv,t1,t2,t3⟩:=id hM;refine bB (aW (a9 (av rfl (z_ t1 rfl (ab (aO (ah (kb (k:=k+5) hM (.refl _) (aO (aU rfl ?_))))))))));refine cf (bW (ab (qM (av rfl ⟨_,rfl,?_⟩))));refine iS (xs:=[.tup [.str "a",kN]]) (by simp) (λi acc st'=>acc=([kN]:List D).take i/\st'=st) ⟨rfl,rfl⟩ ?_ ?_
 ·rintro i z acc st' hz ⟨rfl,rfl⟩
  match i with
  |0=>cases hz;exact ia (av rfl ⟨rfl,rfl⟩)
  |i+1=>cases hz
 rintro acc st' ⟨e,rfl⟩;have e:acc=[kN]:=e;subst e;refine ab (av rfl (ab (av rfl (ah (wW (k:=k+3) bJ (bU hv) hB ?_)))));generalize hs1:st'++[O.lst [kN]]=s1;have g1:Gr st' s1:=⟨_,hs1.symm⟩;refine bB (mo (ab (av rfl (ab (av rfl (ah (oG (k:=k+4) λs2 h2=>⟨rfl,?_⟩)))))));obtain⟨sp,hb⟩:=h2.br;have hM1:Tr s1 t "main" (.tup [.tup [.tup [.str "a",kN]],kN,.tup rs]):=⟨f1,f2,kv,g1.at t1,g1.at t2,t3⟩;refine cf (a9 (av rfl (mq hb (bL (by decide+kernel)) rfl (ab (aO (ab (av rfl (ah (rh (k:=k+4) (by simp) hM1 (h2.gr.at (g1.at hv)) h2 λa s3 h3=>?_)))))))))
 refine bH ?_;rw[exec];refine hr (loc:=[some (.ref t),some (.ref v),some (.int B),some (.tup [.tup [.str "a",kN]]),some (.ref s1.length)]) g1 h3 (λs4 fs lg tk e th hp h4=>Lp.fin h4 ?_) rfl o6 (by unfold o6;omega)
 obtain⟨sp4,hb4⟩:=h4.br;refine bi (cL (a9 (av rfl (mq hb4 (bL (by decide+kernel)) rfl (ah (rg (k:=k+4) h4 λn s5 g5 hs=>?_))))))
 exact cA (h n s5 e th lg tk hp ((g1.trans h4.gr).trans g5) hs)
end
noncomputable def iO(B dp res:Int)(lgs:List D):D:=if B<=dp then .tup [.str "dry",.non,.tup [],.int B] else .tup [.str "answer",.tup [.str "num",.int res],.tup lgs,.int (dp+1)]
section
variable{k:Nat}{st:aK}{Q:D->aK->Prop}{dp B:Int}{t v:Nat}{l:Bool}
theorem Tr.gr{b b':aK}{t:Nat}{x:Str}(h:Tr b t x d)(g:Gr b b'):Tr b' t x d:=by obtain⟨f1,f2,kv,h1,h2,h3⟩:=h;exact⟨f1,f2,kv,g.at h1,g.at h2,h3⟩
theorem p8{res:Int}{lgs:List D}(hd:0<=dp/\dp<=2000)(hB:0<=B/\B<=10000)(hT:Tr st t "f" (fD bot l))(hM:Tr st t "main" yA)(hv:st[v]? =some (.lst [.int dp]))
  (hb:∀{b st1:aK}{a:Nat}{F:List Fm}{loc:Loc}{Q':Fl->aK->Prop},Stk bot l dp 0 F->Rp b t B st1 (fresh bot l 0 a::F) [] (dp+1) .non .non->(∀st',Rp b t B st' [] lgs (dp+1) (.str "answer") (.tup [.str "num",.int res])->Lp (k+6) b loc Q' 1 st')->Lp (k+6) b loc Q' (1+12*dp.toNat+15) st1)
  (h:∀n st' e th lg tk,D.tup [.str e,th,.tup lg,.int tk]=iO B dp res lgs->Gr st st'->Seen st' n e th lg tk->Q (.ref n) st'):Wv (calls tab (k+7) cX [.ref t,.ref v,.int B] st) Q:=by
 refine yl (k:=k) (N:=1+12*dp.toNat+15+15*dp.toNat+7) (λe th lg tk=>D.tup [.str e,th,.tup lg,.int tk]=iO B dp res lgs) (by omega) hB hM hv (λg hR fin=>?_) h
 refine Ac (N:=1+12*dp.toNat+15) hd hB.1 (hT.gr g) hR (λhk fs st' h'=>(fin st' fs [] B "dry" .non ?_ h').le (by omega)) λhk a F st' hS h'=>hb hS h' λst' h'=>fin st' [] _ _ _ _ ?_ h'
 ·unfold iO;rw[if_pos hk]
 ·unfold iO;rw[if_neg (by omega)]
theorem zy(hd:0<=dp/\dp<=2000)(hB:0<=B/\B<=10000)(hM:Tr st t "main" yB)(hv:st[v]? =some (.lst [.int dp]))
  (h:∀n st' e th lg tk,D.tup [.str e,th,.tup lg,.int tk]=iO B dp dp []->Gr st st'->Seen st' n e th lg tk->Q (.ref n) st'):Wv (calls tab (k+7) cX [.ref t,.ref v,.int B] st) Q:=by
 refine yl (k:=k) (N:=1+15*dp.toNat+20) (λe th lg tk=>D.tup [.str e,th,.tup lg,.int tk]=iO B dp dp []) (by omega) hB hM hv (λg hR fin=>?_) h
 refine Ab (N:=1) hd hB.1 hR (λhk fs st' h'=>fin st' fs [] B "dry" .non ?_ h') λhk st' h'=>fin st' [] _ _ _ _ ?_ h'
 ·unfold iO;rw[if_pos hk]
 ·unfold iO;rw[if_neg (by omega)]
noncomputable def x5(w:Nat):List D:=if w=1 then [.tup [.str "return",cn 0]] else if w=2 then [] else [.tup [.str "raise",.str "odd"]]
noncomputable def Dk(w:Nat):D:=if w=3 then yB else yA
noncomputable def uB(w:Nat)(dp:Int):Int:=if w=0 then 0 - dp else if w=2 then 7 else dp
noncomputable def u8(w:Nat)(l:Bool)(dp:Int):List D:=if w=1 then lV l dp.toNat else []
theorem BZ(hw:w<4)(hd:0<=dp/\dp<=2000)(hB:0<=B/\B<=10000)(hT:Tr st t "f" (fD (x5 w) l))(hM:Tr st t "main" (Dk w))(hv:st[v]? =some (.lst [.int dp]))
  (h:∀n st' e th lg tk,D.tup [.str e,th,.tup lg,.int tk]=iO B dp (uB w dp) (u8 w l dp)->Gr st st'->Seen st' n e th lg tk->Q (.ref n) st'):Wv (calls tab (k+7) cX [.ref t,.ref v,.int B] st) Q:=by
 match w,hw with
 |0,_=>exact p8 hd hB hT hM hv (λhS hR fin=>(x3 (N:=1) hd hS hR fin).le (by omega)) h
 |1,_=>exact p8 hd hB hT hM hv (λhS hR fin=>x2 (N:=1) hd hS hR fin) h
 |2,_=>exact p8 hd hB hT hM hv (λhS hR fin=>(x4 (N:=1) hd hS hR fin).le (by omega)) h
 |3,_=>exact zy hd hB hM hv h
theorem p6{i:Nat}{j:Int}(h:i<n):(c7 j n)[i]? =some (.int (j+(i:Int))):=by simp[c7,h]
theorem BP(hw:w<4)(hd:0<=dp/\dp<=2000)(h:∀st',Gr st st'->Q (iO B dp (uB w dp) (u8 w l dp)) st'):Wv (calls tab (k+1) ql [.int w,.int dp,.int B,.int (if l then 1 else 0)] st) Q:=by
 walk_at "call0"
 refine bu (bf (av rfl (av rfl (wm ?_))));by_cases hk:B<=dp
 ·refine⟨true,by simp[hk],λ_=>?_,nofun⟩
  refine cL (ba (ab (aO (ab (aO (ab (ba (ah (ab (av rfl (ah ?_)))))))))));have:=h st (.refl _);unfold iO at this;rw[if_pos hk] at this;exact this
 ·refine⟨false,by simp[hk],nofun,λ_=>am (bi ?_)⟩
  have fin:∀{st':aK}{lgs:List D},Gr st st'->lgs=u8 w l dp->W (execs (calls tab k) [.ret (.tup [(.c (.str "answer")),(.tup [(.c (.str "num")),(.ix (.lst [(.bin .sub (.c (.int (0))) (.v 1)),(.v 1),(.c (.int (7))),(.v 1)]) (.v 0))]),(.v 4),(.bin .add (.v 1) (.c (.int (1))))])] [some (.int w),some (.int dp),some (.int B),some (.int (if l then 1 else 0)),some (.tup lgs)] st') (Kr Q):=λ{st' lgs} g e=>by
   subst e;refine cL (ba (ab (aO (ab (ba (ab (aO (ab (aW (gp (ab (bR (aO (av rfl (w_sub (ab (av rfl (ab (aO (ab (av rfl (ah (av rfl (cZ (d:= .int (uB w dp)) bJ ?_ ?_))))))))))))))))))))))))
   ·match w,hw with
    |0,_=>rfl
    |1,_=>rfl
    |2,_=>rfl
    |3,_=>rfl
   ·refine ah (ab (av rfl (ab (bR (av rfl (aO (w_add (ah ?_))))))));have:=h _ (g.more (.lst [.int (0 - dp),.int dp,.int 7,.int dp]));unfold iO at this;rw[if_neg hk] at this;exact this
  refine bB (ba (ah ?_));refine bu (w_and (bf (av rfl (aO (fL ?_)))));by_cases h1:w=1
  ·refine⟨true,by simp[h1],λ_=>bf (av rfl (aO (sj ?_))),nofun⟩
   cases l with
   |false=>exact⟨false,rfl,nofun,λ_=>am (bi (fin (.refl _) (by simp[u8,h1,lV])))⟩
   |true=>
    refine⟨true,rfl,λ_=>?_,nofun⟩;refine bB (dN (ab (wr (aO (bR (av rfl (aO (w_add ⟨.its (c7 1 (dp+1 - 1).toNat),?_,?_⟩))))))))
    ·simp only[j7];rw[if_pos (by omega)]
    refine iS (by simp[c7];omega) (λi acc st'=>acc=(lV true dp.toNat).take i/\st'=st) ⟨rfl,rfl⟩ ?_ ?_
    ·rintro i x acc st' hx ⟨rfl,rfl⟩
     have hi:i<dp.toNat:=by have:=(aL hx).1;simp[c7] at this;omega
     have hx':x=.int (1+(i:Int)):=by
      have:(c7 1 (dp+1 - 1).toNat)[i]? =some (.int (1+(i:Int))):=p6 (by omega)
      rw[this] at hx;exact(ag hx).symm
     subst hx';refine mr (ba (ab (aO (ab (av rfl (ah ⟨?_,rfl⟩))))));have hl:i<(lV true dp.toNat).length:=by simp[lV];omega
     rw[List.take_succ_eq_append_getElem hl];congr 2;simp[lV,Int.add_comm]
    ·rintro acc st' ⟨rfl,rfl⟩;have e:(lV true dp.toNat).take (c7 1 (dp+1 - 1).toNat).length=lV true dp.toNat:=List.take_of_length_le (by simp[lV,c7])
     rw[e];refine ah (n6 bJ (am (bi (fin ((Gr.refl _).more _) (by simp[u8,h1])))))
  ·exact⟨false,by simp;omega,nofun,λ_=>⟨false,rfl,nofun,λ_=>am (bi (fin (.refl _) (by simp[u8,h1])))⟩⟩
end
noncomputable def gB:List Fn:=tab.map xt
noncomputable def wu:R Rs->Option D
 | .ok (.v d) _=>some d
 |_=>none
noncomputable def DM:R Rs->aK
 | .ok _ s=>s
 | .bad=>[]
theorem yz{r:R Rs}(h:wu r=some d):r=.ok (.v d) (DM r):=by
 cases r with
 |bad=>cases h
 |ok x s=>cases x with
  |v e=>cases h;rfl
  |x n=>cases h
noncomputable def d7(w l:Nat):D:=(wu (calls gB 4 g9 [.int w,.int l] [])).getD .non
theorem qO(k:Nat)(hw:w<4)(hl:l<2):wu (calls gB (k+4) g9 [.int w,.int l] [])=some (d7 w l)/\wa (d7 w l)=true:=by
 match w,hw,l,hl with
 |0,_,0,_=>exact⟨by kernel_rfl,by kernel_rfl⟩
 |0,_,1,_=>exact⟨by kernel_rfl,by kernel_rfl⟩
 |1,_,0,_=>exact⟨by kernel_rfl,by kernel_rfl⟩
 |1,_,1,_=>exact⟨by kernel_rfl,by kernel_rfl⟩
 |2,_,0,_=>exact⟨by kernel_rfl,by kernel_rfl⟩
 |2,_,1,_=>exact⟨by kernel_rfl,by kernel_rfl⟩
 |3,_,0,_=>exact⟨by kernel_rfl,by kernel_rfl⟩
 |3,_,1,_=>exact⟨by kernel_rfl,by kernel_rfl⟩
section
variable{k:Nat}{st:aK}{Q:D->aK->Prop}
theorem zi(hw:w<4)(hl:l<2)(h:∀st',Gr st st'->Q (d7 w l) st'):Wv (calls tab (k+4) g9 [.int w,.int l] st) Q:=by obtain⟨h1,h2⟩:=qO k hw hl;rw[gn rfl (yz h1) st];show Q (sd st (d7 w l)) _;rw[show sd st (d7 w l)=d7 w l from kY _ _ h2];exact h _ ⟨_,rfl⟩
end
noncomputable def rX(r:R Rs):Option (Nat×Option O×Option O):=match r with
 | .ok (.v (.ref n)) s=>some (n,s[n]?,s[n+2]?)
 |_=>none
noncomputable def yh(n:Nat)(F M:D):Option (Nat×Option O×Option O):=some (n,some (.ins "Typed" [("functions",.ref (n+1)),("kept_functions",.ref (n+2))]),some (.dct [(.inr "f",F),(.inr "main",M)]))
noncomputable def wz(n:Nat)(w:Nat)(l:Bool):Option (Nat×Option O×Option O):=yh n (fD (x5 w) l) (Dk w)
theorem oa{F M:D}{k f:Nat}{d:List D}{p:aK}{Q:D->aK->Prop}(hd:iX d=true)(h:rX (calls gB k f d [])=yh n F M)(hn:wa F=true/\wa M=true)(hq:∀t st',Gr p st'->Tr st' t "f" F->Tr st' t "main" M->Q (.ref t) st'):Wv (calls tab k f d p) Q:=by
 cases e:calls gB k f d [] with
 |bad=>rw[e] at h;cases h
 |ok x s=>
  rw[e] at h;cases x with
  |x m=>cases h
  |v y=>
   cases y with
   |ref m=>
    have h:some (m,s[m]?,s[m+2]?)=yh n F M:=h;unfold yh at h;injection h with h;injection h with h0 h;injection h with h1 h2;subst h0;rw[gn hd e p];have t1:(dm p s)[p.length+m]? =some (.ins "Typed" [("functions",.ref (p.length+(m+1))),("kept_functions",.ref (p.length+(m+2)))]):=by rw[cM,h1];rfl
    have t2:(dm p s)[p.length+(m+2)]? =some (.dct [(.inr "f",F),(.inr "main",M)]):=by rw[cM,h2];show some (O.dct [(_,nX p.length F),(_,nX p.length M)])=_;rw[kY _ _ hn.1,kY _ _ hn.2]
    exact hq _ _ ⟨_,rfl⟩ ⟨_,_,_,t1,t2,rfl⟩ ⟨_,_,_,t1,t2,rfl⟩
   |_=>cases h
theorem Bp(k:Nat):rX (calls gB (k+15) dU [d7 0 0] [])=wz 230 0 false:=by kernel_rfl
theorem Bn(k:Nat):rX (calls gB (k+15) dU [d7 0 1] [])=wz 246 0 true:=by kernel_rfl
theorem Bm(k:Nat):rX (calls gB (k+15) dU [d7 1 0] [])=wz 240 1 false:=by kernel_rfl
theorem Bl(k:Nat):rX (calls gB (k+15) dU [d7 1 1] [])=wz 256 1 true:=by kernel_rfl
theorem Bk(k:Nat):rX (calls gB (k+15) dU [d7 2 0] [])=wz 224 2 false:=by kernel_rfl
theorem Bj(k:Nat):rX (calls gB (k+15) dU [d7 2 1] [])=wz 240 2 true:=by kernel_rfl
theorem Bi(k:Nat):rX (calls gB (k+15) dU [d7 3 0] [])=wz 240 3 false:=by kernel_rfl
theorem Bh(k:Nat):rX (calls gB (k+15) dU [d7 3 1] [])=wz 256 3 true:=by kernel_rfl
section
variable{k:Nat}{b st:aK}{Q:D->aK->Prop}{t a:Nat}{B tk:Int}{kvs:List (Key×D)}{ws ps:List D}{r fs:List Fm}{lg:List D}{en th:D}{d:D}
theorem oC{f:Nat}{ds:List D}{d:D}(hd:iX ds=true)(h:wu (calls gB k f ds [])=some d)(hn:wa d=true)(hq:∀st',Gr st st'->Q d st'):Wv (calls tab k f ds st) Q:=by rw[gn hd (yz h) st];show Q (sd st d) _;rw[show sd st d=d from kY _ _ hn];exact hq _ ⟨_,rfl⟩
theorem Ba{α:Type}{r:R α}{a:α}{st:aK}{Q:α->aK->Prop}(e:r=.ok a st)(h:Q a st):W r Q:=by rw[e];exact h
theorem oB(hn:xs.length=n)(hl:n<1000)(hR:Rp b t B st (⟨a,kvs,ws,xs++ps'⟩::r) lg tk en th)(h:∀v st',st'[v]? =some (.lst xs.reverse)->Rp b t B st' (⟨a,kvs,ws,ps'⟩::r) lg tk en th->Q (.ref v) st'):
  Wv (calls tab (k+1) iD [.ref (a+1),.int (n:Int)] st) Q:=by
 subst hn;exact ka hl hR h
theorem oF{name y:Str}{val:D}{v:Nat}(hyz:iF [(Sum.inr y,val),(Sum.inr z,val2)]=[(Sum.inr y,val),(Sum.inr z,val2)])(hl:fs.length<100000)(hT:Tr b t name (.tup [.tup [.tup [.str y,kd],.tup [.str z,kd2]],gv,rows]))(hv:st[v]? =some (.lst [val,val2]))(hR:Rp b t B st fs lg tk en th)
  (h:∀a st',Rp b t B st' (⟨a,[(.inr y,val),(.inr z,val2)],[.tup [.str "rows",rows,.int 0]],[]⟩::fs) lg tk en th->Q .non st'):Wv (calls tab (k+2) hJ [.ref b.length,.str name,.ref v] st) Q:=by
 walk_at "call0"
 obtain⟨sp,hb⟩:=hR.br;obtain⟨f1,f2,kv,t1,t2,t3⟩:=id hT;refine bB (a9 (aN (av rfl (fq hb rl (z_ (hR.gr.at t1) rfl (ab (av rfl (ah (kb (k:=k) hT hR.gr ?_)))))))));refine bB (qK ?_);refine qL (aW (av rfl (aO (aU rfl (av rfl ⟨_,rfl,?_⟩)))));refine n8 (L:=[.tup [.tup [.str y,kd],val],.tup [.tup [.str z,kd2],val2]]) (by simp[d8,a8]) (by simp[d8,a8]) (λi acc st'=>acc=([.tup [.str y,val],.tup [.str z,val2]]:List D).take i/\st'=st) ⟨rfl,rfl⟩ ?_ ?_ ?_
 ·rintro i acc st' ⟨_,rfl⟩;simp only[fc,a8,hv]
  match i with
  |0=>rfl
  |1=>rfl
  |i+2=>rfl
 ·rintro i z acc st' hz ⟨rfl,rfl⟩
  match i with
  |0=>cases hz;exact ia (ba (ab (aW (av rfl (aO (aU rfl (ab (av rfl (ah ⟨rfl,rfl⟩)))))))))
  |1=>cases hz;exact ia (ba (ab (aW (av rfl (aO (aU rfl (ab (av rfl (ah ⟨rfl,rfl⟩)))))))))
  |i+2=>cases hz
 rintro acc st' ⟨e,rfl⟩;have e:acc=[.tup [.str y,val],.tup [.str z,val2]]:=e;subst e;refine⟨_,_,[(.inr y,val),(.inr z,val2)],rfl,bJ,rfl,?_⟩;rw[hyz];generalize hs1:st'++[O.lst [.tup [.str y,val],.tup [.str z,val2]]]=s1;have g1:Gr st' s1:=⟨_,hs1.symm⟩;have h1:=hR.more g1;have h2:=h1.more (.one s1 (.dct [(.inr y,val),(.inr z,val2)]));obtain⟨sp2,hb2⟩:=h2.br;refine ff (aN (av rfl (fq hb2 bo (cP h2.fr (mo (ab (av rfl (ab (aW (av rfl (aO (aU rfl (ah (rj (k:=k) (H:=s1.length) (by simp) bJ λhf=>⟨rfl,?_⟩))))))))))))))
 have h3:=h2.more ⟨_,rfl⟩ (st':=s1++[O.dct [(.inr y,val),(.inr z,val2)]]++[O.ins "Frame" (vL s1.length),.lst [.tup [.str "rows",rows,.int 0]],.lst []]);refine bY h3.fr (by simp;omega) (am (bg (h s1.length _ ?_)))
 have hbl:b.length+3<=s1.length:=by have:=(aL h1.fr).1;omega
 have hlen:(s1++[O.dct [(.inr y,val),(.inr z,val2)]]).length=s1.length+1:=by simp
 rw[hlen];refine⟨jG h3.gr (by omega),let⟨sp,e⟩:=h3.br;⟨sp,sn e (by omega)⟩,sn h3.lg (by omega),?_,⟨hbl,?_⟩,?_,?_⟩
 ·rw[dO (aL h3.fr).1];simp
 ·simp
 ·exact hf.keep λi o i1 i2 e=>sn e (by simp only at i1;omega)
 ·refine Fs.keep (hi:=s1.length) (st:=s1) h1.fo (ae _) λi o i1 i2 e=>sn (bU (bU e)) (by omega)
theorem vG{name y:Str}{val:D}(hes:es.length=2)(hyz:iF [(Sum.inr y,val),(Sum.inr z,val2)]=[(Sum.inr y,val),(Sum.inr z,val2)])(hl:r.length<90000)(hk:tk≠B)(hT:Tr b t name (.tup [.tup [.tup [.str y,kd],.tup [.str z,kd2]],gv,rows]))(hR:Rp b t B st (⟨a,kvs,.tup [.str "enter",.tup [.str "call",.str name,.tup es,kd3]]::ws,val2::val::ps⟩::r) lg tk en th)
  (h:∀a' st',Rp b t B st' (⟨a',[(.inr y,val),(.inr z,val2)],[.tup [.str "rows",rows,.int 0]],[]⟩::⟨a,kvs,ws,ps⟩::r) lg (tk+1) en th->Q .non st'):Wv (calls tab (k+5) aq [.ref b.length] st) Q:=by
 refine fG (k:=k+3) hR (by decide+kernel) rfl λs1 h1=>?_
 obtain⟨sp,hb⟩:=h1.br;refine cf (a9 (av rfl (mq hb (bL (by decide+kernel)) rfl (ab (aW (aW (av rfl (aO (aU rfl (aO (aU rfl (ab (a9 (av rfl (mq h1.fm (i_ (by decide+kernel)) rfl ?_)))))))))))))))
 refine ab (dN (ab (aW (aW (av rfl (aO (aU rfl (aO (aU rfl (ah (gM (ah ?_))))))))))));refine oB (k:=k+2) (xs:=[val2,val]) (ps':=ps) hes.symm (by omega) h1 λv s2 hv h2=>ah ?_
 walk_at "call0"
 obtain⟨sp2,hb2⟩:=h2.br;have hvb:v≠b.length:=λz=>by subst z;rw[hb2] at hv;cases hv
 refine bu (a9 (av rfl (mq hb2 (bL (by decide+kernel)) rfl (ah (pY (k:=k+2) hk h2 λs3 h3 keep=>⟨true,rfl,λ_=>?_,nofun⟩)))))
 obtain⟨sp3,hb3⟩:=h3.br;refine cf (a9 (av rfl (mq hb3 (bL (by decide+kernel)) rfl (ab (av rfl (ab (av rfl (ah (oF (k:=k) hyz (by simp;omega) hT (keep v _ hvb hv) h3 λa' s4 h4=>?_)))))))))
 exact am (bi (am (bg (am (bg (h a' s4 h4))))))
theorem vF{name:D}{val:D}(hes:es.length=2)(hk:tk=B)(hR:Rp b t B st (⟨a,kvs,.tup [.str "enter",.tup [.str "call",name,.tup es,kd3]]::ws,val2::val::ps⟩::r) lg tk en th)
  (h:∀fs st',Rp b t B st' fs lg tk (.str "dry") th->Q .non st'):Wv (calls tab (k+5) aq [.ref b.length] st) Q:=by
 refine fG (k:=k+3) hR (by decide+kernel) rfl λs1 h1=>?_
 obtain⟨sp,hb⟩:=h1.br;refine cf (a9 (av rfl (mq hb (bL (by decide+kernel)) rfl (ab (aW (aW (av rfl (aO (aU rfl (aO (aU rfl (ab (a9 (av rfl (mq h1.fm (i_ (by decide+kernel)) rfl ?_)))))))))))))))
 refine ab (dN (ab (aW (aW (av rfl (aO (aU rfl (aO (aU rfl (ah (gM (ah ?_))))))))))));refine oB (k:=k+2) (xs:=[val2,val]) (ps':=ps) hes.symm (by omega) h1 λv s2 hv h2=>ah ?_
 walk_at "call0"
 obtain⟨sp2,hb2⟩:=h2.br;refine bu (a9 (av rfl (mq hb2 (bL (by decide+kernel)) rfl (ah (uo (k:=k+2) hk h2 λs3 h3=>⟨false,rfl,nofun,λ_=>?_⟩)))))
 exact am (bi (am (bg (am (bg (h _ _ h3))))))
theorem vD{td:D}(ht:∀(P:D->aK->Prop) st,(∀st',Gr st st'->P td st')->Wv (calls tab (k+2) i5 [d] st) P)(hR:Rp b t B st [⟨a,kvs,.tup [.str "leave"]::ws,d::ps⟩] lg tk en th)(h:∀st',Rp b t B st' [] lg tk (.str "answer") td->Q .non st'):Wv (calls tab (k+7) aq [.ref b.length] st) Q:=by
 refine jO (k:=k+4) hR (by decide+kernel) rfl rfl λs1 h1=>?_
 obtain⟨sp,hb⟩:=h1.br;refine cf (a9 (av rfl (mq hb (bL (by decide+kernel)) rfl (ab (av rfl (ah ?_))))))
 walk_at "call0"
 refine cf (eV (aN (av rfl (fq hb bo ⟨_,_,.ref (a+1),rfl,h1.fr,rfl,?_⟩))));have h2:Rp b t B (s1.set (b.length+2) (O.lst [])) [] lg tk en th:=h1.pop;rw[show(List.map (λf:Fm=>D.ref (f.a+1)) [⟨a,kvs,ws,ps⟩]).reverse.dropLast=[] from rfl];generalize s1.set (b.length+2) (O.lst [])=s2 at h2 ⊢;obtain⟨sp2,hb2⟩:=h2.br;refine bu (bf (dN (ab (aN (av rfl (fq hb2 bo (ah (c0 h2.fr (aO (fL ⟨true,rfl,λ_=>?_,nofun⟩))))))))));refine cf (a9 (av rfl (mq hb2 (bL (by decide+kernel)) rfl (ab (av rfl (ah ?_))))))
 walk_at "call0"
 refine gL (aO (av rfl (fe hb2 ⟨by simp[gH],by decide+kernel⟩ ?_)))
 rw[fU];have h3:=h2.rn (tk':=tk) (sp':=sp2) (en':= .str "answer") (th':=th);generalize s2.set b.length (O.ins "Runner" (gH b.length t B tk sp2 (.str "answer") th))=s3 at h3 ⊢;refine gL (bW (ab (av rfl (ah (ht _ _ λs4 g4=>?_)))));have h4:=h3.more g4;obtain⟨sp4,hb4⟩:=h4.br;refine av rfl (fe hb4 ⟨by simp[gH],by decide+kernel⟩ ?_)
 rw[jv];exact am (bg (am (bi (am (bg (am (bg (h _ h4.rn))))))))
theorem As(hR:Rp b t B st [⟨a,kvs,[],ps⟩] lg tk en th)(h:∀st',Rp b t B st' [] lg tk (.str "fault") (.str "end")->Q .non st'):Wv (calls tab (k+4) aq [.ref b.length] st) Q:=by
 walk_at "call0"
 obtain⟨sp,hb⟩:=hR.br;refine bB (aW (aN (av rfl (fq hb bo (iR (aO ⟨1,rfl,hR.at1 ?_⟩))))));refine bu (bf (dN (ab (aN (av rfl (fq hR.fm iN (ah (c0 hR.wt (aO (fL ⟨true,rfl,λ_=>?_,nofun⟩))))))))));refine cf (a9 (av rfl (mq hb (bL (by decide+kernel)) rfl (ab (aO (ah ?_))))))
 walk_at "call0"
 refine pG (λm loc st'=>∃l2,loc=[some (.ref b.length),some (.str "end"),l2]/\((m=1/\Rp b t B st' [⟨a,kvs,[],ps⟩] lg tk en th)∨(m=0/\Rp b t B st' [] lg tk en th))) 1 (by omega) ⟨_,rfl,.inl ⟨rfl,hR⟩⟩ ?_
 rintro m loc st' ⟨l2,rfl,⟨rfl,h1⟩|⟨rfl,h1⟩⟩
 ·obtain⟨sp,hb⟩:=h1.br;refine bf (dN (ab (aN (av rfl (fq hb bo (ah (c0 h1.fr (aO (sj ⟨true,rfl,λ_=>⟨0,rfl,?_⟩,nofun⟩)))))))));refine bB (a9 (aW (aN (av rfl (fq hb bo (iR (aO ⟨1,rfl,h1.at1 (mq h1.fm (i_ (by decide+kernel)) rfl (ab (av rfl (ah ?_))))⟩)))))))
  refine kS (k:=k+1) (by simp) .nil h1 λs2 h2=>?_
  obtain⟨sp2,hb2⟩:=h2.br;refine bu (bf (av rfl (aO ⟨false,rfl,nofun,λ_=>am (bi ?_)⟩)));refine cf (eV (aN (av rfl (fq hb2 bo ⟨_,_,.ref (a+1),rfl,h2.fr,rfl,?_⟩))));exact am ⟨_,rfl,.inr ⟨rfl,h2.pop⟩⟩
 ·obtain⟨sp,hb⟩:=h1.br;refine bf (dN (ab (aN (av rfl (fq hb bo (ah (c0 h1.fr (aO (sj ⟨false,rfl,nofun,λ_=>?_⟩)))))))));refine cf (a9 (av rfl (mq hb (bL (by decide+kernel)) rfl (ab (av rfl (ah ?_))))))
  walk_at "call0"
  refine gL (aO (av rfl (fe hb ⟨by simp[gH],by decide+kernel⟩ ?_)))
  rw[fU];have h3:=h1.rn (tk':=tk) (sp':=sp) (en':= .str "fault") (th':=th);generalize st'.set b.length (O.ins "Runner" (gH b.length t B tk sp (.str "fault") th))=s3 at h3 ⊢;obtain⟨sp3,hb3⟩:=h3.br;refine gL (av rfl (av rfl (fe hb3 ⟨by simp[gH],by decide+kernel⟩ ?_)))
  rw[jv];exact am (bg (am (bg (m4 (fi (cA (h _ h3.rn)))))))
end
noncomputable def rK:D:= .tup [.str "row",.int 3]
noncomputable def pK:D:= .tup [.str "record",.tup [kN,kT]]
noncomputable def lr(x:Str):D:= .tup [.str "local",.str x,rK]
noncomputable def lp(x:Str):D:= .tup [.str "local",.str x,pK]
noncomputable def B5:D:= .tup [.str "op",.str "pick",.non,.tup [lr "r",cn 2],kN]
noncomputable def E9:List D:=[.tup [.str "set",.str "p",.tup [.str "op",.str "put",.int 0,.tup [lp "p",B5],pK]],.tup [.str "set",.str "r",.tup [.str "op",.str "lay",.non,.tup [lr "r",cn 0,cn 7],rK]],.tup [.str "return",lp "p"]]
noncomputable def fW:D:= .tup [.tup [.tup [.str "r",rK],.tup [.str "p",pK]],pK,.tup E9]
noncomputable def getD(x:Str):D:= .tup [.str "op",.str "get",.int 0,.tup [lp x],kN]
noncomputable def A0(last:List D):List D:= .tup [.str "let",.str "s",.tup [.str "call",.str "f",.tup [lr "r",lp "p"],pK]]:: .tup [.str "set",.str "r",.tup [.str "op",.str "lay",.non,.tup [lr "r",cn 1,getD "s"],rK]]:: .tup [.str "log",getD "p"]::last
noncomputable def mW(g:D)(last:List D):D:= .tup [.tup [.tup [.str "r",rK],.tup [.str "p",pK]],g,.tup (A0 last)]
section
variable{k:Nat}{b st:aK}{Q:D->aK->Prop}{t a:Nat}{B:Int}{r fs:List Fm}{x y z d:D}
theorem rM(e:∀st,calls tab (k+1) lj [.str o] st=.ok (.v (.bl false)) st){Q:Fl->aK->Prop}{A:List S}(h0:loc[0]? =some (some (.str o)))(h:W (execs (calls tab (k+1)) ss loc st) Q):W (execs (calls tab (k+1)) (.ite (.fn 5 [(.v 0)]) A []::ss) loc st) Q:=by refine bu (bW (ab (av h0 (ah ?_))));rw[show calls tab (k+1) 5 [.str o] st=_ from e st];exact⟨false,rfl,nofun,λ_=>am (bi h)⟩
theorem yn(hn:st[n]? =some (.lst [.tup [x,y]]))(h:Q x st):Wv (calls tab (k+2) cC [.str "get",.int 0,.ref n] st) Q:=by
 walk_at "call0"
 refine rM (o:= "get") (λst=>by kernel_rfl) rfl ?_
 refine bu (bf (av rfl (aO (w_eq (k:=false) (by rw[eq_str];decide+kernel) ⟨false,rfl,nofun,λ_=>am (bi ?_)⟩))))
 refine bu (bf (av rfl (aO (w_eq (k:=true) (by rw[eq_str];decide+kernel) ⟨true,rfl,λ_=>?_,nofun⟩))))
 exact cL (aW (aW (av rfl (aO (cZ hn rfl (av rfl (aU rfl (fi (cA h)))))))))
theorem BK(hn:st[n]? =some (.lst [.tup [x,y],z]))(h:Q (.tup [z,y]) st):Wv (calls tab (k+2) cC [.str "put",.int 0,.ref n] st) Q:=by
 walk_at "call0"
 refine rM (o:= "put") (λst=>by kernel_rfl) rfl ?_
 refine bu (bf (av rfl (aO (w_eq (k:=false) (by rw[eq_str];decide+kernel) ⟨false,rfl,nofun,λ_=>am (bi ?_)⟩))))
 refine bu (bf (av rfl (aO (w_eq (k:=false) (by rw[eq_str];decide+kernel) ⟨false,rfl,nofun,λ_=>am (bi ?_)⟩))))
 refine bu (bf (av rfl (aO (w_eq (k:=true) (by rw[eq_str];decide+kernel) ⟨true,rfl,λ_=>?_,nofun⟩))))
 refine cL (bW (ab (aW (av rfl (aO (cZ hn rfl (ab (av rfl (ab (aW (av rfl (aO (cZ hn rfl (ah ?_))))))))))))));have e:calls tab (k+1) lh [.tup [x,y],.int 0,z] st=.ok (.v (.tup [z,y])) st:=by kernel_rfl
 rw[show calls tab (k+1) 12 [.tup [x,y],.int 0,z] st=_ from e];exact h
theorem BX(e:∀st,calls tab (k+1) lj [.str o] st=.ok (.v (.bl true)) st)(h:Wv (calls tab (k+1) vo [.str o,.ref n] st) Q):Wv (calls tab (k+2) cC [.str o,ex,.ref n] st) Q:=by
 walk_at "call0"
 refine bu (bW (ab (av rfl (ah ?_))));rw[show calls tab (k+1) 5 [.str o] st=_ from e st];refine⟨true,rfl,λ_=>?_,nofun⟩;exact cL (bW (ab (av rfl (ab (av rfl (ah (h.mono λd st q=>fi (cA q))))))))
theorem zm(hn:st[n]? =some (.lst [.tup [x,y,z],.int 2]))(h:Q z st):Wv (calls tab (k+3) cC [.str "pick",ex,.ref n] st) Q:=by
 refine BX (k:=k+1) (λst=>by kernel_rfl) ?_
 walk_at "call0"
 refine bu (bf (av rfl (aO (w_eq (k:=false) (by rw[eq_str];decide+kernel) ⟨false,rfl,nofun,λ_=>am (bi ?_)⟩))))
 refine bu (bf (av rfl (aO (w_eq (k:=true) (by rw[eq_str];decide+kernel) ⟨true,rfl,λ_=>?_,nofun⟩))))
 refine cf (bW (ab (aW (av rfl (aO (cZ hn rfl (ab (aW (av rfl (aO (cZ hn rfl (ah ?_))))))))))));have e:calls tab (k+1) i7 [.tup [x,y,z],.int 2] st=.ok (.v .non) st:=by kernel_rfl
 rw[show calls tab (k+1) 11 [.tup [x,y,z],.int 2] st=_ from e];exact cL (aW (aW (av rfl (aO (cZ hn rfl (aW (av rfl (aO (cZ hn rfl (aU rfl (fi (cA h))))))))))))
theorem ym{p w:D}(hn:st[n]? =some (.lst [v,p,w]))(e1:∀st,calls tab (k+1) i7 [v,p] st=.ok (.v .non) st)(e2:∀st,calls tab (k+1) lh [v,p,w] st=.ok (.v d) st)(h:Q d st):Wv (calls tab (k+3) cC [.str "lay",ex,.ref n] st) Q:=by
 refine BX (k:=k+1) (λst=>by kernel_rfl) ?_
 walk_at "call0"
 refine bu (bf (av rfl (aO (w_eq (k:=false) (by rw[eq_str];decide+kernel) ⟨false,rfl,nofun,λ_=>am (bi ?_)⟩))))
 refine bu (bf (av rfl (aO (w_eq (k:=false) (by rw[eq_str];decide+kernel) ⟨false,rfl,nofun,λ_=>am (bi ?_)⟩))))
 refine bu (bf (av rfl (aO (w_eq (k:=true) (by rw[eq_str];decide+kernel) ⟨true,rfl,λ_=>?_,nofun⟩))))
 refine cf (bW (ab (aW (av rfl (aO (cZ hn rfl (ab (aW (av rfl (aO (cZ hn rfl (ah ?_))))))))))));rw[show calls tab (k+1) 11 [v,p] st=_ from e1 st];refine cL (bW (ab (aW (av rfl (aO (cZ hn rfl (ab (aW (av rfl (aO (cZ hn rfl (ab (aW (av rfl (aO (cZ hn rfl (ah ?_)))))))))))))))));rw[show calls tab (k+1) 12 [v,p,w] st=_ from e2 st];exact h
variable{loc:Loc}{Q':Fl->aK->Prop}{N:Nat}{i1 i2 i3:Int}{tr:Bool}{last:List D}
theorem xw(hT:Tr b t "f" fW)(hR:Rp b t B st [⟨a,[(.inr "r",.tup [.int i1,.int i2,.int i3]),(.inr "p",.tup [.int i2,.bl tr])],[l_ (A0 last) 0],[]⟩] [] 0 .non .non)
  (h0:B=0->∀fs st',Rp b t B st' fs [] 0 (.str "dry") .non->Lp (k+8) b loc Q' N st')
  (h1:B≠0->∀a st',Rp b t B st' [⟨a,[(.inr "r",.tup [.int i1,.int i3,.int i3]),(.inr "p",.tup [.int i2,.bl tr]),(.inr "s",.tup [.int i3,.bl tr])],[l_ (A0 last) 3],[]⟩] [.tup [.str "num",.int i2]] 1 .non .non->Lp (k+8) b loc Q' N st'):Lp (k+8) b loc Q' (N+45) st:=by
 refine Lp.turn hR (bD (i:=0) (by simp) rfl hR λst hR=>?_)
 refine Lp.turn hR (vC (by simp) hR λst hR=>?_)
 refine Lp.turn hR (qr (by simp) hR λst hR=>?_)
 refine Lp.turn hR (bE (d:= .tup [.int i1,.int i2,.int i3]) (by simp) (by kernel_rfl) hR λst hR=>?_)
 refine Lp.turn hR (bE (d:= .tup [.int i2,.bl tr]) (by simp) (by kernel_rfl) hR λst hR=>?_)
 by_cases hk:(0:Int)=B
 ·exact Lp.turn hR (vF rfl hk hR λfs st hR=>(h0 hk.symm fs st hR).le (by omega))
 refine Lp.turn hR (vG rfl (by kernel_rfl) (by simp) hk hT hR λa' st hR=>?_)
 refine Lp.turn hR (bD (i:=0) (by simp) rfl hR λst hR=>?_)
 refine Lp.turn hR (rV (by simp) hR λst hR=>?_)
 refine Lp.turn hR (jH (by simp) hR λst hR=>?_)
 refine Lp.turn hR (bE (d:= .tup [.int i2,.bl tr]) (by simp) (by kernel_rfl) hR λst hR=>?_)
 refine Lp.turn hR (jH (by simp) hR λst hR=>?_)
 refine Lp.turn hR (bE (d:= .tup [.int i1,.int i2,.int i3]) (by simp) (by kernel_rfl) hR λst hR=>?_)
 refine Lp.turn hR (dz (by simp) hR λst hR=>?_)
 refine Lp.turn hR (cw (xs:=[.int 2,.tup [.int i1,.int i2,.int i3]]) (ps':=[.tup [.int i2,.bl tr]]) (by simp) (by rfl) (λn st1 P hn hp=>zm hn hp) hR λst hR=>?_)
 refine Lp.turn hR (cw (xs:=[.int i3,.tup [.int i2,.bl tr]]) (ps':=[]) (by simp) (by rfl) (λn st1 P hn hp=>BK hn hp) hR λst hR=>?_)
 refine Lp.turn hR (iM (by simp) hR λst hR=>?_)
 rw[show c9 [(Sum.inr "r",D.tup [.int i1,.int i2,.int i3]),(Sum.inr "p",.tup [.int i2,.bl tr])] (Sum.inr "p") (.tup [.int i3,.bl tr])=[(.inr "r",D.tup [.int i1,.int i2,.int i3]),(.inr "p",.tup [.int i3,.bl tr])] from by kernel_rfl] at hR
 refine Lp.turn hR (bD (i:=1) (by simp) rfl hR λst hR=>?_)
 refine Lp.turn hR (rV (by simp) hR λst hR=>?_)
 refine Lp.turn hR (jH (by simp) hR λst hR=>?_)
 refine Lp.turn hR (bE (d:= .tup [.int i1,.int i2,.int i3]) (by simp) (by kernel_rfl) hR λst hR=>?_)
 refine Lp.turn hR (dz (by simp) hR λst hR=>?_)
 refine Lp.turn hR (dz (by simp) hR λst hR=>?_)
 refine Lp.turn hR (cw (xs:=[.int 7,.int 0,.tup [.int i1,.int i2,.int i3]]) (ps':=[]) (by simp) (by rfl) (λn st1 P hn hp=>ym hn (λst=>by kernel_rfl) (d:= .tup [.int 7,.int i2,.int i3]) (λst=>by kernel_rfl) hp) hR λst hR=>?_)
 refine Lp.turn hR (iM (by simp) hR λst hR=>?_)
 rw[show c9 [(Sum.inr "r",D.tup [.int i1,.int i2,.int i3]),(Sum.inr "p",.tup [.int i3,.bl tr])] (Sum.inr "r") (.tup [.int 7,.int i2,.int i3])=[(.inr "r",D.tup [.int 7,.int i2,.int i3]),(.inr "p",.tup [.int i3,.bl tr])] from by kernel_rfl] at hR
 refine Lp.turn hR (bD (i:=2) (by simp) rfl hR λst hR=>?_)
 refine Lp.turn hR (d9 (by simp) hR λst hR=>?_)
 refine Lp.turn hR (bE (d:= .tup [.int i3,.bl tr]) (by simp) (by kernel_rfl) hR λst hR=>?_)
 refine Lp.turn hR (lu (by simp) hR λst hR=>?_)
 refine Lp.turn hR (iM (by simp) hR λst hR=>?_)
 rw[show c9 [(Sum.inr "r",D.tup [.int i1,.int i2,.int i3]),(Sum.inr "p",.tup [.int i2,.bl tr])] (Sum.inr "s") (.tup [.int i3,.bl tr])=[(.inr "r",D.tup [.int i1,.int i2,.int i3]),(.inr "p",.tup [.int i2,.bl tr]),(.inr "s",.tup [.int i3,.bl tr])] from by kernel_rfl] at hR
 refine Lp.turn hR (bD (i:=1) (by simp) rfl hR λst hR=>?_)
 refine Lp.turn hR (rV (by simp) hR λst hR=>?_)
 refine Lp.turn hR (jH (by simp) hR λst hR=>?_)
 refine Lp.turn hR (bE (d:= .tup [.int i1,.int i2,.int i3]) (by simp) (by kernel_rfl) hR λst hR=>?_)
 refine Lp.turn hR (dz (by simp) hR λst hR=>?_)
 refine Lp.turn hR (jH (by simp) hR λst hR=>?_)
 refine Lp.turn hR (bE (d:= .tup [.int i3,.bl tr]) (by simp) (by kernel_rfl) hR λst hR=>?_)
 refine Lp.turn hR (cw (xs:=[.tup [.int i3,.bl tr]]) (ps':=[.int 1,.tup [.int i1,.int i2,.int i3]]) (by simp) (by rfl) (λn st1 P hn hp=>yn hn hp) hR λst hR=>?_)
 refine Lp.turn hR (cw (xs:=[.int i3,.int 1,.tup [.int i1,.int i2,.int i3]]) (ps':=[]) (by simp) (by rfl) (λn st1 P hn hp=>ym hn (λst=>by kernel_rfl) (d:= .tup [.int i1,.int i3,.int i3]) (λst=>by kernel_rfl) hp) hR λst hR=>?_)
 refine Lp.turn hR (iM (by simp) hR λst hR=>?_)
 rw[show c9 [(Sum.inr "r",D.tup [.int i1,.int i2,.int i3]),(Sum.inr "p",.tup [.int i2,.bl tr]),(Sum.inr "s",.tup [.int i3,.bl tr])] (Sum.inr "r") (.tup [.int i1,.int i3,.int i3])=[(.inr "r",D.tup [.int i1,.int i3,.int i3]),(.inr "p",.tup [.int i2,.bl tr]),(.inr "s",.tup [.int i3,.bl tr])] from by kernel_rfl] at hR
 refine Lp.turn hR (bD (i:=2) (by simp) rfl hR λst hR=>?_)
 refine Lp.turn hR (yF (by simp) hR λst hR=>?_)
 refine Lp.turn hR (jH (by simp) hR λst hR=>?_)
 refine Lp.turn hR (bE (d:= .tup [.int i2,.bl tr]) (by simp) (by kernel_rfl) hR λst hR=>?_)
 refine Lp.turn hR (cw (xs:=[.tup [.int i2,.bl tr]]) (ps':=[]) (by simp) (by rfl) (λn st1 P hn hp=>yn hn hp) hR λst hR=>?_)
 exact Lp.turn hR (rT (by simp) hR λst hR=>h1 (λe=>hk e.symm) a st hR)
end
section
variable{k:Nat}{b st:aK}{Q:D->aK->Prop}{t v:Nat}{B:Int}{i1 i2 i3:Int}{tr:Bool}{last:List D}{g:D}
theorem wo{g:eB}{Q:Fl->aK->Prop}{body:List S}{q:Nat}(h2:is.length=2)(he:run g e loc st=.ok (.ref q) st)(hq:st[q]? =some (.lst [x,y]))
  (h:W (execs g body (cV is [.int 0,x] loc) st) λr st1=>∃loc',r=.nx loc'/\st1[q]? =some (.lst [x,y])/\W (execs g body (cV is [.int 1,y] loc') st1) λr st2=>∃loc2,r=.nx loc2/\st2[q]? =some (.lst [x,y])/\W (execs g ss loc2 st2) Q):W (execs g (.forE is e body::ss) loc st) Q:=by
 refine qJ ?_;rw[he];refine⟨.en q,rfl,?_⟩;have n0:fc (.en q) 0 st=some (some (.tup [.int 0,x])):=by simp only[fc,hq];rfl
 have hL:d8 (.en q) st=2:=by simp only[d8,hq];rfl
 unfold eG;rw[hL,eg];simp only[n0];refine aF (aF ?_);simp only[items?,a8,List.length_cons,List.length_nil,h2];refine h.mono λr st1 hp=>?_;obtain⟨loc',rfl,hq1,hs⟩:=hp;have n1:fc (.en q) 1 st1=some (some (.tup [.int 1,y])):=by simp only[fc,hq1];rfl
 show W (eg _ (.en q) 2 1 loc' st1) _;rw[eg];simp only[n1];refine aF (aF ?_);simp only[items?,a8,List.length_cons,List.length_nil,h2];refine hs.mono λr st2 hp=>?_;obtain⟨loc2,rfl,hq2,hs⟩:=hp;have n2:fc (.en q) 2 st2=some none:=by simp only[fc,hq2];rfl
 show W (eg _ (.en q) 1 2 loc2 st2) _;rw[eg];simp only[n2];exact hs
theorem uk{q:Nat}(hq:st[q]? =some (.lst [rK,pK]))(hv:st[v]? =some (.lst [.tup [.int i1,.int i2,.int i3],.tup [.int i2,.bl tr]]))(hB:0<=B/\B<=10000)(h:∀st',Gr st st'->Q .non st'):Wv (calls tab (k+4) i6 [.ref q,.ref v,.int B] st) Q:=by
 walk_at "call0"
 refine cf (bW (ab (dN (ab (av rfl (ah (c0 hq (ab (av rfl (ah ?_))))))))))
 walk_at "call0"
 refine bu (w_or (w_not (tH (av rfl ⟨true,by simp only[i0,hv],true,rfl,false,rfl,nofun,λ_=>?_⟩))))
 refine bf (dN (ab (av rfl (ah (c0 hv (av rfl (tF ⟨false,rfl,nofun,λ_=>am (bi (am (bg ?_)))⟩)))))));refine wo rfl (by simp only[run,dL,List.getElem?_cons_zero];rfl) hq ?_
 refine bu (w_not (bW (ab (aW (av rfl (av rfl (cZ hv rfl (ab (av rfl (ah ?_))))))))));refine oC (d:= .bl true) rfl (by kernel_rfl) rfl λs1 g1=>?_
 refine⟨true,rfl,false,rfl,nofun,λ_=>am (bi (am ⟨_,rfl,g1.at hq,?_⟩))⟩;refine bu (w_not (bW (ab (aW (av rfl (av rfl (cZ (g1.at hv) rfl (ab (av rfl (ah ?_))))))))));refine oC (d:= .bl true) rfl (by kernel_rfl) rfl λs2 g2=>?_
 refine⟨true,rfl,false,rfl,nofun,λ_=>am (bi (am ⟨_,rfl,g2.at (g1.at hq),?_⟩))⟩;exact cf (bW (ab (av rfl (ah (oE (k:=k+1) hB (am (bg (h _ (g1.trans g2)))))))))
theorem zk(P:Str->D->List D->Int->Prop)(hN:N<=900000000)(hB:0<=B/\B<=10000)(hM:Tr st t "main" (mW g last))(hv:st[v]? =some (.lst [.tup [.int i1,.int i2,.int i3],.tup [.int i2,.bl tr]]))
  (hr:∀{b st1:aK}{a:Nat}{loc:Loc}{Q':Fl->aK->Prop},Gr st b->Rp b t B st1 [⟨a,[(.inr "r",.tup [.int i1,.int i2,.int i3]),(.inr "p",.tup [.int i2,.bl tr])],[l_ (A0 last) 0],[]⟩] [] 0 .non .non->(∀st' fs lg tk e th,P e th lg tk->Rp b t B st' fs lg tk (.str e) th->Lp (k+8) b loc Q' 1 st')->Lp (k+8) b loc Q' N st1)
  (h:∀n st' e th lg tk,P e th lg tk->Gr st st'->Seen st' n e th lg tk->Q (.ref n) st'):Wv (calls tab (k+9) cX [.ref t,.ref v,.int B] st) Q:=by
 walk_at "call0"
 obtain⟨f1,f2,kv,t1,t2,t3⟩:=id hM;refine bB (aW (a9 (av rfl (z_ t1 rfl (ab (aO (ah (kb (k:=k+7) hM (.refl _) (aO (aU rfl ?_))))))))));refine cf (bW (ab (qM (av rfl ⟨_,rfl,?_⟩))));refine iS (xs:=[.tup [.str "r",rK],.tup [.str "p",pK]]) (by simp) (λi acc st'=>acc=([rK,pK]:List D).take i/\st'=st) ⟨rfl,rfl⟩ ?_ ?_
 ·rintro i z acc st' hz ⟨rfl,rfl⟩
  match i with
  |0=>cases hz;exact ia (av rfl ⟨rfl,rfl⟩)
  |1=>cases hz;exact ia (av rfl ⟨rfl,rfl⟩)
  |i+2=>cases hz
 rintro acc st' ⟨e,rfl⟩;have e:acc=[rK,pK]:=e;subst e;refine ab (av rfl (ab (av rfl (ah (uk (k:=k+4) bJ (bU hv) hB ?_)))));intro s1 gs;have g1:Gr st' s1:=Gr.trans ⟨_,rfl⟩ gs;refine bB (mo (ab (av rfl (ab (av rfl (ah (oG (k:=k+6) λs2 h2=>⟨rfl,?_⟩)))))));obtain⟨sp,hb⟩:=h2.br;have hM1:Tr s1 t "main" (mW g last):=⟨f1,f2,kv,g1.at t1,g1.at t2,t3⟩;refine cf (a9 (av rfl (mq hb (bL (by decide+kernel)) rfl (ab (aO (ab (av rfl (ah (oF (k:=k+6) (by kernel_rfl) (by simp) hM1 (h2.gr.at (g1.at hv)) h2 λa s3 h3=>?_)))))))))
 refine bH ?_;rw[exec];refine hr (loc:=[some (.ref t),some (.ref v),some (.int B),some (.tup [.tup [.str "r",rK],.tup [.str "p",pK]]),some (.ref s1.length)]) g1 h3 (λs4 fs lg tk e th hp h4=>Lp.fin h4 ?_) rfl o6 (by unfold o6;omega)
 obtain⟨sp4,hb4⟩:=h4.br;refine bi (cL (a9 (av rfl (mq hb4 (bL (by decide+kernel)) rfl (ah (rg (k:=k+6) h4 λn s5 g5 hs=>?_))))))
 exact cA (h n s5 e th lg tk hp ((g1.trans h4.gr).trans g5) hs)
noncomputable def nu(i:Int):D:= .tup [.str "num",.int i]
noncomputable def tu(b:Bool):D:= .tup [.str "truth",.bl b]
noncomputable def Bf(x:Nat)(i1 i2 i3:Int)(tr:Bool):D:=if x=0 then .tup [.int i1,.int i3,.int i3] else if x=1 then .tup [.int i3,.bl tr] else .tup [.int i2,.bl tr]
noncomputable def pP(x:Nat)(i1 i2 i3:Int)(tr:Bool):D:=if x=0 then .tup [nu i1,nu i3,nu i3] else if x=1 then .tup [nu i3,tu tr] else .tup [nu i2,tu tr]
noncomputable def u3(x:Nat):Str:=if x=0 then "r" else if x=1 then "s" else "p"
noncomputable def gY(x:Nat):List D:=if x<3 then [.tup [.str "return",.tup [.str "local",.str (u3 x),if x=0 then rK else pK]]] else []
noncomputable def Ar(x:Nat):D:=if x=0 then rK else if x<3 then pK else kN
noncomputable def eD(x:Nat)(B i1 i2 i3:Int)(tr:Bool):D:=if B=0 then .tup [.str "dry",.non,.tup [],.int 0] else if x<3 then .tup [.str "answer",pP x i1 i2 i3 tr,.tup [nu i2],.int 1] else .tup [.str "fault",.str "end",.tup [nu i2],.int 1]
theorem yS{x:Nat}(hx:x<3)(P:D->aK->Prop)(st:aK)(h:∀st',Gr st st'->P (pP x i1 i2 i3 tr) st'):Wv (calls tab (k+2) i5 [Bf x i1 i2 i3 tr] st) P:=by
 match x,hx with
 |0,_=>exact oC rfl (by kernel_rfl) rfl h
 |1,_=>exact oC rfl (by kernel_rfl) rfl h
 |2,_=>exact oC rfl (by kernel_rfl) rfl h
theorem yQ{x:Nat}{i1 i2 i3:Int}{tr:Bool}(h3:x<3):fE [(Sum.inr "r",D.tup [.int i1,.int i3,.int i3]),(Sum.inr "p",.tup [.int i2,.bl tr]),(Sum.inr "s",.tup [.int i3,.bl tr])] (Sum.inr (u3 x))=some (Bf x i1 i2 i3 tr):=by
 match x,h3 with
 |0,_=>kernel_rfl
 |1,_=>kernel_rfl
 |2,_=>kernel_rfl
theorem rp{x:Nat}(hx:x<4)(hB:0<=B/\B<=10000)(hT:Tr st t "f" fW)(hM:Tr st t "main" (mW (Ar x) (gY x)))(hv:st[v]? =some (.lst [.tup [.int i1,.int i2,.int i3],.tup [.int i2,.bl tr]]))
  (h:∀n st' e th lg tk,D.tup [.str e,th,.tup lg,.int tk]=eD x B i1 i2 i3 tr->Gr st st'->Seen st' n e th lg tk->Q (.ref n) st'):Wv (calls tab (k+9) cX [.ref t,.ref v,.int B] st) Q:=by
 refine zk (k:=k) (N:=1+4+45) (λe th lg tk=>D.tup [.str e,th,.tup lg,.int tk]=eD x B i1 i2 i3 tr) (by omega) hB hM hv (λgg hR fin=>?_) h
 refine xw (N:=1+4) (hT.gr gg) hR (λhk fs st' h'=>(fin st' fs [] 0 "dry" .non ?_ h').le (by omega)) λhk a st' h'=>?_
 ·unfold eD;rw[if_pos hk]
 by_cases h3:x<3
 ·have hl:=yQ (i1:=i1) (i2:=i2) (i3:=i3) (tr:=tr) h3;have e1:A0 (gY x)=A0 [.tup [.str "return",.tup [.str "local",.str (u3 x),if x=0 then rK else pK]]]:=by rw[gY,if_pos h3]
  rw[e1] at h';refine Lp.turn h' (bD (i:=3) (by simp) rfl h' λst hR=>?_)
  refine Lp.turn hR (d9 (by simp) hR λst hR=>?_)
  refine Lp.turn hR (bE (by simp) hl hR λst hR=>?_)
  refine Lp.turn hR (vD (yS h3) hR λst hR=>fin st _ _ _ _ _ ?_ hR);unfold eD;rw[if_neg hk,if_pos h3];rfl
 ·have e1:gY x=[]:=by rw[gY,if_neg h3]
  rw[e1] at h';refine Lp.turn (N:=1+3) h' (kq rfl h' λst hR=>?_);refine Lp.turn (N:=1+2) hR (As hR λst hR=>(fin st _ _ _ _ _ ?_ hR).le (by omega))
  unfold eD;rw[if_neg hk,if_neg h3];rfl
end
noncomputable def gW(x:Nat):D:=if x=0 then .tup [.str "row",.int 3] else if x<3 then .tup [.str "named",.str "pair"] else .tup [.str "num"]
noncomputable def Af(x:Nat):D:=if x<3 then .tup [.tup [.str "return",.tup [.str "name",.str (u3 x)]]] else .tup []
theorem Dw(k:Nat):rX (calls gB (k+14) c_ [gW 0,Af 0] [])=yh 176 fW (mW (Ar 0) (gY 0)):=by kernel_rfl
theorem Dv(k:Nat):rX (calls gB (k+14) c_ [gW 1,Af 1] [])=yh 178 fW (mW (Ar 1) (gY 1)):=by kernel_rfl
theorem Du(k:Nat):rX (calls gB (k+14) c_ [gW 2,Af 2] [])=yh 178 fW (mW (Ar 2) (gY 2)):=by kernel_rfl
theorem Dt(k:Nat):rX (calls gB (k+14) c_ [gW 3,Af 3] [])=yh 165 fW (mW (Ar 3) (gY 3)):=by kernel_rfl
mutual
noncomputable def z9:D->Bool
 | .tup xs=>nA xs
 | .fl _=>false
 | .ref _=>false
 |_=>true
noncomputable def nA:List D->Bool
 |[]=>true
 |d::ds=>z9 d&&nA ds
end
mutual
noncomputable def AH:D->Nat
 | .tup xs=>mh xs+1
 |_=>0
noncomputable def mh:List D->Nat
 |[]=>0
 |d::ds=>max (AH d) (mh ds)
end
mutual
theorem je{s9:aK}:∀(d:D)(n:Nat),z9 d=true->AH d<n->gJ n s9 d d=some true
 | .tup xs,0,_,h=>by omega
 | .tup xs,n+1,h,k=>by
  simp only[gJ,shape];simp only[AH] at k;exact lQ (pc xs n h (by omega))
 | .non,n,h,k=>by obtain⟨m,rfl⟩:∃m,n=m+1:=⟨n - 1,by omega⟩;exact im rfl
 | .bl _,n,h,k=>by obtain⟨m,rfl⟩:∃m,n=m+1:=⟨n - 1,by omega⟩;exact im rfl
 | .int _,n,h,k=>by obtain⟨m,rfl⟩:∃m,n=m+1:=⟨n - 1,by omega⟩;exact im rfl
 | .str _,n,h,k=>by obtain⟨m,rfl⟩:∃m,n=m+1:=⟨n - 1,by omega⟩;exact im rfl
 | .fl _,n,h,k=>by cases h
 | .ref _,n,h,k=>by cases h
theorem pc{s9:aK}:∀(xs:List D)(n:Nat),nA xs=true->mh xs<n->∀x∈xs,pF (gJ n s9) x x=some true
 |[],n,h,k=>λx hx=>by cases hx
 |d::ds,n,h,k=>by
  simp only[nA,Bool.and_eq_true] at h;simp only[mh] at k;have h1:gJ n s9 d d=some true:=je d n h.1 (by omega)
  have h2:∀x∈ds,pF (gJ n s9) x x=some true:=pc ds n h.2 (by omega)
  have h3:pF (gJ n s9) d d=some true:=by
   cases d with
   |ref m=>exact absurd h.1 (by simp[z9])
   |_=>exact h1
  intro x hx;cases hx with
  |head=>exact h3
  |tail _ hx=>exact h2 x hx
end
theorem Ci(l:Bool)(n:Nat):nA (lV l n)=true/\mh (lV l n)<=1:=by
 have key:∀(is:List Nat),nA (is.map λ(i:Nat)=>D.tup [.str "num",.int ((i:Int)+1)])=true/\mh (is.map λ(i:Nat)=>D.tup [.str "num",.int ((i:Int)+1)])<=1:=by
  intro is
  induction is with
  |nil=>exact⟨rfl,by simp[mh]⟩
  |cons i is ih=>exact⟨by simp[nA,z9,ih.1],by simp only[List.map_cons,mh];have:AH (D.tup [.str "num",.int ((i:Int)+1)])=1:=rfl;omega⟩
 cases l with
 |false=>exact⟨rfl,Nat.zero_le _⟩
 |true=>exact key _
theorem AG(B dp:Int)(w:Nat)(l:Bool):z9 (iO B dp (uB w dp) (u8 w l dp))=true/\AH (iO B dp (uB w dp) (u8 w l dp))<60:=by
 unfold iO;split
 ·exact⟨rfl,of_decide_eq_true (by kernel_rfl)⟩
 ·have:nA (u8 w l dp)=true/\mh (u8 w l dp)<=1:=by
   unfold u8;split
   ·exact Ci l _
   ·exact⟨rfl,Nat.zero_le _⟩
  refine⟨by simp[z9,nA,this.1],?_⟩
  have h2:=this.2;simp only[AH,mh];omega
noncomputable def ED(c m:Int):Int:=(c % 2147483629*48271+m*7919+104729) % 2147483629
noncomputable def EC(n m:Int):Int:=(n*n % 2147483629*16807+m*104729+11) % 2147483587
noncomputable def mx(c m:Int):Int:=EC (ED c m) m*EC (ED c m) m % 2147483587
theorem Cg(c m:Int):0<=mx c m:=Int.emod_nonneg _ (by omega)
section
variable{k:Nat}{st:aK}{Q:D->aK->Prop}
theorem iV{c m:Int}(h:Q (.int (mx c m)) st):Wv (calls tab (k+1) nH [.int c,.int m] st) Q:=by
 walk_at "call"
 exact h
theorem uq{ns:List Int}(h:∀i,Q (.int i) st):Wv (calls tab (k+1) lm [.fl (ns.map .int),.int j] st) Q:=by
 walk_at "call"
 by_cases hj:j<ns.length
 ·refine⟨true,by simp;omega,λ_=>?_,nofun⟩
  walk_at "ev"
  have e:iH (ns.map D.int) (j:Int)=some (.int ns[j]):=by unfold iH sN;simp[hj]
  refine Bb e ?_;exact h _
 ·refine⟨false,by simp;omega,nofun,λ_=>?_⟩
  walk_at "ev"
  exact h _
theorem A9{Q:Fl->aK->Prop}(h:W (run g e loc st) λd st1=>∃xs,a8 st1 d=some xs/\xs.length=is.length/\W (execs g ss (cV is xs loc) st1) Q):W (execs g (.unp is e::ss) loc st) Q:=
 bH (by rw[exec];refine aF (h.mono λd st1 hp=>aF ?_);obtain⟨xs,e1,e2,q⟩:=hp;simp only[items?,e1,if_pos e2];exact q)
theorem wn{Q:Fl->aK->Prop}{body:List S}(I:Nat->Loc->aK->Prop)(he:W (run g e loc st) λd st1=>d=.ref n/\st1[n]? =some (.lst xs)/\I 0 loc st1)(keep:∀i loc st,I i loc st->st[n]? =some (.lst xs))
  (step:∀i x loc st,xs[i]? =some x->I i loc st->∃ds,x=.tup ds/\ds.length=is.length/\W (execs g body (cV is ds loc) st) (Kf (I (i+1)) (Kn g ss Q)))(fin:∀loc st,I xs.length loc st->W (execs g ss loc st) Q):W (execs g (.forU is e body::ss) loc st) Q:=by
 refine bH ?_;rw[exec];refine aF (he.mono λd st1 hp=>aF ?_);obtain⟨rfl,hn,h0⟩:=hp;show W (eG _ (.at n) loc st1) _;have hL:d8 (.at n) st1=xs.length:=by simp only[d8,hn]
 unfold eG;rw[hL];refine qI I keep (λi x loc st e q=>?_) fin _ 0 loc st1 (by omega) (by omega) h0
 obtain⟨ds,rfl,hl,q⟩:=step i x loc st e q;refine aF ?_;simp only[items?,a8,if_pos hl];refine q.mono λr st1 q=>?_;cases r with
 |nx loc'=>exact q
 |rt d=>exact q
 |ex n l=>exact q
theorem oA{x:Nat}(hx:x<4)(h:∀t st',Gr st st'->Tr st' t "f" fW->Tr st' t "main" (mW (Ar x) (gY x))->Q (.ref t) st'):Wv (calls tab (k+14) c_ [gW x,Af x] st) Q:=by
 match x,hx with
 |0,_=>exact oa rfl (Dw k) ⟨rfl,rfl⟩ h
 |1,_=>exact oa rfl (Dv k) ⟨rfl,rfl⟩ h
 |2,_=>exact oa rfl (Du k) ⟨rfl,rfl⟩ h
 |3,_=>exact oa rfl (Dt k) ⟨rfl,rfl⟩ h
theorem kR(x:Nat)(B i1 i2 i3:Int)(tr:Bool):z9 (eD x B i1 i2 i3 tr)=true/\AH (eD x B i1 i2 i3 tr)<60:=by
 by_cases hB:B=0
 ·unfold eD;rw[if_pos hB];exact⟨rfl,of_decide_eq_true (by kernel_rfl)⟩
 ·by_cases h3:x<3
  ·unfold eD;rw[if_neg hB,if_pos h3]
   match x,h3 with
   |0,_=>exact⟨rfl,of_decide_eq_true (by kernel_rfl)⟩
   |1,_=>exact⟨rfl,of_decide_eq_true (by kernel_rfl)⟩
   |2,_=>exact⟨rfl,of_decide_eq_true (by kernel_rfl)⟩
  ·unfold eD;rw[if_neg hB,if_neg h3];exact⟨rfl,of_decide_eq_true (by kernel_rfl)⟩
theorem vT{x v:Nat}{tr:Bool}{P:D->aK->Prop}(hx:x<4)(hB:0<=B/\B<=10000)(hT:Tr st t "f" fW)(hM:Tr st t "main" (mW (Ar x) (gY x)))(hv:st[v]? =some (.lst [.tup [.int i1,.int i2,.int i3],.tup [.int i2,.bl tr]]))
  (h1:run (calls tab (k+14)) e1 loc st=.ok (.ref t) st)(h2:run (calls tab (k+14)) e2 loc st=.ok (.ref v) st)(h:∀st',Gr st st'->P (eD x B i1 i2 i3 tr) st'):
  W (run (calls tab (k+14)) (.meth (.fn 20 [e1,e2,(.c (.int B))]) "seen" [("Run",42)] []) loc st) P:=by
 refine a9 (bW (ab (Ba h1 (ab (Ba h2 (ab (aO (ah ?_))))))));refine rp (k:=k+5) hx hB hT hM hv λn st' e th lg tk he g hs=>?_;obtain⟨l,sp,hs'⟩:=id hs;refine z_ hs' rfl (ah (pZ (k:=k+13) hs ?_));rw[he];exact h st' g
theorem A7{r:R Rs}(e:r=.ok (.v d) st)(h:Q d st):Wv r Q:=by rw[e];exact h
noncomputable def yo:List S:=bA.body.drop 6
noncomputable def yH(i1 i2 i3:Int)(tr:Bool):List D:=[.tup [gW 0,.str (u3 0),pP 0 i1 i2 i3 tr],.tup [gW 1,.str (u3 1),pP 1 i1 i2 i3 tr],.tup [gW 2,.str (u3 2),.non]]
theorem ul{c:Int}{tr:Bool}{q1 q4:Nat}{s:aK}(hq1:s[q1]? =some (.lst [.tup [.int i1,.int i2,.int i3],.tup [.int i2,.bl tr]]))(hq4:s[q4]? =some (.lst (yH i1 i2 i3 tr)))(h:∀st',Gr s st'->Q (.bl true) st'):
  W (execs (calls tab (k+14)) yo [some (.int c),some (.int i1),some (.int i2),some (.int i3),some (.bl tr),some (.tup [nu i2]),some (.ref q1),some (.ref q4),none,none,none,none] s) (Kr Q):=by
 dsimp only[yo,bA,List.drop]
 have body:∀(x:Nat)(du:D)(l8 l9 l10 l11:Option D)(st:aK)(Q':Fl->aK->Prop),x<3->(du=pP x i1 i2 i3 tr∨(du=.non/\x=2))->Gr s st->
   (∀l8 l9 l10 l11 st',Gr s st'->Q' (.nx [some (.int c),some (.int i1),some (.int i2),some (.int i3),some (.bl tr),some (.tup [nu i2]),some (.ref q1),some (.ref q4),l8,l9,l10,l11]) st')->
   W (execs (calls tab (k+14)) [.set 11 (.fn 38 [(.v 8),(.tup [(.tup [(.c (.str "return")),(.fn 34 [(.v 9)])])])]),.ite (.cmp .Is (.v 10) (.c (.non))) [.set 10 (.tup [(.tup [(.c (.str "num")),(.v 2)]),(.tup [(.c (.str "truth")),(.v 4)])])] [],.ite (.cmp .NotEq (.meth (.fn 20 [(.v 11),(.v 6),(.c (.int (1)))]) "seen" [("Run",42)] []) (.tup [(.c (.str "answer")),(.v 10),(.v 5),(.c (.int (1)))])) [.ret (.c (.bl false))] [],.ite (.cmp .NotEq (.meth (.fn 20 [(.v 11),(.v 6),(.c (.int (0)))]) "seen" [("Run",42)] []) (.tup [(.c (.str "dry")),(.c (.non)),(.tup []),(.c (.int (0)))])) [.ret (.c (.bl false))] []]
    [some (.int c),some (.int i1),some (.int i2),some (.int i3),some (.bl tr),some (.tup [nu i2]),some (.ref q1),some (.ref q4),some (gW x),some (.str (u3 x)),some du,l11] st) Q':=by
  intro x du l8 l9 l10 l11 st Q' hx hdu g hq;have el:Af x=.tup [.tup [.str "return",.tup [.str "name",.str (u3 x)]]]:=by rw[Af,if_pos hx]
  refine bB (bW (ab (av rfl (ab (ba (ab (ba (ab (aO (ab (bW (ab (av rfl (ah ?_))))))))))))));refine A7 (st:=st) (d:= .tup [.str "name",.str (u3 x)]) (by kernel_rfl) (ah (ah (ah ?_)))
  rw[<-el];refine oA (k:=k) (by omega) λt s1 g1 hT hM=>?_
  have gs:=g.trans g1
  have fin:∀{st':aK},Gr s1 st'->W (execs (calls tab (k+14)) [.ite (.cmp .NotEq (.meth (.fn 20 [(.v 11),(.v 6),(.c (.int (1)))]) "seen" [("Run",42)] []) (.tup [(.c (.str "answer")),(.v 10),(.v 5),(.c (.int (1)))])) [.ret (.c (.bl false))] [],.ite (.cmp .NotEq (.meth (.fn 20 [(.v 11),(.v 6),(.c (.int (0)))]) "seen" [("Run",42)] []) (.tup [(.c (.str "dry")),(.c (.non)),(.tup []),(.c (.int (0)))])) [.ret (.c (.bl false))] []]
    [some (.int c),some (.int i1),some (.int i2),some (.int i3),some (.bl tr),some (.tup [nu i2]),some (.ref q1),some (.ref q4),some (gW x),some (.str (u3 x)),some (pP x i1 i2 i3 tr),some (.ref t)] s1) Q':=λ{st'} _=>by
   have ru:∀{i:Nat}{d:D}{l:Loc}{s:aK},l[i]? =some (some d)->run (calls tab (k+14)) (.v i) l s=.ok d s:=λ{i d l s} e=>by rw[run,e];rfl
   refine bu (bf (vT (k:=k) (x:=x) (B:=1) (by omega) (by omega) hT hM (gs.at hq1) (ru rfl) (ru rfl) λs2 g2=>?_))
   refine ba (ab (aO (ab (av rfl (ab (av rfl (ab (aO (ah ?_)))))))));have e1:eD x 1 i1 i2 i3 tr=.tup [.str "answer",pP x i1 i2 i3 tr,.tup [nu i2],.int 1]:=by unfold eD;rw[if_neg (by decide),if_pos hx]
   have ok1:=kR x 1 i1 i2 i3 tr;rw[e1] at ok1 ⊢;refine tG (k:=true) (je _ _ ok1.1 ok1.2) ⟨false,rfl,nofun,λ_=>am (bi ?_)⟩;refine bu (bf (vT (k:=k) (x:=x) (B:=0) (by omega) (by omega) (hT.gr g2) (hM.gr g2) (g2.at (gs.at hq1)) (ru rfl) (ru rfl) λs3 g3=>?_))
   refine ba (ab (aO (ab (aO (ab (ba (ah (ab (aO (ah ?_))))))))));have e0:eD x 0 i1 i2 i3 tr=.tup [.str "dry",.non,.tup [],.int 0]:=by unfold eD;rw[if_pos rfl]
   have ok0:=kR x 0 i1 i2 i3 tr;rw[e0] at ok0 ⊢;refine tG (k:=true) (je _ _ ok0.1 ok0.2) ⟨false,rfl,nofun,λ_=>am (bi (am ?_))⟩;exact hq _ _ _ _ _ ((gs.trans g2).trans g3)
  refine bu (bf (av rfl (aO ?_)));rcases hdu with rfl|⟨rfl,rfl⟩
  ·refine⟨false,?_,nofun,λ_=>am (bi (fin (.refl _)))⟩
   match x,hx with
   |0,_=>rfl
   |1,_=>rfl
   |2,_=>rfl
  ·refine⟨true,rfl,λ_=>?_,nofun⟩;refine bB (ba (ab (ba (ab (aO (ab (av rfl (ah (ab (ba (ab (aO (ab (av rfl (ah (ah (am (bi ?_))))))))))))))))));exact fin (.refl _)
 refine wn (xs:=yH i1 i2 i3 tr) (n:=q4) (λi loc st=>Gr s st/\∃l8 l9 l10 l11,loc=[some (.int c),some (.int i1),some (.int i2),some (.int i3),some (.bl tr),some (.tup [nu i2]),some (.ref q1),some (.ref q4),l8,l9,l10,l11]) (av rfl ⟨rfl,hq4,.refl _,_,_,_,_,rfl⟩) (λi loc st hp=>hp.1.at hq4) ?_ ?_
 ·rintro i x loc st hx ⟨g,l8,l9,l10,l11,rfl⟩
  match i with
  |0=>cases hx;exact⟨_,rfl,rfl,body 0 _ l8 l9 l10 l11 st _ (by decide) (.inl rfl) g λ_ _ _ _ st' g'=>mE ⟨g',_,_,_,_,rfl⟩⟩
  |1=>cases hx;exact⟨_,rfl,rfl,body 1 _ l8 l9 l10 l11 st _ (by decide) (.inl rfl) g λ_ _ _ _ st' g'=>mE ⟨g',_,_,_,_,rfl⟩⟩
  |2=>cases hx;exact⟨_,rfl,rfl,body 2 _ l8 l9 l10 l11 st _ (by decide) (.inr ⟨rfl,rfl⟩) g λ_ _ _ _ st' g'=>mE ⟨g',_,_,_,_,rfl⟩⟩
  |i+3=>cases hx
 ·rintro loc st ⟨g,l8,l9,l10,l11,rfl⟩;refine cL (bf (a9 (bW (ab ?_))));refine bW (ab (ba (ab (aO (ah (ab (ba (ah (ah ?_)))))))));refine oA (k:=k) (x:=3) (by decide) λt s1 g1 hT hM=>?_
  refine ab (av rfl (ab (aO (ah ?_))));refine rp (k:=k+5) (x:=3) (by decide) (by omega) hT hM (g1.at (g.at hq1)) λn st' e th lg tk he g2 hs=>?_
  obtain⟨l,sp,hs'⟩:=id hs;refine z_ hs' rfl (ah (pZ (k:=k+13) hs ?_));rw[he];refine ba (ab (aO (ab (aO (ab (av rfl (ab (aO (ah ?_)))))))));have e1:eD 3 5 i1 i2 i3 tr=.tup [.str "fault",.str "end",.tup [nu i2],.int 1]:=rfl;have ok1:=kR 3 5 i1 i2 i3 tr;rw[e1] at ok1 ⊢;exact w_eq (k:=true) (je _ _ ok1.1 ok1.2) (cA (h _ ((g.trans g1).trans g2)))
theorem wY{c:Int}(h:∀st',Gr st st'->Q (.bl true) st'):Wv (calls tab (k+15) iy [.int c] st) Q:=by
 walk_at "call0"
 obtain⟨i1,e1⟩:∃i1,i1=mx c 11 % 99 - 50:=⟨_,rfl⟩;obtain⟨i2,e2⟩:∃i2,i2=mx c 12 % 99 - 50:=⟨_,rfl⟩;obtain⟨i3,e3⟩:∃i3,i3=mx c 13 % 99 - 50:=⟨_,rfl⟩;refine A9 (pJ (aO ⟨_,iJ (by omega),?_⟩))
 refine iS (by simp[cB]) (λi acc st'=>acc=([.int i1,.int i2,.int i3]:List D).take i/\st'=st) ⟨rfl,rfl⟩ ?_ ?_
 ·rintro i z acc st' hz ⟨rfl,rfl⟩
  match i with
  |0=>cases hz;exact mr (bR (bR (bW (ab (av rfl (ab (bR (aO (av rfl (w_add (ah (iV (k:=k+13) (aO (w_mod (by omega) (aO (w_sub ⟨by rw[e1];rfl,rfl⟩))))))))))))))))
  |1=>cases hz;exact mr (bR (bR (bW (ab (av rfl (ab (bR (aO (av rfl (w_add (ah (iV (k:=k+13) (aO (w_mod (by omega) (aO (w_sub ⟨by rw[e2];rfl,rfl⟩))))))))))))))))
  |2=>cases hz;exact mr (bR (bR (bW (ab (av rfl (ab (bR (aO (av rfl (w_add (ah (iV (k:=k+13) (aO (w_mod (by omega) (aO (w_sub ⟨by rw[e3];rfl,rfl⟩))))))))))))))))
  |i+3=>cases hz
 rintro acc st' ⟨e,rfl⟩;have e:acc=[.int i1,.int i2,.int i3]:=e;subst e;refine⟨[.int i1,.int i2,.int i3],by simp only[a8,bJ],rfl,?_⟩
 generalize hs1:st'++[O.lst [.int i1,.int i2,.int i3]]=s1;have g1:Gr st' s1:=⟨_,hs1.symm⟩;refine bB (bf (bR (bW (ab (av rfl (ab (aO (ah (iV (k:=k+13) (aO (w_mod (by omega) (aO (fL ?_)))))))))))))
 generalize decide (mx c 15 % 2=0)=tr;refine bB (ba (ab (ba (ab (aO (ab (av rfl (ah (ah ?_)))))))));refine bB (gp (ab (ba (ab (av rfl (ab (av rfl (ab (av rfl (ah (ab (ba (ab (av rfl (ab (av rfl (ah (ah ?_))))))))))))))))));refine bB (gp (ab (ba (ab (ba (ab (aO (ab (aO (ah (ab (aO (ab (ba (ab (ba (ab (aO (ab (av rfl (ah (ab (ba (ab (aO (ab (av rfl (ah (ab (ba (ab (aO (ab (av rfl (ah (ah (ah (ah ?_))))))))))))))))))))))))))))))))))))));refine bB (bR (av rfl (gp (ab (ba (ab (ba (ab (aO (ab (aO (ah (ab (aO (ab (ba (ab (ba (ab (aO (ab (av rfl (ah (ab (ba (ab (aO (ab (av rfl (ah (ah (ah (ab (ba (ab (ba (ab (aO (ab (aO (ah (ab (aO (ab (aO (ah (ah (yP (bU bJ) bJ (by simp) ?_))))))))))))))))))))))))))))))))))))))))))))))))
 refine ul (k:=k) (q1:=s1.length) (bU (bU (bU bJ))) bJ λst2 g2=>h st2 ?_;exact(((((g1.more _).more _).more _).more _).trans g2)
end
section
variable{k:Nat}{st:aK}{Q:D->aK->Prop}
theorem Bg(k:Nat)(hw:w<4)(hl:l<2):∃n,rX (calls gB (k+15) dU [d7 w l] [])=wz n w (decide (l=1))/\wa (fD (x5 w) (decide (l=1)))=true/\wa (Dk w)=true:=by
 match w,hw,l,hl with
 |0,_,0,_=>exact⟨_,Bp k,rfl,rfl⟩
 |0,_,1,_=>exact⟨_,Bn k,rfl,rfl⟩
 |1,_,0,_=>exact⟨_,Bm k,rfl,rfl⟩
 |1,_,1,_=>exact⟨_,Bl k,rfl,rfl⟩
 |2,_,0,_=>exact⟨_,Bk k,rfl,rfl⟩
 |2,_,1,_=>exact⟨_,Bj k,rfl,rfl⟩
 |3,_,0,_=>exact⟨_,Bi k,rfl,rfl⟩
 |3,_,1,_=>exact⟨_,Bh k,rfl,rfl⟩
theorem wV(hw:w<4)(hl:l<2)(h:∀t st',Gr st st'->Tr st' t "f" (fD (x5 w) (decide (l=1)))->Tr st' t "main" (Dk w)->Q (.ref t) st'):Wv (calls tab (k+15) dU [d7 w l] st) Q:=by
 have hn:=(qO 0 hw hl).2;have hn:iX [d7 w l]=true:=by simp[iX,hn]
 obtain⟨n,e,hm⟩:=Bg k hw hl;exact oa hn e hm h
theorem Em{z:D}(h:0<=i/\i<3):(i=0/\iH [x,y,z] i=some x)∨(i=1/\iH [x,y,z] i=some y)∨(i=2/\iH [x,y,z] i=some z):=by
 have:i=0∨i=1∨i=2:=by omega
 rcases this with rfl|rfl|rfl
 ·exact .inl ⟨rfl,rfl⟩
 ·exact .inr (.inl ⟨rfl,rfl⟩)
 ·exact .inr (.inr ⟨rfl,rfl⟩)
theorem El{z:D}(h:0<=i/\i<4):(i=0/\iH [x,y,z,u] i=some x)∨(i=1/\iH [x,y,z,u] i=some y)∨(i=2/\iH [x,y,z,u] i=some z)∨(i=3/\iH [x,y,z,u] i=some u):=by
 have:i=0∨i=1∨i=2∨i=3:=by omega
 rcases this with rfl|rfl|rfl|rfl
 ·exact .inl ⟨rfl,rfl⟩
 ·exact .inr (.inl ⟨rfl,rfl⟩)
 ·exact .inr (.inr (.inl ⟨rfl,rfl⟩))
 ·exact .inr (.inr (.inr ⟨rfl,rfl⟩))
theorem zg{x1 sc:D}{d b:Int}{Q:Fl->aK->Prop}{l7:Option D}(hw:w<4)(hl:l<2)(hd:0<=d/\d<=2000)(hb:0<=b/\b<=10000)
  (h:∀l7 st',W (execs (calls tab (k+15)) ss [some sc,some x1,some c,some (.int w),some (.int d),some (.int b),some (.int l),l7] st') Q):
  W (execs (calls tab (k+15)) (.set 7 (.fn 20 [(.fn 22 [(.fn 36 [(.v 3),(.v 6)])]),(.lst [(.v 4)]),(.v 5)]):: .ite (.cmp .NotEq (.meth (.v 7) "seen" [("Run",42)] []) (.fn 37 [(.v 3),(.v 4),(.v 5),(.v 6)])) [.ret (.c (.bl false))] []::ss)
   [some sc,some x1,some c,some (.int w),some (.int d),some (.int b),some (.int l),l7] st) Q:=by
 refine bB (bW (ab (bW (ab (bW (ab (av rfl (ab (av rfl (ah (zi (k:=k+11) hw hl λs1 g1=>?_)))))))))));refine ah (wV (k:=k) hw hl λt s2 g2 hT hM=>?_);refine ab (gp (ab (av rfl (ah (ab (av rfl (ah ?_)))))));refine BZ (k:=k+8) hw hd hb (hT.gr (.one _ _)) (hM.gr (.one _ _)) bJ λn s3 e th lg tk he g3 hs=>?_;obtain⟨lr,sp,hs'⟩:=id hs;refine bu (bf (a9 (av rfl (z_ hs' rfl (ah (pZ (k:=k+14) hs ?_))))));rw[he];refine bW (ab (av rfl (ab (av rfl (ab (av rfl (ab (av rfl (ah ?_)))))))))
 have el:((l:Nat):Int)=if decide (l=1) then 1 else 0:=by
  rcases(show l=0∨l=1 by omega) with rfl|rfl<;>rfl
 rw[el];refine BP (k:=k+14) hw hd λs4 g4=>?_;have ok:=AG b d w (decide (l=1));refine tG (k:=true) (je _ _ ok.1 ok.2) ⟨false,rfl,nofun,λ_=>am (bi ?_)⟩;rw[<-el];exact h _ s4
theorem BM{ns:List Int}(h:∀st',Q (.bl true) st'):Wv (calls tab (k+16) Cm [.fl (ns.map .int)] st) Q:=by
 walk_at "call0"
 refine Bc (λxs i loc st=>∃l1 l2 l3 l4 l5 l6 l7,loc=[some (.fl (ns.map .int)),l1,l2,l3,l4,l5,l6,l7]) (aO ⟨cB 2,iJ (by omega),⟨_,_,_,_,_,_,_,rfl⟩,?_,?_⟩)
 ·rintro i x loc st hx ⟨l1,l2,l3,l4,l5,l6,l7,rfl⟩
  obtain⟨m,rfl⟩:∃m:Int,x=.int m:=by
   match i with
   |0=>cases hx;exact⟨_,rfl⟩
   |1=>cases hx;exact⟨_,rfl⟩
   |i+2=>cases hx
  refine bB (bW (ab (bW (ab (av rfl (ab (aO (ah (uq (k:=k+14) (j:=0) λce=>ab ?_)))))))));refine av rfl (ah (iV (k:=k+14) ?_));have hc:=Cg ce m;generalize mx ce m=c at hc ⊢;refine bB (bR (av rfl (aO (w_mod (by omega) ?_))))
  obtain⟨w,hw,ew⟩:∃w:Nat,w<4/\c % 4=(w:Int):=⟨(c % 4).toNat,by omega,by omega⟩
  rw[ew];refine bB (aW (gp (ab (bR (bR (av rfl (aO (gP (by omega) (aO (w_mod (by omega) (ab (bR (bR (av rfl (aO (gP (by omega) (aO (w_mod (by omega) (ab (aO (ah (bR (bR (av rfl (aO (gP (by omega) (aO (w_mod (by omega) ?_))))))))))))))))))))))))))))
  obtain⟨d,hd,ed⟩:∃d:Int,(0<=d/\d<=2000)/\iH [D.int (c / 4 % 2001),.int (c / 4 % 40),.int 0] (c / 8004 % 3)=some (.int d):=by
   rcases Em (x:=D.int (c / 4 % 2001)) (y:= .int (c / 4 % 40)) (z:= .int 0) (i:=c / 8004 % 3) (by omega) with⟨_,e⟩|⟨_,e⟩|⟨_,e⟩
   ·exact⟨_,by omega,e⟩
   ·exact⟨_,by omega,e⟩
   ·exact⟨_,by omega,e⟩
  refine cZ bJ ed ?_;refine bB (aW (gp (ab (bR (av rfl (bR (bR (av rfl (aO (gP (by omega) (aO (w_mod (by omega) (w_add (ab (aO (ab (bR (av rfl (aO (gP (by omega) (ab (aO (ah (bR (bR (av rfl (aO (gP (by omega) (aO (w_mod (by omega) ?_))))))))))))))))))))))))))))))
  obtain⟨b,hb,eb⟩:∃b:Int,(0<=b/\b<=10000)/\iH [D.int (d+c / 100000 % 4),.int 10000,.int (d / 2),.int 0] (c / 24012 % 4)=some (.int b):=by
   rcases El (x:=D.int (d+c / 100000 % 4)) (y:= .int 10000) (z:= .int (d / 2)) (u:= .int 0) (i:=c / 24012 % 4) (by omega) with⟨_,e⟩|⟨_,e⟩|⟨_,e⟩|⟨_,e⟩
   ·exact⟨_,by omega,e⟩
   ·exact⟨_,by omega,e⟩
   ·exact⟨_,by omega,e⟩
   ·exact⟨_,by omega,e⟩
  refine cZ bJ eb ?_;refine bB (bR (bR (av rfl (aO (gP (by omega) (aO (w_mod (by omega) ?_)))))))
  obtain⟨l,hl,el⟩:∃l:Nat,l<2/\c / 1000000 % 2=(l:Int):=⟨(c / 1000000 % 2).toNat,by omega,by omega⟩
  rw[el];exact zg (k:=k) hw hl hd hb λl7 st'=>am (mE ⟨_,_,_,_,_,_,_,rfl⟩)
 ·rintro loc st ⟨l1,l2,l3,l4,l5,l6,l7,rfl⟩;refine cL (bW (ab (bW (ab (av rfl (ab (aO (ah (uq (k:=k+14) (j:=1) λce=>ah ?_)))))))));exact wY (k:=k) λst' _=>cA (h st')
end
end K17
namespace K17
noncomputable def top(i:Nat):Stmt:=PySem.Challenge.pw_eachstepsame_k17_runs_that_go_deep.main.body.getD i (.Pass ⟨0,0,0,0⟩)
noncomputable def meth(i j:Nat):Stmt:=match top i with| .ClassDef _ _ _ body _ _ _ _ _ _ _=>body.getD j (.Pass ⟨0,0,0,0⟩)|s=>s
noncomputable def names:List Str:=(["is_whole","is_truth","parts_of","is_value","tagged","is_risky","reckoned","of_one","of_two","risked","product","need_place","replaced","need_start","need_so_many","need_budget","parts_in","parts_in_tuples","parts_in_try","counted","run_source","go_on_with_rows","typed","told_op","told_parts","counted_all","need_new","need_unlike","need_kind","need_kinds"]:List Str)++(["need_sort","need_all","_law_cell_at","_law_mixed","_law_name","_law_two","_law_tree","_law_due","_law_wholes","_law_wholes_right","law"]:List Str)
noncomputable def csts:List (Str×D):=[("NUM",.tup [.str "num"]),("TRUTH",.tup [.str "truth"]),("RISKY",.tup [.str "mul",.str "div",.str "mod",.str "pick",.str "lay"])]
noncomputable def T:Tab:=⟨names,csts,true,[⟨"Run",["ending","thing","log","kept_log","took","steps"],[("seen",42)]⟩,⟨"Frame",["have","waiting","reckoned_parts"],[("caught_rows",52),("taken",51),("wait_for",50)]⟩,⟨"Runner",["program","frames","steps","budget","log","took","ending","thing"],[("answer",46),("ask",61),("begin",54),("begin_node",56),("ended",48),("enter",60),("fail",47),("fault_comes",63),("go_on",55),("go_on_with",57),("leave",62),("reckon",59),("takes_tick",44),("use",58),("write",45)]⟩,⟨"Typed",["functions","kept_functions"],[("function_named",65)]⟩,⟨"Heads",["records","functions"],[("field_number",71),("fields_of",70),("look_at_function",67),("need_record",68),("told_kind",69)]⟩,⟨"Body",["heads","gives"],[("look_at",81),("look_at_call",83),("look_at_field",85),("look_at_let",78),("look_at_name",82),("look_at_new",84),("look_at_parts",80),("look_at_row",75),("look_at_rows",74),("look_at_set",79),("look_at_tested",77),("look_at_try",76),("told_rows_of",73)]⟩],[("Run",41),("Frame",49),("Runner",53),("Typed",64),("Heads",66),("Body",72)],[("Going","__init__",43)],[("NODES",[("const",.bl true),("local",.bl true),("op",.bl true),("call",.bl true),("let",.bl true),("set",.bl true),("if",.bl true),("while",.bl true),("log",.bl true),("do",.bl true),("return",.bl true),("raise",.bl true),("try",.bl true)]),("TWO",[("+",.tup [.str "add",.tup [.str "num"],.tup [.str "num"]]),("-",.tup [.str "sub",.tup [.str "num"],.tup [.str "num"]]),("*",.tup [.str "mul",.tup [.str "num"],.tup [.str "num"]]),("/",.tup [.str "div",.tup [.str "num"],.tup [.str "num"]]),("mod",.tup [.str "mod",.tup [.str "num"],.tup [.str "num"]]),("<",.tup [.str "less",.tup [.str "num"],.tup [.str "truth"]]),("=",.tup [.str "same",.tup [.str "num"],.tup [.str "truth"]]),("and",.tup [.str "and",.tup [.str "truth"],.tup [.str "truth"]]),("or",.tup [.str "or",.tup [.str "truth"],.tup [.str "truth"]])]),("ONE",[("-",.tup [.str "neg",.tup [.str "num"],.tup [.str "num"]]),("not",.tup [.str "not",.tup [.str "truth"],.tup [.str "truth"]])])]⟩
noncomputable def R1(x:Str)(ps more:List Str)(i:Nat)(f:Fn):Rec:=⟨x,x,x,ps,ps++more,top i,f⟩
noncomputable def R2(m q:Str)(ps more:List Str)(i j:Nat)(f:Fn):Rec:=⟨q,m,q,ps,ps++more,meth i j,f⟩
noncomputable def bn:List Rec:=[R1 "is_whole" ["thing"] [] 12 gc,R1 "is_truth" ["thing"] [] 13 ge,R1 "parts_of" ["kind"] [] 14 f8,R1 "is_value" ["thing","kind"] ["parts"] 15 gd,R1 "tagged" ["value"] [] 16 ja,R1 "is_risky" ["op"] [] 19 gf,R1 "reckoned" ["op","extra","values"] [] 20 f7,R1 "of_one" ["op","value"] [] 21 jd,R1 "of_two" ["op","one","other"] [] 22 jc,R1 "risked" ["op","values"] [] 23 jb,R1 "product" ["one","other"] ["result"] 24 ik,R1 "need_place" ["row","place"] [] 25 eL,R1 "replaced" ["whole","place","part"] [] 26 f6,R1 "need_start" ["kinds","inputs","budget"] ["place","kind"] 30 eK,R1 "need_so_many" ["count","inputs"] [] 31 dB,R1 "need_budget" ["budget"] [] 32 dX,R1 "parts_in" ["node"] ["word"] 34 f9,R1 "parts_in_tuples" ["node"] ["word"] 35 cQ,R1 "parts_in_try" ["node"] ["parts","catch"] 36 dA,R1 "counted" ["node"] ["waiting","count","parts"] 37 il,R1 "run_source" ["typed","inputs","budget"] ["takes","runner"] 40 eJ,R1 "go_on_with_rows" ["frame","rows","place"] [] 43 cR,R1 "typed" ["program"] ["heads","functions","function","takes","rows"] 48 kt,R1 "told_op" ["op","extra","parts","kind"] [] 51 ij,R1 "told_parts" ["parts"] [] 52 eI,R1 "counted_all" ["rows"] [] 53 dY,R1 "need_new" ["name","there","place"] [] 54 f_,R1 "need_unlike" ["fields","place"] ["there","field"] 55 dW,R1 "need_kind" ["part","kind","place"] [] 56 ft,R1 "need_kinds" ["parts","kind","place"] ["part"] 57 eM,R1 "need_sort" ["part","word","place"] [] 58 fk,R1 "need_all" ["parts","wanted","origin","place"] ["part","want"] 59 gb,R1 "_law_cell_at" ["_law_script","_law_k"] [] 61 dC,R1 "_law_mixed" ["_law_cell","_law_k"] ["_law_number"] 62 eN,R1 "_law_name" ["_law_x"] [] 63 fv,R1 "_law_two" ["_law_op","_law_one","_law_other"] [] 64 gh,R1 "_law_tree" ["_law_way","_law_logs"] ["_law_num","_law_deeper","_law_bottom","_law_rows","_law_catches","_law_main","_law_again","_law_loop","_law_f"] 65 fu,R1 "_law_due" ["_law_way","_law_deep","_law_budget","_law_logs"] ["_law_log"] 66 gi,R1 "_law_wholes" ["_law_gives","_law_last"] ["_law_num","_law_wide","_law_inner","_law_f","_law_rows","_law_main"] 67 dZ,R1 "_law_wholes_right" ["_law_cell"] ["_law_one","_law_two_here","_law_three","_law_truth","_law_log","_law_inputs","_law_dues","_law_gives","_law_name_here","_law_due_here","_law_made"] 68 bA,R1 "law" ["_law_script"] ["_law_k","_law_cell","_law_way","_law_deep","_law_budget","_law_logs","_law_found"] 69 rY,R2 "__init__" "Run.__init__" ["self","ending","thing","log","took","steps"] [] 28 0 gk,R2 "seen" "Run.seen" ["self"] [] 28 1 gj,R2 "__init__" "Going.__init__" ["self","budget"] [] 29 0 eR,R2 "takes_tick" "Going.takes_tick" ["self"] [] 29 1 cF,R2 "write" "Going.write" ["self","value"] [] 29 2 d3,R2 "answer" "Going.answer" ["self","value"] [] 29 3 dH,R2 "fail" "Going.fail" ["self","fault"] [] 29 4 eS,R2 "ended" "Going.ended" ["self"] [] 29 5 d4,R2 "__init__" "Frame.__init__" ["self","have","rows"] [] 41 0 eT,R2 "wait_for" "Frame.wait_for" ["self","task","parts"] [] 41 1 cY,R2 "taken" "Frame.taken" ["self","count"] [] 41 2 d5,R2 "caught_rows" "Frame.caught_rows" ["self","fault"] ["task","name","rows"] 41 3 ci,R2 "__init__" "Runner.__init__" ["self","typed","budget"] [] 42 0 d0,R2 "begin" "Runner.begin" ["self","name","given"] ["function","have"] 42 1 dG,R2 "go_on" "Runner.go_on" ["self"] ["frame","task"] 42 2 bS,R2 "begin_node" "Runner.begin_node" ["self","frame","node"] ["word"] 42 3 bN,R2 "go_on_with" "Runner.go_on_with" ["self","frame","task"] ["word"] 42 4 bM,R2 "use" "Runner.use" ["self","frame","task","value"] ["word"] 42 5 dD,R2 "reckon" "Runner.reckon" ["self","frame","node"] ["value","fault"] 42 6 da,R2 "enter" "Runner.enter" ["self","name","given"] [] 42 7 dF,R2 "ask" "Runner.ask" ["self","frame","node"] [] 42 8 eP,R2 "leave" "Runner.leave" ["self","value"] [] 42 9 dE,R2 "fault_comes" "Runner.fault_comes" ["self","name"] ["rows"] 42 10 b9,R2 "__init__" "Typed.__init__" ["self","functions"] [] 47 0 eO,R2 "function_named" "Typed.function_named" ["self","name"] [] 47 1 bP,R2 "__init__" "Heads.__init__" ["self","program"] ["place","name","fields","function"] 49 0 eQ,R2 "look_at_function" "Heads.look_at_function" ["self","function","place"] ["there","take","kind"] 49 1 bG,R2 "need_record" "Heads.need_record" ["self","kind","place"] [] 49 2 cg,R2 "told_kind" "Heads.told_kind" ["self","kind"] [] 49 3 cT,R2 "fields_of" "Heads.fields_of" ["self","kind"] [] 49 4 cU,R2 "field_number" "Heads.field_number" ["self","kind","name","place"] ["number","field"] 49 5 b_,R2 "__init__" "Body.__init__" ["self","heads","gives"] [] 50 0 fw,R2 "told_rows_of" "Body.told_rows_of" ["self","function"] ["place","names"] 50 1 cj,R2 "look_at_rows" "Body.look_at_rows" ["self","rows","place","names"] ["there","told_rows","row"] 50 2 ck,R2 "look_at_row" "Body.look_at_row" ["self","row","place","names"] ["word","parts"] 50 3 cI,R2 "look_at_try" "Body.look_at_try" ["self","row","place","names"] ["rows","catches","fault","caught"] 50 4 cG,R2 "look_at_tested" "Body.look_at_tested" ["self","row","place","names"] ["test","beneath","sides","rows"] 50 5 bV,R2 "look_at_let" "Body.look_at_let" ["self","row","place","names","value"] [] 50 6 cK,R2 "look_at_set" "Body.look_at_set" ["self","row","place","names","parts"] ["name","kind","told_kind","whole","number"] 50 7 cH,R2 "look_at_parts" "Body.look_at_parts" ["self","node","place","names"] ["parts","beneath","part"] 50 8 ca,R2 "look_at" "Body.look_at" ["self","node","place","names"] ["parts","word","kind","sign"] 50 9 dI,R2 "look_at_name" "Body.look_at_name" ["self","name","place","names"] ["kind"] 50 10 cm,R2 "look_at_call" "Body.look_at_call" ["self","name","place","parts"] ["head"] 50 11 cq,R2 "look_at_new" "Body.look_at_new" ["self","name","place","parts"] ["head","kind","told_kind"] 50 12 cJ,R2 "look_at_field" "Body.look_at_field" ["self","name","place","parts"] ["number","kind"] 50 13 cb]
noncomputable def ad:List Addr:=[169,176,181,186,191,199,206,213,220,227,234,241,248,339,346,353,360,367,374,381,387,521,589,760,765,770,777,784,791,798,805,812,819,826,833,840,847,852,859,864,871,262,269,290,297,304,311,318,325,401,408,413,420,441,446,453,460,467,474,481,488,495,502,509,570,577,603,610,617,622,629,636,657,662,669,676,683,690,697,704,711,718,725,732,739,746]
theorem chk:∀r∈bn,Chk T r:=by
 unfold bn
 repeat' refine List.forall_mem_cons.mpr ⟨⟨⟨rfl,rfl,rfl,by decide+kernel,rfl,by decide+kernel,by decide+kernel⟩,by decide+kernel,by kernel_rfl,rfl,by decide+kernel⟩,?_⟩
 exact λ_ h=>nomatch h
noncomputable def Df(r:Rec)(us:List Value):Prop:=∀kV doc pm an cdv ct,bindArgs (PySem.W.fnOf r.fname r.qual (fA r.st) (d6 r.st) (bT r.st) .none kV doc pm an cdv ct) ⟨us,[]⟩=pure (r.ps.zip us)
noncomputable def AW(r:Rec):Nat->List Value->Prop
 |0,us=>Df r us
 |n+1,us=>∀a,AW r n (us++[a])
theorem yK{r:Rec}:∀(n:Nat)(us vs:List Value),vs.length=n->AW r n us->Df r (us++vs)
 |0,us,[],_,h=>by rw[List.append_nil];exact h
 |n+1,us,v::vs,hl,h=>by have:=yK n (us++[v]) vs (Nat.succ.inj hl) (h v);rwa [List.append_assoc] at this
theorem bv{r:Rec}(n:Nat)(hp:r.ps.length=n)(h:AW r n []):A5 r:=λkV doc pm an cdv ct us hl=>yK n [] us (hl.trans hp) h kV doc pm an cdv ct
theorem aZ:∀r∈bn,A5 r:=by
 unfold bn
 repeat' refine List.forall_mem_cons.mpr ⟨by first|(refine bv 1 (by rfl) ?_;exact λ_ _ _ _ _ _ _=>rfl)|(refine bv 2 (by rfl) ?_;exact λ_ _ _ _ _ _ _ _=>rfl)|(refine bv 3 (by rfl) ?_;exact λ_ _ _ _ _ _ _ _ _=>rfl)|(refine bv 4 (by rfl) ?_;exact λ_ _ _ _ _ _ _ _ _ _=>rfl)|(refine bv 5 (by rfl) ?_;exact λ_ _ _ _ _ _ _ _ _ _ _=>rfl)|(refine bv 6 (by rfl) ?_;exact λ_ _ _ _ _ _ _ _ _ _ _ _=>rfl),?_⟩
 exact λ_ h=>nomatch h
end K17
end Ev
namespace Ev.K17
open PySem PySem.Spec PyProof.Rows L2
theorem EF(P:Params):mD (Op.K P) T bn ad=true:=by kernel_rfl
theorem EE(P:Params):(bn.zip ad).map (λp=>(Op.K P).lookup p.2)=(bn.zip ad).map λp=>AZ p.1 ((Op.K P).lookup p.2):=by kernel_rfl
theorem EX(P:Params):xF (Op.K P) T=true:=by kernel_rfl
theorem EZ(Pr:Program)(w:World):∀p∈T.gds,yJ p.1=true/\∃a,PySem.W.nsIn (Op.K w.params) mainGlobals p.1=some (some (.ref a))/\mm Pr w (Op.K w.params) a p.2:=List.forall_mem_cons.mpr ⟨⟨by decide+kernel,382,by kernel_rfl,nL ((["const","local","op","call","let","set","if","while","log","do","return","raise","try"]:List Str).zipIdx.map λp=>(p.1,681+p.2,.bool true)) (n:=13) (by decide+kernel) rfl (by kernel_rfl) (by decide+kernel) (by kernel_rfl)⟩,List.forall_mem_cons.mpr ⟨⟨by decide+kernel,522,by kernel_rfl,nL ((["+","-","*","/","mod","<","=","and","or"]:List Str).zipIdx.map λp=>(p.1,902+4*p.2,.ref (525+3*p.2))) (n:=9) (by decide+kernel) rfl (by kernel_rfl) (by decide+kernel) (by kernel_rfl)⟩,List.forall_mem_cons.mpr ⟨⟨by decide+kernel,550,by kernel_rfl,nL [("-",948,.ref 553),("not",952,.ref 556)] (n:=2) (by decide+kernel) rfl (by kernel_rfl) (by decide+kernel) (by kernel_rfl)⟩,λ_ h=>nomatch h⟩⟩⟩
theorem s_end(ns:List Int)(hn:ns.length<=63):∃st',calls (bn.map (·.fn)) 16 40 [.fl (ns.map .int)] []=.ok (.v (.bl true)) st':=by
 obtain⟨a,st',e,h⟩:=W.get (BM (k:=0) (st:=[]) (ns:=ns) (Q:=λd _=>d=.bl true) λ_=>rfl);cases a with
 |v d=>have h:d=.bl true:=h;subst h;exact⟨st',e⟩
 |x n=>exact h.elim
end Ev.K17
open PySem PySem.W PyProof.Rows
set_option maxRecDepth 100000 in
set_option maxHeartbeats 0 in
theorem PySem.Challenge.cw_eachstepsame_k17_runs_that_go_deep_holds : PySem.Challenge.rw_eachstepsame_k17_runs_that_go_deep.Holds := by
 w_on;o_law
 refine holds_open (q:=Op.q) (loose:=["NODES","TWO","ONE"]) (Xt:=Op.Xt) (XP:=XL Op.q []) (Yf:=Op.hk.obs) (Ya:=Op.hk.val) (YP:=Op.hk.says) (N:=13324) Op.left (Hook.of Op.hk) (Hook.keeps Op.hk) (λs e=>xl_of s (Bool.and_eq_true_iff.mp e).1) XL.keeps (by rfl) (by rfl) (by rfl) (λs e=>recFacts_of (Bool.and_eq_true_iff.mp e).2) (by rfl) (by first|assumption|decide+kernel) (by decide+kernel) ⟨rfl,rfl,rfl,rfl,rfl,by decide+kernel⟩ ?hw ?hc
 case hw=>w_witness2
 refine Ev.walk (l:=PySem.Challenge.rw_eachstepsame_k17_runs_that_go_deep) (n:=2*16) (x:= "_law_script") rfl rfl ⟨rfl,by decide,by decide⟩ (λw h Y=>PySem.W.kIn_of (K:=Op.K) (as:=Op.as) (e:=Op.keys) Y) ?F
 case F=>
  intro w mg fa h KX G hmg;exact Ev.xx (n:=16) (li:=40) (a:=871) (r:=Ev.K17.bn[40]) KX G hmg Ev.K17.aZ (Ev.K17.EF _) (Ev.K17.EE _) (Ev.sT KX G Ev.K17.chk rfl Ev.K17.aZ (Ev.K17.EF _) (Ev.K17.EE _) (by decide) (Ev.K17.EX _) (Ev.K17.EZ _ _)) rfl rfl (by kernel_rfl) rfl Ev.K17.s_end
