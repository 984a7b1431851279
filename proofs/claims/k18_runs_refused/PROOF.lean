import PyProof.Rows.All
import Wide.All
import OpenK.AllK
import Wide.FinOn
import PyProof.EqAt
import PyProof.EqKinds
import PyProof.TupleCall
import Lean
import PyProof.NeKinds
import PyProof.NeData
import PyProof.FactsAll.dict
import PyProof.EnumFor
import PyProof.EnumMake
import PyProof.EnumStmt
import PyProof.Draws
import PyProof.TupleIter
import PyProof.ZipIter
import PyProof.Rows.FactsT2
import PyProof.DictUpdate
import PyProof.ListRange
import KE.KRevIter
import PyProof.TupleOps
import PyProof.CallType
import PyProof.AttrMiss
import PyProof.IsiBase
import KE.KDictOf
import PyProof.ListMulRoad
import PyProof.ExcClass3
import PyProof.ExcAttrAll.ValueError
import PyProof.InstStoreFacts
import PyProof.RulesAs
import PyProof.StationsW
import OpenK.KDescr
import KE.KIsAll
import PyProof.EnumIter
import PyProof.FactsAll.enumerate
import PyProof.StrOps2
import PyProof.FitsBits
import PyProof.Rows.IntMath
import PyProof.IsiPairs
import PyProof.IsiHeapPairs
import PyProof.IsiNone
import PySem.Challenge.RW_eachstepsame_k18_runs_refused
set_option maxRecDepth 100000
set_option maxHeartbeats 0
set_option Elab.async false
set_option linter.all false
noncomputable def PySem.W.Fast.tw1298277457750943730:PySem.Program:=PySem.Challenge.pw_eachstepsame_k18_runs_refused
theorem PySem.W.Fast.te1298277457750943730:PySem.Challenge.pw_eachstepsame_k18_runs_refused=PySem.W.Fast.tw1298277457750943730:=rfl
namespace Op
open PySem PySem.W PyProof.Rows PySem.Calls
noncomputable section
noncomputable def de(P:Params)(k:Str)(t:Nat)(v:Value):DictEntry:=⟨PyData.keyHash P k,.str k t,v⟩
noncomputable def tu(l:List Value):Obj:=⟨.type "tuple",none,.seq ⟨l⟩ 0,⟨[]⟩⟩
noncomputable def co(l:List Value):Obj:=⟨.type "code",none,.fields ⟨l⟩,⟨[]⟩⟩
noncomputable def ob(c:Value)(d:Data):Obj:=⟨c,none,d,⟨[]⟩⟩
noncomputable def at_:List Stmt→Nat→Stmt
 |[],_=> .Pass ⟨0,0,0,0⟩
 |s::_,0=>s
 |_::l,n+1=>at_ l n
noncomputable def inC:Stmt→List Stmt
 | .ClassDef _ _ _ b .. =>b
 |_=>[]
noncomputable def fd(s:Stmt)(qn:Str)(g:Nat)(cl:List (Str×Nat))(df kd dc pm:Value)(an:Option Nat)(cd ct:Value)(bl:Nat):Data:=match s with
 | .FunctionDef n a b _ _ _ sc _ _ _=> .func ⟨n,qn,a,.stmts b,sc,g,cl,df,kd,dc,pm,an,cd,ct,bl⟩
 |_=> .plain
noncomputable def body:List Stmt:=PySem.Challenge.pw_eachstepsame_k18_runs_refused.main.body
def q:Program:={PySem.Challenge.pw_eachstepsame_k18_runs_refused with main:={PySem.Challenge.pw_eachstepsame_k18_runs_refused.main with body:=((((((((body.eraseIdx 61).eraseIdx 45).eraseIdx 39).eraseIdx 34).eraseIdx 24).eraseIdx 18).eraseIdx 10).eraseIdx 1)}}
def t0:Obj:=tu []
def dr(P:Params)(k:Str)(t r:Nat):DictEntry:=de P k t (.ref r)
def ds(P:Params)(k:Str)(t:Nat)(x:Str)(u:Nat):DictEntry:=de P k t (.str x u)
def dc(n:Nat)(l:List DictEntry):Obj:=ob (.type "dict") (.dict ⟨l⟩ n)
noncomputable def lf(o:Obj):BT:= .node o .nil .nil
def n7(a b c d e f g:Obj):BT:= .node a (.node b (lf c) (lf d)) (.node e (lf f) (lf g))
def H0(a:Str)(b:Nat)(c:Int)(d:Nat)(e:Int):Obj:=co [(.str a b),(.str a (b+1)),(.str "/claim/cut.py" (b+2)),(.int c 0),(.int 0 0),(.int 0 0),(.int 0 0),(.int 0 0),(.ref d),(.bool false),(.int 181 0),(.ref (d+1)),.none,.none,.none,.none,(.int e 0),(.int c 0),(.str "/claim/cut.py" (b+4))]
noncomputable def H1(a:Nat)(b:Nat)(c:Str)(d:Nat):Obj:=⟨(.type "frame"),none,.plain,⟨[(some (.ref a)),(some (.ref 3)),(some (.ref b)),none,(some (.str c d)),none,(some (.ref 0))]⟩⟩
def H2(a:Str)(b:Nat):Obj:=tu [(.str a b)]
def H3(a:Nat)(b:Str):Obj:=ob .none (fd (at_ body a) b 0 [] .none .none .none .none none .none .none 0)
def H4(a:Str)(b:Nat)(c:Str)(d:Int)(e:Int)(f:Nat)(g:Int)(h:Nat):Obj:=co [(.str a b),(.str c (b+1)),(.str "/claim/cut.py" (b+2)),(.int d 0),(.int e 0),(.int 0 0),(.int 0 0),(.int 3 0),(.ref f),(.bool true),(.int 181 0),(.ref (f+1)),.none,(.ref (f+2)),(.ref (f+3)),(.ref (f+4)),(.int g 0),(.int d 0),(.str "/claim/cut.py" h)]
def H5(a:Nat)(b:Str)(c:Str)(d:Nat)(e:Nat):Obj:=ob (.type "function") (fd (at_ body a) b 3 [] .none .none .none (.str c d) none (.ref e) .none 0)
def H6(P:Params)(a:Nat)(b:Nat)(c:Int)(d:Str)(e:Nat)(f:Nat)(g:Str)(h:Nat)(i:Nat):Obj:=dc a [(ds P "__module__" b "eachstepsame.errors" 194),(de P "__firstlineno__" (b+4) (.int c (b+3))),(dr P d e f),(dr P g h i),(de P "__doc__" (h+1) .none)]
def H7(a:Nat)(b:Nat):Obj:=ob (.type "getset_descriptor") (.fields ⟨[(.str "__weakref__" a),(.ref b),(.builtin "ExceptionGroup.__weakref__"),.none]⟩)
def H8(a:Nat):Obj:=ob (.type "super") (.fields ⟨[(.ref a),(.ref a),(.ref a)]⟩)
def H9(a:Nat):Obj:=ob (.type "builtin_function_or_method") (.fields ⟨[(.builtin "object.__init_subclass__"),(.ref a)]⟩)
def H10(P:Params)(a:Nat)(b:Str)(c:Int)(d:Nat)(e:Nat)(f:Nat):Obj:=dc 5 [(ds P "__module__" a "eachstepsame.errors" 194),(ds P "__qualname__" (a+2) b (a+1)),(de P "__firstlineno__" (a+4) (.int c (a+3))),(dr P "__init__" d e),(dr P "__static_attributes__" f (e+1))]
def H11(a:Int)(b:Nat):Obj:=ob .none (.fields ⟨[(.int a 0),(.int 4 0),(.ref b)]⟩)
def H12(a:Str)(b:Nat)(c:Str)(d:Str):Obj:=tu [(.str a b),(.str c (b+1)),(.str d (b+2))]
def H13(a:Nat)(b:Nat)(c:Str):Obj:=ob .none (fd (at_ (inC (at_ body a)) b) c 0 [] .none .none .none .none none .none .none 0)
def H14(a:Nat)(b:Nat)(c:Str)(d:Str)(e:Nat)(f:Nat):Obj:=ob (.type "function") (fd (at_ (inC (at_ body a)) b) c 3 [] .none .none .none (.str d e) none (.ref f) .none 0)
def H15(a:Str)(b:Nat)(c:Str):Obj:=tu [(.str a b),(.str c (b+1))]
noncomputable def H16(a:Str)(b:Nat)(c:Nat)(d:Nat)(e:Nat):Obj:=⟨(.type "type"),none,(.cls ⟨a,[(.ref 31)],[(.ref b),(.ref 31),(.type "ValueError"),(.type "Exception"),(.type "BaseException"),(.type "object")],c,a,true,[],[],false,none,false⟩),⟨[(some (.ref d)),none,(some (.str a e)),(some (.str a (e+8))),(some (.builtin "ValueError.__new__")),(some (.bool true))]⟩⟩
def H17(a:Str)(b:Nat)(c:Str)(d:Int)(e:Int)(f:Nat)(g:Int):Obj:=co [(.str a b),(.str c (b+1)),(.str "/claim/cut.py" (b+2)),(.int d 0),(.int e 0),(.int 0 0),(.int 0 0),(.int 3 0),(.ref f),(.bool true),(.int 181 0),(.ref (f+1)),.none,.none,.none,(.ref (f+2)),(.int g 0),(.int d 0),(.str "/claim/cut.py" (b+4))]
def H18(a:Str)(b:Nat)(c:Str)(d:Str)(e:Str)(f:Str)(g:Str):Obj:=tu [(.str a b),(.str c (b+1)),(.str d (b+2)),(.str e (b+3)),(.str f (b+4)),(.str g (b+5))]
noncomputable def H19(a:Str)(b:Nat)(c:Nat)(d:Nat):Obj:=⟨(.type "type"),none,(.cls ⟨a,[(.type "object")],[(.ref b),(.type "object")],c,a,true,[],[],false,none,false⟩),⟨[none,none,(some (.str a d)),(some (.str a (d+8))),(some (.builtin "object.__new__")),(some (.bool true))]⟩⟩
def H20(a:Nat)(b:Nat):Obj:=ob (.type "getset_descriptor") (.fields ⟨[(.str "__dict__" a),(.ref b),(.builtin "function.__dict__"),(.builtin "function.__dict__#set")]⟩)
def H21(a:Str)(b:Nat)(c:Str)(d:Str)(e:Str)(f:Str):Obj:=tu [(.str a b),(.str c (b+1)),(.str d (b+2)),(.str e (b+3)),(.str f (b+4))]
def H22(a:Str)(b:Nat)(c:Str)(d:Str)(e:Str):Obj:=tu [(.str a b),(.str c (b+1)),(.str d (b+2)),(.str e (b+3))]
def H23(a:Str)(b:Nat)(c:Nat):Obj:=tu [(.str a b),(.ref c),(.ref (c+1))]
def H24(a:Str)(b:Nat)(c:Str)(d:Str)(e:Str)(f:Str)(g:Str)(h:Str):Obj:=tu [(.str a b),(.str c (b+1)),(.str d (b+2)),(.str e (b+3)),(.str f (b+4)),(.str g (b+5)),(.str h (b+6))]
def H25(a:Nat)(b:Str)(c:Str)(d:Str)(e:Str)(f:Str):Obj:=tu [(.str "self" a),(.str b (a+1)),(.str "place" (a+2)),(.str "names" (a+3)),(.str c (a+4)),(.str d (a+5)),(.str e (a+6)),(.str f (a+7))]
def o12a:=ob .none (.fields ⟨[]⟩)
def o13a:=H0 "<module>" 182 1 11 185
def o14a:=H1 13 3 "__main__" 164
def o3(P:Params):=dc 71 [(ds P "__name__" 165 "law_eachstepsame_k18_runs_refused" 1363),(de P "__doc__" 166 .none),(de P "__package__" 167 .none),(de P "__loader__" 168 (.builtin "__main__.__loader__#opaque")),(de P "__spec__" 169 .none),(dr P "__annotations__" 170 6),(dr P "__builtins__" 171 4),(ds P "__file__" 173 "/claim/cut.py" 172),(de P "__cached__" 174 .none),(dr P "_wall" 193 21),(dr P "StepError" 213 31),(dr P "NoName" 240 51),(dr P "Twice" 267 70),(dr P "NoFit" 294 89),(dr P "NoMain" 317 108),(dr P "NoInput" 342 127),(dr P "NoBudget" 365 146),(dr P "Fault" 390 165),(dr P "NUM" 394 168),(dr P "TRUTH" 396 169),(dr P "is_whole" 403 176),(dr P "is_truth" 410 183),(dr P "parts_of" 416 188),(dr P "is_value" 422 193),(dr P "tagged" 428 198),(dr P "Run" 475 222),(dr P "Going" 547 278),(dr P "need_start" 558 289),(dr P "need_so_many" 566 296),(dr P "need_budget" 573 303),(dr P "RISKY" 581 304),(dr P "is_risky" 588 311),(dr P "reckoned" 597 318),(dr P "of_one" 605 325),(dr P "of_two" 614 332),(dr P "risked" 622 339),(dr P "product" 631 346),(dr P "need_place" 639 353),(dr P "replaced" 648 360),(dr P "parts_in" 658 367),(dr P "parts_in_tuples" 666 374),(dr P "parts_in_try" 675 381),(dr P "counted" 685 388),(dr P "NODES" 714 389),(dr P "run_source" 720 394),(dr P "Frame" 778 430),(dr P "Runner" 897 519),(dr P "go_on_with_rows" 906 528),(dr P "TWO" 954 529),(dr P "ONE" 965 557),(dr P "Typed" 1003 587),(dr P "typed" 1009 596),(dr P "Heads" 1090 646),(dr P "Body" 1281 756),(dr P "told_op" 1291 767),(dr P "told_parts" 1297 772),(dr P "counted_all" 1303 777),(dr P "need_new" 1312 784),(dr P "need_unlike" 1322 791),(dr P "need_kind" 1331 798),(dr P "need_kinds" 1341 805),(dr P "need_sort" 1350 812),(dr P "need_all" 1362 819),(dr P "_law_cell_at" 1372 826),(dr P "_law_mixed" 1381 833),(dr P "_law_tree" 1390 840),(dr P "_law_thing" 1399 847),(dr P "_law_fits" 1405 852),(dr P "_law_due" 1416 859),(dr P "_law_caught" 1429 866),(dr P "law" 1447 873)]
def o12:=ob .none (.fields ⟨[(.int 1 0),(.int 0 0),(.ref 20),(.int 5 0),(.int 0 0),(.ref 27),(.int 7 0),(.int 0 0),(.ref 40),(.int 12 0),(.int 0 0),(.ref 59),(.int 17 0),(.int 0 0),(.ref 78),(.int 22 0),(.int 0 0),(.ref 97),(.int 26 0),(.int 0 0),(.ref 116),(.int 30 0),(.int 0 0),(.ref 135),(.int 34 0),(.int 0 0),(.ref 154),(.int 41 0),(.int 0 0),(.ref 175),(.int 43 0),(.int 0 0),(.ref 182),(.int 45 0),(.int 0 0),(.ref 187),(.int 51 0),(.int 0 0),(.ref 192),(.int 60 0),(.int 0 0),(.ref 197),(.int 67 0),(.int 0 0),(.ref 204),(.int 79 0),(.int 0 0),(.ref 232),(.int 109 0),(.int 0 0),(.ref 288),(.int 115 0),(.int 0 0),(.ref 295),(.int 118 0),(.int 0 0),(.ref 302),(.int 123 0),(.int 0 0),(.ref 310),(.int 125 0),(.int 0 0),(.ref 317),(.int 137 0),(.int 0 0),(.ref 324),(.int 143 0),(.int 0 0),(.ref 331),(.int 155 0),(.int 0 0),(.ref 338),(.int 167 0),(.int 0 0),(.ref 345),(.int 172 0),(.int 0 0),(.ref 352),(.int 175 0),(.int 0 0),(.ref 359),(.int 178 0),(.int 0 0),(.ref 366),(.int 193 0),(.int 0 0),(.ref 373),(.int 206 0),(.int 0 0),(.ref 380),(.int 211 0),(.int 0 0),(.ref 387),(.int 221 0),(.int 0 0),(.ref 393),(.int 229 0),(.int 0 0),(.ref 400),(.int 252 0),(.int 0 0),(.ref 440),(.int 360 0),(.int 0 0),(.ref 527),(.int 367 0),(.int 0 0),(.ref 569),(.int 375 0),(.int 0 0),(.ref 595),(.int 383 0),(.int 0 0),(.ref 602),(.int 427 0),(.int 0 0),(.ref 656),(.int 568 0),(.int 0 0),(.ref 766),(.int 570 0),(.int 0 0),(.ref 771),(.int 572 0),(.int 0 0),(.ref 776),(.int 574 0),(.int 0 0),(.ref 783),(.int 577 0),(.int 0 0),(.ref 790),(.int 582 0),(.int 0 0),(.ref 797),(.int 585 0),(.int 0 0),(.ref 804),(.int 588 0),(.int 0 0),(.ref 811),(.int 591 0),(.int 0 0),(.ref 818),(.int 597 0),(.int 0 0),(.ref 825),(.int 601 0),(.int 0 0),(.ref 832),(.int 605 0),(.int 0 0),(.ref 839),(.int 609 0),(.int 0 0),(.ref 846),(.int 613 0),(.int 0 0),(.ref 851),(.int 622 0),(.int 0 0),(.ref 858),(.int 631 0),(.int 0 0),(.ref 865),(.int 645 0),(.int 0 0),(.ref 872)]⟩)
def o17:=H2 "k" 190
def o19:=H3 0 "_wall"
def o20:=H4 "_wall" 187 "_wall" 1 1 15 191 192
def o21:=H5 0 "_wall" "__main__" 164 20
def o22:=tu [(.type "ValueError")]
def o23:=ob (.type "builtin_function_or_method") (.fields ⟨[(.builtin "type.__prepare__"),(.type "type")]⟩)
def o24(P:Params):=dc 4 [(ds P "__module__" 203 "eachstepsame.errors" 194),(ds P "__qualname__" 205 "StepError" 204),(de P "__firstlineno__" 207 (.int 5 206)),(dr P "__static_attributes__" 208 29)]
def o27:=H0 "StepError" 198 5 25 201
def o28:=H1 27 24 "eachstepsame.errors" 194
def o30(P:Params):=H6 P 3 203 5 "__static_attributes__" 208 29 "__weakref__" 210 32
noncomputable def o31:Obj:=⟨(.type "type"),none,(.cls ⟨"StepError",[(.type "ValueError")],[(.ref 31),(.type "ValueError"),(.type "Exception"),(.type "BaseException"),(.type "object")],30,"StepError",true,[],[(.ref 51),(.ref 70),(.ref 89),(.ref 108),(.ref 127),(.ref 146),(.ref 165)],false,none,false⟩),⟨[(some (.ref 22)),none,(some (.str "StepError" 196)),(some (.str "StepError" 204)),(some (.builtin "ValueError.__new__")),(some (.bool true))]⟩⟩
def o32:=H7 209 31
def o33:=H8 31
def o34:=H9 31
def o35:=tu [(.ref 31)]
def o37(P:Params):=H10 P 221 "NoName" 7 234 48 237
def o39:=H11 9 47
def o40:=H0 "NoName" 216 7 38 219
def o41:=H1 40 37 "eachstepsame.errors" 194
def o44:=H12 "self" 229 "name" "place"
def o46:=H13 3 0 "NoName.__init__"
def o47:=H4 "__init__" 226 "NoName.__init__" 9 3 42 232 233
def o48:=H14 3 0 "NoName.__init__" "eachstepsame.errors" 194 47
def o49:=H15 "name" 235 "place"
def o50(P:Params):=H6 P 2 221 7 "__init__" 234 48 "__static_attributes__" 237 49
def o51:=H16 "NoName" 51 50 35 214
def o52:=H8 51
def o53:=H9 51
def o56(P:Params):=H10 P 248 "Twice" 12 261 67 264
def o58:=H11 14 66
def o59:=H0 "Twice" 243 12 57 246
def o60:=H1 59 56 "eachstepsame.errors" 194
def o63:=H12 "self" 256 "name" "place"
def o65:=H13 4 0 "Twice.__init__"
def o66:=H4 "__init__" 253 "Twice.__init__" 14 3 61 259 260
def o67:=H14 4 0 "Twice.__init__" "eachstepsame.errors" 194 66
def o68:=H15 "name" 262 "place"
def o69(P:Params):=H6 P 2 248 12 "__init__" 261 67 "__static_attributes__" 264 68
def o70:=H16 "Twice" 70 69 54 241
def o71:=H8 70
def o72:=H9 70
def o75(P:Params):=H10 P 275 "NoFit" 17 288 86 291
def o77:=H11 19 85
def o78:=H0 "NoFit" 270 17 76 273
def o79:=H1 78 75 "eachstepsame.errors" 194
def o82:=H12 "self" 283 "wants" "gives"
def o84:=H13 5 0 "NoFit.__init__"
def o85:=H4 "__init__" 280 "NoFit.__init__" 19 3 80 286 287
def o86:=H14 5 0 "NoFit.__init__" "eachstepsame.errors" 194 85
def o87:=H15 "gives" 289 "wants"
def o88(P:Params):=H6 P 2 275 17 "__init__" 288 86 "__static_attributes__" 291 87
def o89:=H16 "NoFit" 89 88 73 268
def o90:=H8 89
def o91:=H9 89
def o94(P:Params):=H10 P 302 "NoMain" 22 313 105 314
def o96:=H11 24 104
def o97:=H0 "NoMain" 297 22 95 300
def o98:=H1 97 94 "eachstepsame.errors" 194
def o101:=H2 "self" 310
def o103:=H13 6 0 "NoMain.__init__"
def o104:=H4 "__init__" 307 "NoMain.__init__" 24 1 99 311 312
def o105:=H14 6 0 "NoMain.__init__" "eachstepsame.errors" 194 104
def o107(P:Params):=H6 P 2 302 22 "__init__" 313 105 "__static_attributes__" 314 106
def o108:=H16 "NoMain" 108 107 92 295
def o109:=H8 108
def o110:=H9 108
def o113(P:Params):=H10 P 325 "NoInput" 26 337 124 339
def o115:=H11 28 123
def o116:=H0 "NoInput" 320 26 114 323
def o117:=H1 116 113 "eachstepsame.errors" 194
def o120:=H15 "self" 333 "place"
def o122:=H13 7 0 "NoInput.__init__"
def o123:=H4 "__init__" 330 "NoInput.__init__" 28 2 118 335 336
def o124:=H14 7 0 "NoInput.__init__" "eachstepsame.errors" 194 123
def o125:=H2 "place" 338
def o126(P:Params):=H6 P 2 325 26 "__init__" 337 124 "__static_attributes__" 339 125
def o127:=H16 "NoInput" 127 126 111 318
def o128:=H8 127
def o129:=H9 127
def o132(P:Params):=H10 P 350 "NoBudget" 30 361 143 362
def o134:=H11 32 142
def o135:=H0 "NoBudget" 345 30 133 348
def o136:=H1 135 132 "eachstepsame.errors" 194
def o139:=H2 "self" 358
def o141:=H13 8 0 "NoBudget.__init__"
def o142:=H4 "__init__" 355 "NoBudget.__init__" 32 1 137 359 360
def o143:=H14 8 0 "NoBudget.__init__" "eachstepsame.errors" 194 142
def o145(P:Params):=H6 P 2 350 30 "__init__" 361 143 "__static_attributes__" 362 144
def o146:=H16 "NoBudget" 146 145 130 343
def o147:=H8 146
def o148:=H9 146
def o151(P:Params):=H10 P 373 "Fault" 34 385 162 387
def o153:=H11 36 161
def o154:=H0 "Fault" 368 34 152 371
def o155:=H1 154 151 "eachstepsame.errors" 194
def o158:=H15 "self" 381 "name"
def o160:=H13 9 0 "Fault.__init__"
def o161:=H4 "__init__" 378 "Fault.__init__" 36 2 156 383 384
def o162:=H14 9 0 "Fault.__init__" "eachstepsame.errors" 194 161
def o163:=H2 "name" 386
def o164(P:Params):=H6 P 2 373 34 "__init__" 385 162 "__static_attributes__" 387 163
def o165:=H16 "Fault" 165 164 149 366
def o166:=H8 165
def o167:=H9 165
def o168:=H2 "num" 393
def o169:=H2 "truth" 395
def o172:=H2 "thing" 400
def o174:=H3 13 "is_whole"
def o175:=H4 "is_whole" 397 "is_whole" 41 1 170 401 402
def o176:=H5 13 "is_whole" "eachstepsame.kinds" 391 175
def o179:=H2 "thing" 407
def o181:=H3 14 "is_truth"
def o182:=H4 "is_truth" 404 "is_truth" 43 1 177 408 409
def o183:=H5 14 "is_truth" "eachstepsame.kinds" 391 182
def o186:=H3 15 "parts_of"
def o187:=H17 "parts_of" 411 "parts_of" 45 1 184 414
def o188:=H5 15 "parts_of" "eachstepsame.kinds" 391 187
def o191:=H3 16 "is_value"
def o192:=H17 "is_value" 417 "is_value" 51 2 189 420
def o193:=H5 16 "is_value" "eachstepsame.kinds" 391 192
def o196:=H3 17 "tagged"
def o197:=H17 "tagged" 423 "tagged" 60 1 194 426
def o198:=H5 17 "tagged" "eachstepsame.kinds" 391 197
def o201(P:Params):=dc 6 [(ds P "__module__" 438 "eachstepsame.runs" 429),(ds P "__qualname__" 440 "Run" 439),(de P "__firstlineno__" 442 (.int 67 441)),(dr P "__init__" 454 212),(dr P "seen" 461 219),(dr P "__static_attributes__" 468 220)]
def o203:=ob .none (.fields ⟨[(.int 69 0),(.int 4 0),(.ref 211),(.int 77 0),(.int 4 0),(.ref 218)]⟩)
def o204:=H0 "Run" 433 67 202 436
def o205:=H1 204 201 "eachstepsame.runs" 429
def o208:=H18 "self" 446 "ending" "thing" "log" "took" "steps"
def o210:=H13 19 0 "Run.__init__"
def o211:=H4 "__init__" 443 "Run.__init__" 69 6 206 452 453
def o212:=H14 19 0 "Run.__init__" "eachstepsame.runs" 429 211
def o215:=H2 "self" 458
def o217:=H13 19 1 "Run.seen"
def o218:=H4 "seen" 455 "Run.seen" 77 1 213 459 460
def o219:=H14 19 1 "Run.seen" "eachstepsame.runs" 429 218
def o220:=H18 "ending" 462 "kept_log" "log" "steps" "thing" "took"
def o221(P:Params):=dc 4 [(ds P "__module__" 438 "eachstepsame.runs" 429),(de P "__firstlineno__" 442 (.int 67 441)),(dr P "__init__" 454 212),(dr P "seen" 461 219),(dr P "__static_attributes__" 468 220),(dr P "__dict__" 470 223),(dr P "__weakref__" 472 224),(de P "__doc__" 473 .none)]
def o222:=H19 "Run" 222 221 431
def o223:=H20 469 222
def o224:=H7 471 222
def o225:=H8 222
def o226:=H9 222
def o229(P:Params):=dc 10 [(ds P "__module__" 483 "eachstepsame.runs" 429),(ds P "__qualname__" 485 "Going" 484),(de P "__firstlineno__" 487 (.int 79 486)),(dr P "__init__" 495 240),(dr P "takes_tick" 502 247),(dr P "write" 510 254),(dr P "answer" 518 261),(dr P "fail" 526 268),(dr P "ended" 533 275),(dr P "__static_attributes__" 540 276)]
def o231:=ob .none (.fields ⟨[(.int 81 0),(.int 4 0),(.ref 239),(.int 89 0),(.int 4 0),(.ref 246),(.int 96 0),(.int 4 0),(.ref 253),(.int 99 0),(.int 4 0),(.ref 260),(.int 103 0),(.int 4 0),(.ref 267),(.int 107 0),(.int 4 0),(.ref 274)]⟩)
def o232:=H0 "Going" 478 79 230 481
def o233:=H1 232 229 "eachstepsame.runs" 429
def o236:=H15 "self" 491 "budget"
def o238:=H13 20 0 "Going.__init__"
def o239:=H4 "__init__" 488 "Going.__init__" 81 2 234 493 494
def o240:=H14 20 0 "Going.__init__" "eachstepsame.runs" 429 239
def o243:=H2 "self" 499
def o245:=H13 20 1 "Going.takes_tick"
def o246:=H4 "takes_tick" 496 "Going.takes_tick" 89 1 241 500 501
def o247:=H14 20 1 "Going.takes_tick" "eachstepsame.runs" 429 246
def o250:=H15 "self" 506 "value"
def o252:=H13 20 2 "Going.write"
def o253:=H4 "write" 503 "Going.write" 96 2 248 508 509
def o254:=H14 20 2 "Going.write" "eachstepsame.runs" 429 253
def o257:=H15 "self" 514 "value"
def o259:=H13 20 3 "Going.answer"
def o260:=H4 "answer" 511 "Going.answer" 99 2 255 516 517
def o261:=H14 20 3 "Going.answer" "eachstepsame.runs" 429 260
def o264:=H15 "self" 522 "fault"
def o266:=H13 20 4 "Going.fail"
def o267:=H4 "fail" 519 "Going.fail" 103 2 262 524 525
def o268:=H14 20 4 "Going.fail" "eachstepsame.runs" 429 267
def o271:=H2 "self" 530
def o273:=H13 20 5 "Going.ended"
def o274:=H4 "ended" 527 "Going.ended" 107 1 269 531 532
def o275:=H14 20 5 "Going.ended" "eachstepsame.runs" 429 274
def o276:=H18 "budget" 534 "ending" "log" "steps" "thing" "took"
def o277(P:Params):=dc 4 [(ds P "__module__" 483 "eachstepsame.runs" 429),(de P "__firstlineno__" 487 (.int 79 486)),(dr P "__init__" 495 240),(dr P "takes_tick" 502 247),(dr P "write" 510 254),(dr P "answer" 518 261),(dr P "fail" 526 268),(dr P "ended" 533 275),(dr P "__static_attributes__" 540 276),(dr P "__dict__" 542 279),(dr P "__weakref__" 544 280),(de P "__doc__" 545 .none)]
noncomputable def o278:Obj:=⟨(.type "type"),none,(.cls ⟨"Going",[(.type "object")],[(.ref 278),(.type "object")],277,"Going",true,[],[(.ref 519)],false,none,false⟩),⟨[none,none,(some (.str "Going" 476)),(some (.str "Going" 484)),(some (.builtin "object.__new__")),(some (.bool true))]⟩⟩
def o279:=H20 541 278
def o280:=H7 543 278
def o281:=H8 278
def o282:=H9 278
def o285:=H21 "kinds" 551 "inputs" "budget" "place" "kind"
def o287:=H3 21 "need_start"
def o288:=H4 "need_start" 548 "need_start" 109 3 283 556 557
def o289:=H5 21 "need_start" "eachstepsame.runs" 429 288
def o292:=H15 "count" 562 "inputs"
def o294:=H3 22 "need_so_many"
def o295:=H4 "need_so_many" 559 "need_so_many" 115 2 290 564 565
def o296:=H5 22 "need_so_many" "eachstepsame.runs" 429 295
def o299:=H2 "budget" 570
def o301:=H3 23 "need_budget"
def o302:=H4 "need_budget" 567 "need_budget" 118 1 297 571 572
def o303:=H5 23 "need_budget" "eachstepsame.runs" 429 302
def o304:=H21 "mul" 576 "div" "mod" "pick" "lay"
def o307:=H2 "op" 585
def o309:=H3 26 "is_risky"
def o310:=H4 "is_risky" 582 "is_risky" 123 1 305 586 587
def o311:=H5 26 "is_risky" "eachstepsame.ops" 574 310
def o314:=H12 "op" 592 "extra" "values"
def o316:=H3 27 "reckoned"
def o317:=H4 "reckoned" 589 "reckoned" 125 3 312 595 596
def o318:=H5 27 "reckoned" "eachstepsame.ops" 574 317
def o321:=H15 "op" 601 "value"
def o323:=H3 28 "of_one"
def o324:=H4 "of_one" 598 "of_one" 137 2 319 603 604
def o325:=H5 28 "of_one" "eachstepsame.ops" 574 324
def o328:=H12 "op" 609 "one" "other"
def o330:=H3 29 "of_two"
def o331:=H4 "of_two" 606 "of_two" 143 3 326 612 613
def o332:=H5 29 "of_two" "eachstepsame.ops" 574 331
def o335:=H15 "op" 618 "values"
def o337:=H3 30 "risked"
def o338:=H4 "risked" 615 "risked" 155 2 333 620 621
def o339:=H5 30 "risked" "eachstepsame.ops" 574 338
def o342:=H12 "one" 626 "other" "result"
def o344:=H3 31 "product"
def o345:=H4 "product" 623 "product" 167 2 340 629 630
def o346:=H5 31 "product" "eachstepsame.ops" 574 345
def o349:=H15 "row" 635 "place"
def o351:=H3 32 "need_place"
def o352:=H4 "need_place" 632 "need_place" 172 2 347 637 638
def o353:=H5 32 "need_place" "eachstepsame.ops" 574 352
def o356:=H12 "whole" 643 "place" "part"
def o358:=H3 33 "replaced"
def o359:=H4 "replaced" 640 "replaced" 175 3 354 646 647
def o360:=H5 33 "replaced" "eachstepsame.ops" 574 359
def o363:=H15 "node" 654 "word"
def o365:=H3 35 "parts_in"
def o366:=H4 "parts_in" 651 "parts_in" 178 1 361 656 657
def o367:=H5 35 "parts_in" "eachstepsame.trees" 649 366
def o370:=H15 "node" 662 "word"
def o372:=H3 36 "parts_in_tuples"
def o373:=H4 "parts_in_tuples" 659 "parts_in_tuples" 193 1 368 664 665
def o374:=H5 36 "parts_in_tuples" "eachstepsame.trees" 649 373
def o377:=H12 "node" 670 "parts" "catch"
def o379:=H3 37 "parts_in_try"
def o380:=H4 "parts_in_try" 667 "parts_in_try" 206 1 375 673 674
def o381:=H5 37 "parts_in_try" "eachstepsame.trees" 649 380
def o384:=H22 "node" 679 "waiting" "count" "parts"
def o386:=H3 38 "counted"
def o387:=H4 "counted" 676 "counted" 211 1 382 683 684
def o388:=H5 38 "counted" "eachstepsame.trees" 649 387
def o389(P:Params):=dc 13 [(de P "const" 688 (.bool true)),(de P "local" 689 (.bool true)),(de P "op" 690 (.bool true)),(de P "call" 691 (.bool true)),(de P "let" 692 (.bool true)),(de P "set" 693 (.bool true)),(de P "if" 694 (.bool true)),(de P "while" 695 (.bool true)),(de P "log" 696 (.bool true)),(de P "do" 697 (.bool true)),(de P "return" 698 (.bool true)),(de P "raise" 699 (.bool true)),(de P "try" 700 (.bool true))]
def o392:=H3 41 "run_source"
def o393:=H17 "run_source" 715 "run_source" 221 3 390 718
def o394:=H5 41 "run_source" "eachstepsame.sourcerun" 686 393
def o397(P:Params):=dc 8 [(ds P "__module__" 728 "eachstepsame.sourcerun" 686),(ds P "__qualname__" 730 "Frame" 729),(de P "__firstlineno__" 732 (.int 229 731)),(dr P "__init__" 741 408),(dr P "wait_for" 750 415),(dr P "taken" 756 420),(dr P "caught_rows" 767 427),(dr P "__static_attributes__" 771 428)]
def o399:=ob .none (.fields ⟨[(.int 231 0),(.int 4 0),(.ref 407),(.int 236 0),(.int 4 0),(.ref 414),(.int 240 0),(.int 4 0),(.ref 419),(.int 243 0),(.int 4 0),(.ref 426)]⟩)
def o400:=H0 "Frame" 723 229 398 726
def o401:=H1 400 397 "eachstepsame.sourcerun" 686
def o404:=H12 "self" 736 "have" "rows"
def o406:=H13 42 0 "Frame.__init__"
def o407:=H4 "__init__" 733 "Frame.__init__" 231 3 402 739 740
def o408:=H14 42 0 "Frame.__init__" "eachstepsame.sourcerun" 686 407
def o411:=H12 "self" 745 "task" "parts"
def o413:=H13 42 1 "Frame.wait_for"
def o414:=H4 "wait_for" 742 "Frame.wait_for" 236 3 409 748 749
def o415:=H14 42 1 "Frame.wait_for" "eachstepsame.sourcerun" 686 414
def o418:=H13 42 2 "Frame.taken"
def o419:=H17 "taken" 751 "Frame.taken" 240 2 416 754
def o420:=H14 42 2 "Frame.taken" "eachstepsame.sourcerun" 686 419
def o423:=H21 "self" 760 "fault" "task" "name" "rows"
def o425:=H13 42 3 "Frame.caught_rows"
def o426:=H4 "caught_rows" 757 "Frame.caught_rows" 243 2 421 765 766
def o427:=H14 42 3 "Frame.caught_rows" "eachstepsame.sourcerun" 686 426
def o428:=H12 "have" 768 "reckoned_parts" "waiting"
def o429(P:Params):=dc 4 [(ds P "__module__" 728 "eachstepsame.sourcerun" 686),(de P "__firstlineno__" 732 (.int 229 731)),(dr P "__init__" 741 408),(dr P "wait_for" 750 415),(dr P "taken" 756 420),(dr P "caught_rows" 767 427),(dr P "__static_attributes__" 771 428),(dr P "__dict__" 773 431),(dr P "__weakref__" 775 432),(de P "__doc__" 776 .none)]
def o430:=H19 "Frame" 430 429 721
def o431:=H20 772 430
def o432:=H7 774 430
def o433:=H8 430
def o434:=H9 430
def o435:=tu [(.ref 278)]
def o437(P:Params):=dc 15 [(ds P "__module__" 786 "eachstepsame.sourcerun" 686),(ds P "__qualname__" 788 "Runner" 787),(de P "__firstlineno__" 790 (.int 252 789)),(dr P "__init__" 799 448),(dr P "begin" 805 453),(dr P "go_on" 814 460),(dr P "begin_node" 824 467),(dr P "go_on_with" 834 474),(dr P "use" 845 481),(dr P "reckon" 856 488),(dr P "enter" 865 495),(dr P "ask" 874 502),(dr P "leave" 882 509),(dr P "fault_comes" 891 516),(dr P "__static_attributes__" 894 517)]
def o439:=ob .none (.fields ⟨[(.int 254 0),(.int 4 0),(.ref 447),(.int 259 0),(.int 4 0),(.ref 452),(.int 264 0),(.int 4 0),(.ref 459),(.int 276 0),(.int 4 0),(.ref 466),(.int 303 0),(.int 4 0),(.ref 473),(.int 316 0),(.int 4 0),(.ref 480),(.int 329 0),(.int 4 0),(.ref 487),(.int 337 0),(.int 4 0),(.ref 494),(.int 341 0),(.int 4 0),(.ref 501),(.int 345 0),(.int 4 0),(.ref 508),(.int 352 0),(.int 4 0),(.ref 515)]⟩)
def o440:=H0 "Runner" 781 252 438 784
def o441:=H1 440 437 "eachstepsame.sourcerun" 686
def o444:=H12 "self" 794 "typed" "budget"
def o446:=H13 43 0 "Runner.__init__"
def o447:=H4 "__init__" 791 "Runner.__init__" 254 3 442 797 798
def o448:=H14 43 0 "Runner.__init__" "eachstepsame.sourcerun" 686 447
def o451:=H13 43 1 "Runner.begin"
def o452:=H17 "begin" 800 "Runner.begin" 259 3 449 803
def o453:=H14 43 1 "Runner.begin" "eachstepsame.sourcerun" 686 452
def o456:=H12 "self" 809 "frame" "task"
def o458:=H13 43 2 "Runner.go_on"
def o459:=H4 "go_on" 806 "Runner.go_on" 264 1 454 812 813
def o460:=H14 43 2 "Runner.go_on" "eachstepsame.sourcerun" 686 459
def o463:=H22 "self" 818 "frame" "node" "word"
def o465:=H13 43 3 "Runner.begin_node"
def o466:=H4 "begin_node" 815 "Runner.begin_node" 276 3 461 822 823
def o467:=H14 43 3 "Runner.begin_node" "eachstepsame.sourcerun" 686 466
def o470:=H22 "self" 828 "frame" "task" "word"
def o472:=H13 43 4 "Runner.go_on_with"
def o473:=H4 "go_on_with" 825 "Runner.go_on_with" 303 3 468 832 833
def o474:=H14 43 4 "Runner.go_on_with" "eachstepsame.sourcerun" 686 473
def o477:=H21 "self" 838 "frame" "task" "value" "word"
def o479:=H13 43 5 "Runner.use"
def o480:=H4 "use" 835 "Runner.use" 316 4 475 843 844
def o481:=H14 43 5 "Runner.use" "eachstepsame.sourcerun" 686 480
def o484:=H21 "self" 849 "frame" "node" "value" "fault"
def o486:=H13 43 6 "Runner.reckon"
def o487:=H4 "reckon" 846 "Runner.reckon" 329 3 482 854 855
def o488:=H14 43 6 "Runner.reckon" "eachstepsame.sourcerun" 686 487
def o491:=H12 "self" 860 "name" "given"
def o493:=H13 43 7 "Runner.enter"
def o494:=H4 "enter" 857 "Runner.enter" 337 3 489 863 864
def o495:=H14 43 7 "Runner.enter" "eachstepsame.sourcerun" 686 494
def o498:=H12 "self" 869 "frame" "node"
def o500:=H13 43 8 "Runner.ask"
def o501:=H4 "ask" 866 "Runner.ask" 341 3 496 872 873
def o502:=H14 43 8 "Runner.ask" "eachstepsame.sourcerun" 686 501
def o505:=H15 "self" 878 "value"
def o507:=H13 43 9 "Runner.leave"
def o508:=H4 "leave" 875 "Runner.leave" 345 2 503 880 881
def o509:=H14 43 9 "Runner.leave" "eachstepsame.sourcerun" 686 508
def o512:=H12 "self" 886 "name" "rows"
def o514:=H13 43 10 "Runner.fault_comes"
def o515:=H4 "fault_comes" 883 "Runner.fault_comes" 352 2 510 889 890
def o516:=H14 43 10 "Runner.fault_comes" "eachstepsame.sourcerun" 686 515
def o517:=H15 "frames" 892 "program"
def o518(P:Params):=dc 2 [(ds P "__module__" 786 "eachstepsame.sourcerun" 686),(de P "__firstlineno__" 790 (.int 252 789)),(dr P "__init__" 799 448),(dr P "begin" 805 453),(dr P "go_on" 814 460),(dr P "begin_node" 824 467),(dr P "go_on_with" 834 474),(dr P "use" 845 481),(dr P "reckon" 856 488),(dr P "enter" 865 495),(dr P "ask" 874 502),(dr P "leave" 882 509),(dr P "fault_comes" 891 516),(dr P "__static_attributes__" 894 517),(de P "__doc__" 895 .none)]
noncomputable def o519:Obj:=⟨(.type "type"),none,(.cls ⟨"Runner",[(.ref 278)],[(.ref 519),(.ref 278),(.type "object")],518,"Runner",true,[],[],false,none,false⟩),⟨[(some (.ref 435)),none,(some (.str "Runner" 779)),(some (.str "Runner" 787)),(some (.builtin "object.__new__")),(some (.bool true))]⟩⟩
def o520:=H8 519
def o521:=H9 519
def o524:=H12 "frame" 901 "rows" "place"
def o526:=H3 44 "go_on_with_rows"
def o527:=H4 "go_on_with_rows" 898 "go_on_with_rows" 360 3 522 904 905
def o528:=H5 44 "go_on_with_rows" "eachstepsame.sourcerun" 686 527
def o529(P:Params):=dc 9 [(dr P "+" 909 532),(dr P "-" 913 535),(dr P "*" 917 538),(dr P "/" 921 541),(dr P "mod" 925 544),(dr P "<" 929 547),(dr P "=" 933 550),(dr P "and" 937 553),(dr P "or" 941 556)]
def o530:=H2 "num" 911
def o531:=H2 "num" 912
def o532:=H23 "add" 910 530
def o533:=H2 "num" 915
def o534:=H2 "num" 916
def o535:=H23 "sub" 914 533
def o536:=H2 "num" 919
def o537:=H2 "num" 920
def o538:=H23 "mul" 918 536
def o539:=H2 "num" 923
def o540:=H2 "num" 924
def o541:=H23 "div" 922 539
def o542:=H2 "num" 927
def o543:=H2 "num" 928
def o544:=H23 "mod" 926 542
def o545:=H2 "num" 931
def o546:=H2 "truth" 932
def o547:=H23 "less" 930 545
def o548:=H2 "num" 935
def o549:=H2 "truth" 936
def o550:=H23 "same" 934 548
def o551:=H2 "truth" 939
def o552:=H2 "truth" 940
def o553:=H23 "and" 938 551
def o554:=H2 "truth" 943
def o555:=H2 "truth" 944
def o556:=H23 "or" 942 554
def o557(P:Params):=dc 2 [(dr P "-" 955 560),(dr P "not" 959 563)]
def o558:=H2 "num" 957
def o559:=H2 "num" 958
def o560:=H23 "neg" 956 558
def o561:=H2 "truth" 961
def o562:=H2 "truth" 962
def o563:=H23 "not" 960 561
def o566(P:Params):=dc 6 [(ds P "__module__" 973 "eachstepsame.typer" 907),(ds P "__qualname__" 975 "Typed" 974),(de P "__firstlineno__" 977 (.int 367 976)),(dr P "__init__" 985 577),(dr P "function_named" 993 584),(dr P "__static_attributes__" 996 585)]
def o568:=ob .none (.fields ⟨[(.int 369 0),(.int 4 0),(.ref 576),(.int 373 0),(.int 4 0),(.ref 583)]⟩)
def o569:=H0 "Typed" 968 367 567 971
def o570:=H1 569 566 "eachstepsame.typer" 907
def o573:=H15 "self" 981 "functions"
def o575:=H13 48 0 "Typed.__init__"
def o576:=H4 "__init__" 978 "Typed.__init__" 369 2 571 983 984
def o577:=H14 48 0 "Typed.__init__" "eachstepsame.typer" 907 576
def o580:=H15 "self" 989 "name"
def o582:=H13 48 1 "Typed.function_named"
def o583:=H4 "function_named" 986 "Typed.function_named" 373 2 578 991 992
def o584:=H14 48 1 "Typed.function_named" "eachstepsame.typer" 907 583
def o585:=H15 "functions" 994 "kept_functions"
def o586(P:Params):=dc 4 [(ds P "__module__" 973 "eachstepsame.typer" 907),(de P "__firstlineno__" 977 (.int 367 976)),(dr P "__init__" 985 577),(dr P "function_named" 993 584),(dr P "__static_attributes__" 996 585),(dr P "__dict__" 998 588),(dr P "__weakref__" 1000 589),(de P "__doc__" 1001 .none)]
def o587:=H19 "Typed" 587 586 966
def o588:=H20 997 587
def o589:=H7 999 587
def o590:=H8 587
def o591:=H9 587
def o594:=H3 49 "typed"
def o595:=H17 "typed" 1004 "typed" 375 1 592 1007
def o596:=H5 49 "typed" "eachstepsame.typer" 907 595
def o599(P:Params):=dc 10 [(ds P "__module__" 1017 "eachstepsame.typer" 907),(ds P "__qualname__" 1019 "Heads" 1018),(de P "__firstlineno__" 1021 (.int 383 1020)),(dr P "__init__" 1033 610),(dr P "look_at_function" 1045 617),(dr P "need_record" 1054 624),(dr P "told_kind" 1060 629),(dr P "fields_of" 1068 636),(dr P "field_number" 1080 643),(dr P "__static_attributes__" 1083 644)]
def o601:=ob .none (.fields ⟨[(.int 385 0),(.int 4 0),(.ref 609),(.int 400 0),(.int 4 0),(.ref 616),(.int 410 0),(.int 4 0),(.ref 623),(.int 414 0),(.int 4 0),(.ref 628),(.int 419 0),(.int 4 0),(.ref 635),(.int 422 0),(.int 4 0),(.ref 642)]⟩)
def o602:=H0 "Heads" 1012 383 600 1015
def o603:=H1 602 599 "eachstepsame.typer" 907
def o606:=H18 "self" 1025 "program" "place" "name" "fields" "function"
def o608:=H13 50 0 "Heads.__init__"
def o609:=H4 "__init__" 1022 "Heads.__init__" 385 2 604 1031 1032
def o610:=H14 50 0 "Heads.__init__" "eachstepsame.typer" 907 609
def o613:=H18 "self" 1037 "function" "place" "there" "take" "kind"
def o615:=H13 50 1 "Heads.look_at_function"
def o616:=H4 "look_at_function" 1034 "Heads.look_at_function" 400 3 611 1043 1044
def o617:=H14 50 1 "Heads.look_at_function" "eachstepsame.typer" 907 616
def o620:=H12 "self" 1049 "kind" "place"
def o622:=H13 50 2 "Heads.need_record"
def o623:=H4 "need_record" 1046 "Heads.need_record" 410 3 618 1052 1053
def o624:=H14 50 2 "Heads.need_record" "eachstepsame.typer" 907 623
def o627:=H13 50 3 "Heads.told_kind"
def o628:=H17 "told_kind" 1055 "Heads.told_kind" 414 2 625 1058
def o629:=H14 50 3 "Heads.told_kind" "eachstepsame.typer" 907 628
def o632:=H15 "self" 1064 "kind"
def o634:=H13 50 4 "Heads.fields_of"
def o635:=H4 "fields_of" 1061 "Heads.fields_of" 419 2 630 1066 1067
def o636:=H14 50 4 "Heads.fields_of" "eachstepsame.typer" 907 635
def o639:=H18 "self" 1072 "kind" "name" "place" "number" "field"
def o641:=H13 50 5 "Heads.field_number"
def o642:=H4 "field_number" 1069 "Heads.field_number" 422 4 637 1078 1079
def o643:=H14 50 5 "Heads.field_number" "eachstepsame.typer" 907 642
def o644:=H15 "functions" 1081 "records"
def o645(P:Params):=dc 4 [(ds P "__module__" 1017 "eachstepsame.typer" 907),(de P "__firstlineno__" 1021 (.int 383 1020)),(dr P "__init__" 1033 610),(dr P "look_at_function" 1045 617),(dr P "need_record" 1054 624),(dr P "told_kind" 1060 629),(dr P "fields_of" 1068 636),(dr P "field_number" 1080 643),(dr P "__static_attributes__" 1083 644),(dr P "__dict__" 1085 647),(dr P "__weakref__" 1087 648),(de P "__doc__" 1088 .none)]
def o646:=H19 "Heads" 646 645 1010
def o647:=H20 1084 646
def o648:=H7 1086 646
def o649:=H8 646
def o650:=H9 646
def o653(P:Params):=dc 18 [(ds P "__module__" 1098 "eachstepsame.typer" 907),(ds P "__qualname__" 1100 "Body" 1099),(de P "__firstlineno__" 1102 (.int 427 1101)),(dr P "__init__" 1111 664),(dr P "told_rows_of" 1117 669),(dr P "look_at_rows" 1130 676),(dr P "look_at_row" 1142 683),(dr P "look_at_try" 1156 690),(dr P "look_at_tested" 1170 697),(dr P "look_at_let" 1181 704),(dr P "look_at_set" 1197 711),(dr P "look_at_parts" 1210 718),(dr P "look_at" 1224 725),(dr P "look_at_name" 1235 732),(dr P "look_at_call" 1246 739),(dr P "look_at_new" 1259 746),(dr P "look_at_field" 1271 753),(dr P "__static_attributes__" 1274 754)]
def o655:=ob .none (.fields ⟨[(.int 429 0),(.int 4 0),(.ref 663),(.int 433 0),(.int 4 0),(.ref 668),(.int 438 0),(.int 4 0),(.ref 675),(.int 446 0),(.int 4 0),(.ref 682),(.int 465 0),(.int 4 0),(.ref 689),(.int 474 0),(.int 4 0),(.ref 696),(.int 484 0),(.int 4 0),(.ref 703),(.int 489 0),(.int 4 0),(.ref 710),(.int 508 0),(.int 4 0),(.ref 717),(.int 516 0),(.int 4 0),(.ref 724),(.int 541 0),(.int 4 0),(.ref 731),(.int 547 0),(.int 4 0),(.ref 738),(.int 554 0),(.int 4 0),(.ref 745),(.int 563 0),(.int 4 0),(.ref 752)]⟩)
def o656:=H0 "Body" 1093 427 654 1096
def o657:=H1 656 653 "eachstepsame.typer" 907
def o660:=H12 "self" 1106 "heads" "gives"
def o662:=H13 51 0 "Body.__init__"
def o663:=H4 "__init__" 1103 "Body.__init__" 429 3 658 1109 1110
def o664:=H14 51 0 "Body.__init__" "eachstepsame.typer" 907 663
def o667:=H13 51 1 "Body.told_rows_of"
def o668:=H17 "told_rows_of" 1112 "Body.told_rows_of" 433 2 665 1115
def o669:=H14 51 1 "Body.told_rows_of" "eachstepsame.typer" 907 668
def o672:=H24 "self" 1121 "rows" "place" "names" "there" "told_rows" "row"
def o674:=H13 51 2 "Body.look_at_rows"
def o675:=H4 "look_at_rows" 1118 "Body.look_at_rows" 438 4 670 1128 1129
def o676:=H14 51 2 "Body.look_at_rows" "eachstepsame.typer" 907 675
def o679:=H18 "self" 1134 "row" "place" "names" "word" "parts"
def o681:=H13 51 3 "Body.look_at_row"
def o682:=H4 "look_at_row" 1131 "Body.look_at_row" 446 4 677 1140 1141
def o683:=H14 51 3 "Body.look_at_row" "eachstepsame.typer" 907 682
def o686:=H25 1146 "row" "rows" "catches" "fault" "caught"
def o688:=H13 51 4 "Body.look_at_try"
def o689:=H4 "look_at_try" 1143 "Body.look_at_try" 465 4 684 1154 1155
def o690:=H14 51 4 "Body.look_at_try" "eachstepsame.typer" 907 689
def o693:=H25 1160 "row" "test" "beneath" "sides" "rows"
def o695:=H13 51 5 "Body.look_at_tested"
def o696:=H4 "look_at_tested" 1157 "Body.look_at_tested" 474 4 691 1168 1169
def o697:=H14 51 5 "Body.look_at_tested" "eachstepsame.typer" 907 696
def o700:=H21 "self" 1174 "row" "place" "names" "value"
def o702:=H13 51 6 "Body.look_at_let"
def o703:=H4 "look_at_let" 1171 "Body.look_at_let" 484 5 698 1179 1180
def o704:=H14 51 6 "Body.look_at_let" "eachstepsame.typer" 907 703
def o707:=tu [(.str "self" 1185),(.str "row" 1186),(.str "place" 1187),(.str "names" 1188),(.str "parts" 1189),(.str "name" 1190),(.str "kind" 1191),(.str "told_kind" 1192),(.str "whole" 1193),(.str "number" 1194)]
def o709:=H13 51 7 "Body.look_at_set"
def o710:=H4 "look_at_set" 1182 "Body.look_at_set" 489 5 705 1195 1196
def o711:=H14 51 7 "Body.look_at_set" "eachstepsame.typer" 907 710
def o714:=H24 "self" 1201 "node" "place" "names" "parts" "beneath" "part"
def o716:=H13 51 8 "Body.look_at_parts"
def o717:=H4 "look_at_parts" 1198 "Body.look_at_parts" 508 4 712 1208 1209
def o718:=H14 51 8 "Body.look_at_parts" "eachstepsame.typer" 907 717
def o721:=H25 1214 "node" "parts" "word" "kind" "sign"
def o723:=H13 51 9 "Body.look_at"
def o724:=H4 "look_at" 1211 "Body.look_at" 516 4 719 1222 1223
def o725:=H14 51 9 "Body.look_at" "eachstepsame.typer" 907 724
def o728:=H21 "self" 1228 "name" "place" "names" "kind"
def o730:=H13 51 10 "Body.look_at_name"
def o731:=H4 "look_at_name" 1225 "Body.look_at_name" 541 4 726 1233 1234
def o732:=H14 51 10 "Body.look_at_name" "eachstepsame.typer" 907 731
def o735:=H21 "self" 1239 "name" "place" "parts" "head"
def o737:=H13 51 11 "Body.look_at_call"
def o738:=H4 "look_at_call" 1236 "Body.look_at_call" 547 4 733 1244 1245
def o739:=H14 51 11 "Body.look_at_call" "eachstepsame.typer" 907 738
def o742:=H24 "self" 1250 "name" "place" "parts" "head" "kind" "told_kind"
def o744:=H13 51 12 "Body.look_at_new"
def o745:=H4 "look_at_new" 1247 "Body.look_at_new" 554 4 740 1257 1258
def o746:=H14 51 12 "Body.look_at_new" "eachstepsame.typer" 907 745
def o749:=H18 "self" 1263 "name" "place" "parts" "number" "kind"
def o751:=H13 51 13 "Body.look_at_field"
def o752:=H4 "look_at_field" 1260 "Body.look_at_field" 563 4 747 1269 1270
def o753:=H14 51 13 "Body.look_at_field" "eachstepsame.typer" 907 752
def o754:=H15 "gives" 1272 "heads"
def o755(P:Params):=dc 4 [(ds P "__module__" 1098 "eachstepsame.typer" 907),(de P "__firstlineno__" 1102 (.int 427 1101)),(dr P "__init__" 1111 664),(dr P "told_rows_of" 1117 669),(dr P "look_at_rows" 1130 676),(dr P "look_at_row" 1142 683),(dr P "look_at_try" 1156 690),(dr P "look_at_tested" 1170 697),(dr P "look_at_let" 1181 704),(dr P "look_at_set" 1197 711),(dr P "look_at_parts" 1210 718),(dr P "look_at" 1224 725),(dr P "look_at_name" 1235 732),(dr P "look_at_call" 1246 739),(dr P "look_at_new" 1259 746),(dr P "look_at_field" 1271 753),(dr P "__static_attributes__" 1274 754),(dr P "__dict__" 1276 757),(dr P "__weakref__" 1278 758),(de P "__doc__" 1279 .none)]
def o756:=H19 "Body" 756 755 1091
def o757:=H20 1275 756
def o758:=H7 1277 756
def o759:=H8 756
def o760:=H9 756
def o763:=H22 "op" 1285 "extra" "parts" "kind"
def o765:=H3 52 "told_op"
def o766:=H4 "told_op" 1282 "told_op" 568 4 761 1289 1290
def o767:=H5 52 "told_op" "eachstepsame.typer" 907 766
def o770:=H3 53 "told_parts"
def o771:=H17 "told_parts" 1292 "told_parts" 570 1 768 1295
def o772:=H5 53 "told_parts" "eachstepsame.typer" 907 771
def o775:=H3 54 "counted_all"
def o776:=H17 "counted_all" 1298 "counted_all" 572 1 773 1301
def o777:=H5 54 "counted_all" "eachstepsame.typer" 907 776
def o780:=H12 "name" 1307 "there" "place"
def o782:=H3 55 "need_new"
def o783:=H4 "need_new" 1304 "need_new" 574 3 778 1310 1311
def o784:=H5 55 "need_new" "eachstepsame.typer" 907 783
def o787:=H22 "fields" 1316 "place" "there" "field"
def o789:=H3 56 "need_unlike"
def o790:=H4 "need_unlike" 1313 "need_unlike" 577 2 785 1320 1321
def o791:=H5 56 "need_unlike" "eachstepsame.typer" 907 790
def o794:=H12 "part" 1326 "kind" "place"
def o796:=H3 57 "need_kind"
def o797:=H4 "need_kind" 1323 "need_kind" 582 3 792 1329 1330
def o798:=H5 57 "need_kind" "eachstepsame.typer" 907 797
def o801:=H22 "parts" 1335 "kind" "place" "part"
def o803:=H3 58 "need_kinds"
def o804:=H4 "need_kinds" 1332 "need_kinds" 585 3 799 1339 1340
def o805:=H5 58 "need_kinds" "eachstepsame.typer" 907 804
def o808:=H12 "part" 1345 "word" "place"
def o810:=H3 59 "need_sort"
def o811:=H4 "need_sort" 1342 "need_sort" 588 3 806 1348 1349
def o812:=H5 59 "need_sort" "eachstepsame.typer" 907 811
def o815:=H18 "parts" 1354 "wanted" "origin" "place" "part" "want"
def o817:=H3 60 "need_all"
def o818:=H4 "need_all" 1351 "need_all" 591 4 813 1360 1361
def o819:=H5 60 "need_all" "eachstepsame.typer" 907 818
def o822:=H15 "_law_script" 1368 "_law_k"
def o824:=H3 62 "_law_cell_at"
def o825:=H4 "_law_cell_at" 1365 "_law_cell_at" 597 2 820 1370 1371
def o826:=H5 62 "_law_cell_at" "law_eachstepsame_k18_runs_refused" 1363 825
def o829:=H12 "_law_cell" 1376 "_law_k" "_law_number"
def o831:=H3 63 "_law_mixed"
def o832:=H4 "_law_mixed" 1373 "_law_mixed" 601 2 827 1379 1380
def o833:=H5 63 "_law_mixed" "law_eachstepsame_k18_runs_refused" 1363 832
def o836:=H12 "_law_row" 1385 "_law_takes" "_law_main"
def o838:=H3 64 "_law_tree"
def o839:=H4 "_law_tree" 1382 "_law_tree" 605 1 834 1388 1389
def o840:=H5 64 "_law_tree" "law_eachstepsame_k18_runs_refused" 1363 839
def o843:=H12 "_law_cell" 1394 "_law_row" "_law_some"
def o845:=H3 65 "_law_thing"
def o846:=H4 "_law_thing" 1391 "_law_thing" 609 2 841 1397 1398
def o847:=H5 65 "_law_thing" "law_eachstepsame_k18_runs_refused" 1363 846
def o850:=H3 66 "_law_fits"
def o851:=H17 "_law_fits" 1400 "_law_fits" 613 2 848 1403
def o852:=H5 66 "_law_fits" "law_eachstepsame_k18_runs_refused" 1363 851
def o855:=H21 "_law_kinds" 1409 "_law_inputs" "_law_budget" "_law_place" "_law_kind"
def o857:=H3 67 "_law_due"
def o858:=H4 "_law_due" 1406 "_law_due" 622 3 853 1414 1415
def o859:=H5 67 "_law_due" "law_eachstepsame_k18_runs_refused" 1363 858
def o862:=H24 "_law_way" 1420 "_law_tree_here" "_law_kinds" "_law_inputs" "_law_budget" "_law_caught_here" "e"
def o864:=H3 68 "_law_caught"
def o865:=H4 "_law_caught" 1417 "_law_caught" 631 5 860 1427 1428
def o866:=H5 68 "_law_caught" "law_eachstepsame_k18_runs_refused" 1363 865
def o869:=tu [(.str "_law_script" 1433),(.str "_law_row" 1434),(.str "_law_tree_here" 1435),(.str "_law_kinds" 1436),(.str "_law_cell" 1437),(.str "_law_number" 1438),(.str "_law_inputs" 1439),(.str "_law_k" 1440),(.str "_law_budget" 1441),(.str "_law_due_here" 1442),(.str "_law_way" 1443),(.str "_law_found" 1444)]
def o871:=H3 69 "law"
def o872:=H4 "law" 1430 "law" 645 1 867 1445 1446
def o873:=H5 69 "law" "law_eachstepsame_k18_runs_refused" 1363 872
def ha(P:Params):Heap:=⟨⟨[(boot_o_0 P),(boot_o_1 P),(boot_o_2 P),(boot_o_3 P),(boot_o_4 P),(boot_o_5 P),(boot_o_6 P),(boot_o_7 P),(boot_o_8 P),(boot_o_9 P),(boot_o_10 P),t0,o12a,o13a,o14a]⟩,{}⟩
def tb1(P:Params):BT:=n7 (boot_o_1 P) (boot_o_3 P) (boot_o_7 P) t0 (boot_o_5 P) (boot_o_9 P) o13a
def tb2(P:Params):BT:=n7 (boot_o_2 P) (boot_o_4 P) (boot_o_8 P) o12a (boot_o_6 P) (boot_o_10 P) o14a
def tb(P:Params):BT:=(.node (boot_o_0 P) (tb1 P) (tb2 P))
def h0(P:Params)(r:List Obj):List Obj:=(boot_o_0 P)::(boot_o_1 P)::(boot_o_2 P)::(o3 P)::(boot_o_4 P)::(boot_o_5 P)::(boot_o_6 P)::(boot_o_7 P)::(boot_o_8 P)::(boot_o_9 P)::(boot_o_10 P)::t0::o12::o13a::o14a::t0::o12a::o17::t0::o19::o20::o21::o22::o23::r
def h1(P:Params)(r:List Obj):List Obj:=(o24 P)::t0::o12a::o27::o28::t0::(o30 P)::o31::o32::o33::o34::o35::o23::(o37 P)::t0::o39::o40::o41::t0::o12a::o44::t0::o46::o47::r
def h2(P:Params)(r:List Obj):List Obj:=o48::o49::(o50 P)::o51::o52::o53::o35::o23::(o56 P)::t0::o58::o59::o60::t0::o12a::o63::t0::o65::o66::o67::o68::(o69 P)::o70::o71::r
def h3(P:Params)(r:List Obj):List Obj:=o72::o35::o23::(o75 P)::t0::o77::o78::o79::t0::o12a::o82::t0::o84::o85::o86::o87::(o88 P)::o89::o90::o91::o35::o23::(o94 P)::t0::r
def h4(P:Params)(r:List Obj):List Obj:=o96::o97::o98::t0::o12a::o101::t0::o103::o104::o105::t0::(o107 P)::o108::o109::o110::o35::o23::(o113 P)::t0::o115::o116::o117::t0::o12a::r
def h5(P:Params)(r:List Obj):List Obj:=o120::t0::o122::o123::o124::o125::(o126 P)::o127::o128::o129::o35::o23::(o132 P)::t0::o134::o135::o136::t0::o12a::o139::t0::o141::o142::o143::r
def h6(P:Params)(r:List Obj):List Obj:=t0::(o145 P)::o146::o147::o148::o35::o23::(o151 P)::t0::o153::o154::o155::t0::o12a::o158::t0::o160::o161::o162::o163::(o164 P)::o165::o166::o167::r
def h7(P:Params)(r:List Obj):List Obj:=o168::o169::t0::o12a::o172::t0::o174::o175::o176::t0::o12a::o179::t0::o181::o182::o183::t0::o12a::o186::o187::o188::t0::o12a::o191::r
def h8(P:Params)(r:List Obj):List Obj:=o192::o193::t0::o12a::o196::o197::o198::t0::o23::(o201 P)::t0::o203::o204::o205::t0::o12a::o208::t0::o210::o211::o212::t0::o12a::o215::r
def h9(P:Params)(r:List Obj):List Obj:=t0::o217::o218::o219::o220::(o221 P)::o222::o223::o224::o225::o226::t0::o23::(o229 P)::t0::o231::o232::o233::t0::o12a::o236::t0::o238::o239::r
def h10(P:Params)(r:List Obj):List Obj:=o240::t0::o12a::o243::t0::o245::o246::o247::t0::o12a::o250::t0::o252::o253::o254::t0::o12a::o257::t0::o259::o260::o261::t0::o12a::r
def h11(P:Params)(r:List Obj):List Obj:=o264::t0::o266::o267::o268::t0::o12a::o271::t0::o273::o274::o275::o276::(o277 P)::o278::o279::o280::o281::o282::t0::o12a::o285::t0::o287::r
def h12(P:Params)(r:List Obj):List Obj:=o288::o289::t0::o12a::o292::t0::o294::o295::o296::t0::o12a::o299::t0::o301::o302::o303::o304::t0::o12a::o307::t0::o309::o310::o311::r
def h13(P:Params)(r:List Obj):List Obj:=t0::o12a::o314::t0::o316::o317::o318::t0::o12a::o321::t0::o323::o324::o325::t0::o12a::o328::t0::o330::o331::o332::t0::o12a::o335::r
def h14(P:Params)(r:List Obj):List Obj:=t0::o337::o338::o339::t0::o12a::o342::t0::o344::o345::o346::t0::o12a::o349::t0::o351::o352::o353::t0::o12a::o356::t0::o358::o359::r
def h15(P:Params)(r:List Obj):List Obj:=o360::t0::o12a::o363::t0::o365::o366::o367::t0::o12a::o370::t0::o372::o373::o374::t0::o12a::o377::t0::o379::o380::o381::t0::o12a::r
def h16(P:Params)(r:List Obj):List Obj:=o384::t0::o386::o387::o388::(o389 P)::t0::o12a::o392::o393::o394::t0::o23::(o397 P)::t0::o399::o400::o401::t0::o12a::o404::t0::o406::o407::r
def h17(P:Params)(r:List Obj):List Obj:=o408::t0::o12a::o411::t0::o413::o414::o415::t0::o12a::o418::o419::o420::t0::o12a::o423::t0::o425::o426::o427::o428::(o429 P)::o430::o431::r
def h18(P:Params)(r:List Obj):List Obj:=o432::o433::o434::o435::o23::(o437 P)::t0::o439::o440::o441::t0::o12a::o444::t0::o446::o447::o448::t0::o12a::o451::o452::o453::t0::o12a::r
def h19(P:Params)(r:List Obj):List Obj:=o456::t0::o458::o459::o460::t0::o12a::o463::t0::o465::o466::o467::t0::o12a::o470::t0::o472::o473::o474::t0::o12a::o477::t0::o479::r
def h20(P:Params)(r:List Obj):List Obj:=o480::o481::t0::o12a::o484::t0::o486::o487::o488::t0::o12a::o491::t0::o493::o494::o495::t0::o12a::o498::t0::o500::o501::o502::t0::r
def h21(P:Params)(r:List Obj):List Obj:=o12a::o505::t0::o507::o508::o509::t0::o12a::o512::t0::o514::o515::o516::o517::(o518 P)::o519::o520::o521::t0::o12a::o524::t0::o526::o527::r
def h22(P:Params)(r:List Obj):List Obj:=o528::(o529 P)::o530::o531::o532::o533::o534::o535::o536::o537::o538::o539::o540::o541::o542::o543::o544::o545::o546::o547::o548::o549::o550::o551::r
def h23(P:Params)(r:List Obj):List Obj:=o552::o553::o554::o555::o556::(o557 P)::o558::o559::o560::o561::o562::o563::t0::o23::(o566 P)::t0::o568::o569::o570::t0::o12a::o573::t0::o575::r
def h24(P:Params)(r:List Obj):List Obj:=o576::o577::t0::o12a::o580::t0::o582::o583::o584::o585::(o586 P)::o587::o588::o589::o590::o591::t0::o12a::o594::o595::o596::t0::o23::(o599 P)::r
def h25(P:Params)(r:List Obj):List Obj:=t0::o601::o602::o603::t0::o12a::o606::t0::o608::o609::o610::t0::o12a::o613::t0::o615::o616::o617::t0::o12a::o620::t0::o622::o623::r
def h26(P:Params)(r:List Obj):List Obj:=o624::t0::o12a::o627::o628::o629::t0::o12a::o632::t0::o634::o635::o636::t0::o12a::o639::t0::o641::o642::o643::o644::(o645 P)::o646::o647::r
def h27(P:Params)(r:List Obj):List Obj:=o648::o649::o650::t0::o23::(o653 P)::t0::o655::o656::o657::t0::o12a::o660::t0::o662::o663::o664::t0::o12a::o667::o668::o669::t0::o12a::r
def h28(P:Params)(r:List Obj):List Obj:=o672::t0::o674::o675::o676::t0::o12a::o679::t0::o681::o682::o683::t0::o12a::o686::t0::o688::o689::o690::t0::o12a::o693::t0::o695::r
def h29(P:Params)(r:List Obj):List Obj:=o696::o697::t0::o12a::o700::t0::o702::o703::o704::t0::o12a::o707::t0::o709::o710::o711::t0::o12a::o714::t0::o716::o717::o718::t0::r
def h30(P:Params)(r:List Obj):List Obj:=o12a::o721::t0::o723::o724::o725::t0::o12a::o728::t0::o730::o731::o732::t0::o12a::o735::t0::o737::o738::o739::t0::o12a::o742::t0::r
def h31(P:Params)(r:List Obj):List Obj:=o744::o745::o746::t0::o12a::o749::t0::o751::o752::o753::o754::(o755 P)::o756::o757::o758::o759::o760::t0::o12a::o763::t0::o765::o766::o767::r
def h32(P:Params)(r:List Obj):List Obj:=t0::o12a::o770::o771::o772::t0::o12a::o775::o776::o777::t0::o12a::o780::t0::o782::o783::o784::t0::o12a::o787::t0::o789::o790::o791::r
def h33(P:Params)(r:List Obj):List Obj:=t0::o12a::o794::t0::o796::o797::o798::t0::o12a::o801::t0::o803::o804::o805::t0::o12a::o808::t0::o810::o811::o812::t0::o12a::o815::r
def h34(P:Params)(r:List Obj):List Obj:=t0::o817::o818::o819::t0::o12a::o822::t0::o824::o825::o826::t0::o12a::o829::t0::o831::o832::o833::t0::o12a::o836::t0::o838::o839::r
def h35(P:Params)(r:List Obj):List Obj:=o840::t0::o12a::o843::t0::o845::o846::o847::t0::o12a::o850::o851::o852::t0::o12a::o855::t0::o857::o858::o859::t0::o12a::o862::t0::r
def h36(P:Params)(r:List Obj):List Obj:=o864::o865::o866::t0::o12a::o869::t0::o871::o872::o873::r
def hl(P:Params):List Obj:=h0 P (h1 P (h2 P (h3 P (h4 P (h5 P (h6 P (h7 P (h8 P (h9 P (h10 P (h11 P (h12 P (h13 P (h14 P (h15 P (h16 P (h17 P (h18 P (h19 P (h20 P (h21 P (h22 P (h23 P (h24 P (h25 P (h26 P (h27 P (h28 P (h29 P (h30 P (h31 P (h32 P (h33 P (h34 P (h35 P (h36 P ([])))))))))))))))))))))))))))))))))))))
def hf(P:Params):Heap:=⟨⟨hl P⟩,{}⟩
noncomputable def ev:List Obj→List Obj
 |a::_::l=>a::ev l
 |l=>l
noncomputable def od:List Obj→List Obj
 |_::b::l=>b::od l
 |_=>[]
def mT:Nat→List Obj→BT
 |n+1,a::l=> .node a (mT n (ev l)) (mT n (od l))
 |_,_=> .nil
def tl(P:Params):BT:=mT 11 (hl P)
noncomputable def pk:Nat→List Addr→List Obj→Frag
 |n,a::r,o::l=>if Nat.beq n a then(a,o)::pk (n+1) r l else pk (n+1) (a::r) l
 |_,_,_=>[]
noncomputable def as:List Addr:=[2,3,15,17,18,20,21,22,29,30,31,32,35,42,44,45,47,48,49,50,51,54,61,63,64,66,67,68,69,70,73,80,82,83,85,86,87,88,89,92,99,101,102,104,105,106,107,108,111,118,120,121,123,124,125,126,127,130,137,139,140,142,143,144,145,146,149,156,158,159,161,162,163,164,165,168,169,170,172,173,175,176,177,179,180,182,183,184,187,188,189,192,193,194,197,198,206,208,209,211,212,213,215,216,218,219,220,221,222,223,224,234,236,237,239,240,241,243,244,246,247,248,250,251,253,254,255,257,258,260,261,262,264,265,267,268,269,271,272,274,275,276,277,278,279,280,283,285,286,288,289,290,292,293,295,296,297,299,300,302,303,304,305,307,308,310,311,312,314,315,317,318,319,321,322,324,325,326,328,329,331,332,333,335,336,338,339,340,342,343,345,346,347,349,350,352,353,354,356,357,359,360,361,363,364,366,367,368,370,371,373,374,375,377,378,380,381,382,384,385,387,388,389,390,393,394,402,404,405,407,408,409,411,412,414,415,416,419,420,421,423,424,426,427,428,429,430,431,432,435,442,444,445,447,448,449,452,453,454,456,457,459,460,461,463,464,466,467,468,470,471,473,474,475,477,478,480,481,482,484,485,487,488,489,491,492,494,495,496,498,499,501,502,503,505,506,508,509,510,512,513,515,516,517,518,519,522,524,525,527,528,529,530,531,532,533,534,535,536,537,538,539,540,541,542,543,544,545,546,547,548,549,550,551,552,553,554,555,556,557,558,559,560,561,562,563,571,573,574,576,577,578,580,581,583,584,585,586,587,588,589,592,595,596,604,606,607,609,610,611,613,614,616,617,618,620,621,623,624,625,628,629,630,632,633,635,636,637,639,640,642,643,644,645,646,647,648,658,660,661,663,664,665,668,669,670,672,673,675,676,677,679,680,682,683,684,686,687,689,690,691,693,694,696,697,698,700,701,703,704,705,707,708,710,711,712,714,715,717,718,719,721,722,724,725,726,728,729,731,732,733,735,736,738,739,740,742,743,745,746,747,749,750,752,753,754,755,756,757,758,761,763,764,766,767,768,771,772,773,776,777,778,780,781,783,784,785,787,788,790,791,792,794,795,797,798,799,801,802,804,805,806,808,809,811,812,813,815,816,818,819,820,822,823,825,826,827,829,830,832,833,834,836,837,839,840,841,843,844,846,847,848,851,852,853,855,856,858,859,860,862,863,865,866,867,869,870,872,873]
def K(P:Params):Frag:=pk 0 as (hl P)
def kc(P:Params):Frag:=K P
noncomputable def env:Env:={scope:=PySem.Challenge.pw_eachstepsame_k18_runs_refused.main.scope,locals:=mainNs,globals:=mainNs,cells:=[],code:=(.ref 13),frame:=some 14}
def cE:Code:= .body (behindTheImports PySem.Challenge.pw_eachstepsame_k18_runs_refused) env
theorem tws:((fun(_:Params→BT) (_:Params→BT) (_:Params→Heap) (_:Params→Heap) (_:Params→Frag) (_:Program) (_:Code)=>true) tb tl ha hf kc q cE)=true:=by k_qdec
theorem pre(w:World):(fun os:OsState=>topGo treeTable PySem.Challenge.pw_eachstepsame_k18_runs_refused w 11 (some (.ref 6)) 12 ⟨boot_heap w.params,⟨[]⟩,boot_drawn,boot_toks,os⟩ (topStub PySem.Challenge.pw_eachstepsame_k18_runs_refused))=fun os=>some (⟨ha w.params,⟨[]⟩,{},187,os⟩,⟨denote treeTable cE,cE,⟨0,0,0,0⟩,[topFrame ⟨0,0,0,0⟩]⟩):=by
 rewrite[PySem.W.Fast.te15667345088766844465,PySem.W.Fast.te14364793385576792824,PySem.W.Fast.te1298277457750943730,PySem.W.Fast.te12167769141508308155,PySem.W.Fast.te11892475500146522536,PySem.W.Fast.te2343313782933208130]
 kernel_rfl
theorem block(w:World):(fun os:OsState=>segRun treeTable PySem.Challenge.pw_eachstepsame_k18_runs_refused w 11 (some (.ref 6)) 1 1 ⟨ha w.params,⟨[]⟩,{},187,os⟩ (blockOf (behindTheImports PySem.Challenge.pw_eachstepsame_k18_runs_refused) env cE ⟨0,0,0,0⟩ [topFrame ⟨0,0,0,0⟩]))=fun os=>some (Flow.next,(⟨tb w.params,15,{},⟨[]⟩,{},187,os⟩:SharedT).abs,cE,⟨0,0,0,0⟩):=by
 rewrite[PySem.W.Fast.te14374325043358763698,PySem.W.Fast.te14364793385576792824,PySem.W.Fast.te1298277457750943730,PySem.W.Fast.te12167769141508308155,PySem.W.Fast.te17306263501064129316,PySem.W.Fast.te17150320874572105945,PySem.W.Fast.te2343313782933208130]
 kernel_rfl
theorem seg(w:World):(fun os:OsState=>segRunT treeTable PySem.Challenge.pw_eachstepsame_k18_runs_refused w 11 (some (.ref 6)) 1 6602 (⟨tb w.params,15,{},⟨[]⟩,{},187,os⟩:SharedT) (piecesOf (behindTheImports PySem.Challenge.pw_eachstepsame_k18_runs_refused) env cE ⟨0,0,0,0⟩ [topFrame ⟨0,0,0,0⟩]))=fun os=>some (Flow.next,(⟨tl w.params,874,{},⟨[]⟩,{},1448,os⟩:SharedT),cE,⟨645,0,662,15⟩):=by
 refine PySem.W.byRow2 "special-get-raises" (P:=fun w=>(fun os:OsState=>segRunT treeTable PySem.Challenge.pw_eachstepsame_k18_runs_refused w 11 (some (.ref 6)) 1 6602 (⟨tb w.params,15,{},⟨[]⟩,{},187,os⟩:SharedT) (piecesOf (behindTheImports PySem.Challenge.pw_eachstepsame_k18_runs_refused) env cE ⟨0,0,0,0⟩ [topFrame ⟨0,0,0,0⟩]))=fun os=>some (Flow.next,(⟨tl w.params,874,{},⟨[]⟩,{},1448,os⟩:SharedT),cE,⟨645,0,662,15⟩)) (fun w=> ?_) (fun w=> ?_) w
 ·rewrite[PySem.W.Fast.te10110043849684766642,PySem.W.Fast.te14364793385576792824,PySem.W.Fast.te1298277457750943730,PySem.W.Fast.te17306263501064129316,PySem.W.Fast.te7101502176447651324,PySem.W.Fast.te17150320874572105945,PySem.W.Fast.te2343313782933208130]
  kernel_rfl
 ·rewrite[PySem.W.Fast.te10110043849684766642,PySem.W.Fast.te14364793385576792824,PySem.W.Fast.te1298277457750943730,PySem.W.Fast.te17306263501064129316,PySem.W.Fast.te7101502176447651324,PySem.W.Fast.te17150320874572105945,PySem.W.Fast.te2343313782933208130]
  kernel_rfl
theorem fin(w:World):(fun os:OsState=>topRun treeTable PySem.Challenge.pw_eachstepsame_k18_runs_refused w 11 (some (.ref 6)) 2 (⟨tl w.params,874,{},⟨[]⟩,{},1448,os⟩:SharedT).abs ⟨doneF .next,cE,⟨645,0,662,15⟩,[topFrame ⟨0,0,0,0⟩]⟩)=fun os=>some (⟨hf w.params,⟨[]⟩,{},1448,os⟩:Shared):=by
 rewrite[PySem.W.Fast.te14082659384304107361,PySem.W.Fast.te14364793385576792824,PySem.W.Fast.te1298277457750943730,PySem.W.Fast.te7101502176447651324,PySem.W.Fast.te10544986032919753165,PySem.W.Fast.te2343313782933208130]
 kernel_rfl
theorem run(w:World)(os:OsState):topRun treeTable PySem.Challenge.pw_eachstepsame_k18_runs_refused w 11 (some (.ref 6)) (12+(1+(6602+2))) ⟨boot_heap w.params,⟨[]⟩,boot_drawn,boot_toks,os⟩ (topStub PySem.Challenge.pw_eachstepsame_k18_runs_refused)=some (⟨hf w.params,⟨[]⟩,{},1448,os⟩:Shared):=by
 have a:=piece_app (rest:=[]) (segRun_of (congrFun (seg w) os)) (piece_nil (congrFun (fin w) os))
 rw[List.append_nil] at a
 exact go_top (congrFun (pre w) os) (piece_block (congrFun (block w) os) a)
def Xt(s:Shared):Bool:=xlAt q [] s&&recOk [] s
theorem keys(P:Params):as=(K P).map (·.1):=by kernel_rfl
def hk:Hook:=kHook K as keys
theorem lk1(w:World):(fun os:OsState=>staticsOk (importedModules PySem.Challenge.pw_eachstepsame_k18_runs_refused.main.body) (boot_heap w.params) (hf w.params)&&namesBound PySem.Challenge.pw_eachstepsame_k18_runs_refused (hf w.params)&&gensDone (⟨hf w.params,⟨[]⟩,{},1448,os⟩:Shared)&&laidKept (boot_heap w.params) (hf w.params))=fun os=>true:=by
 rewrite[PySem.W.Fast.te5923862056798008813,PySem.W.Fast.te1298277457750943730,PySem.W.Fast.te10544986032919753165]
 kernel_rfl
theorem lk2(w:World):(fun os:OsState=>seen ((recsOf q).map (·.name)) (ownsOf q) [] {(⟨hf w.params,⟨[]⟩,{},1448,os⟩:Shared) with gens:= #[]})=fun os=>expectedOf q:=by
 rewrite[PySem.W.Fast.te5160383126252970620,PySem.W.Fast.te3399658132070893891,PySem.W.Fast.te5991557255702980513,PySem.W.Fast.te1768822226353211369,PySem.W.Fast.te10544986032919753165]
 kernel_rfl
theorem lk3(w:World):(fun os:OsState=>(⟨hf w.params,⟨[]⟩,{},1448,os⟩:Shared).heap.bltView)=fun os=>bltViewBooted:=by
 rewrite[PySem.W.Fast.te10544986032919753165]
 kernel_rfl
theorem lk4(w:World):(fun os:OsState=>(⟨hf w.params,⟨[]⟩,{},1448,os⟩:Shared).heap.keysOk (looseW q ["NODES","TWO","ONE"]) ((recsOf q).map (·.name)) ((litsOf q).map (·.1)) ((clssOf q (looseW q ["NODES","TWO","ONE"])).map (·.name))&&(⟨hf w.params,⟨[]⟩,{},1448,os⟩:Shared).heap.accountedOkI (importedModules PySem.Challenge.pw_eachstepsame_k18_runs_refused.main.body)&&(⟨hf w.params,⟨[]⟩,{},1448,os⟩:Shared).heap.isNs mainGlobals&&(⟨hf w.params,⟨[]⟩,{},1448,os⟩:Shared).heap.isNs builtinsNs&&tablesOk q (⟨hf w.params,⟨[]⟩,{},1448,os⟩:Shared).heap&&Xt (⟨hf w.params,⟨[]⟩,{},1448,os⟩:Shared)&&(if true then(⟨hf w.params,⟨[]⟩,{},1448,os⟩:Shared).gens.size==0 else !leftWithCleanup (⟨hf w.params,⟨[]⟩,{},1448,os⟩:Shared).gens))=fun os=>true:=by
 rewrite[PySem.W.Fast.te821141287760084731,PySem.W.Fast.te3399658132070893891,PySem.W.Fast.te7409074990110511671,PySem.W.Fast.te13664370479719496447,PySem.W.Fast.te5923862056798008813,PySem.W.Fast.te10994771534591457954,PySem.W.Fast.te1298277457750943730,PySem.W.Fast.te1768822226353211369,PySem.W.Fast.te10544986032919753165]
 kernel_rfl
theorem lk5(w:World):(fun os:OsState=>tabsOk q (⟨hf w.params,⟨[]⟩,{},1448,os⟩:Shared))=fun os=>true:=by
 rewrite[PySem.W.Fast.te479339242167458305,PySem.W.Fast.te1768822226353211369,PySem.W.Fast.te10544986032919753165]
 kernel_rfl
theorem lk6(w:World):(fun os:OsState=>pinSeenD q (drecsOf q) (⟨hf w.params,⟨[]⟩,{},1448,os⟩:Shared))=fun os=>pinGoodD (drecsOf q):=by
 rewrite[PySem.W.Fast.te16090120013241838585,PySem.W.Fast.te3247288618530077131,PySem.W.Fast.te1768822226353211369,PySem.W.Fast.te10544986032919753165]
 kernel_rfl
theorem lk7(w:World):(fun os:OsState=>plainSeenE q (looseW q ["NODES","TWO","ONE"]) (⟨hf w.params,⟨[]⟩,{},1448,os⟩:Shared))=fun os=>plainGoodE q (looseW q ["NODES","TWO","ONE"]):=by
 rewrite[PySem.W.Fast.te2386780881361962483,PySem.W.Fast.te821141287760084731,PySem.W.Fast.te1768822226353211369,PySem.W.Fast.te10544986032919753165]
 kernel_rfl
theorem lk8(w:World):(fun os:OsState=>plainSeenD q ["NODES","TWO","ONE"] (⟨hf w.params,⟨[]⟩,{},1448,os⟩:Shared))=fun os=>plainGoodD q ["NODES","TWO","ONE"]:=by
 rewrite[PySem.W.Fast.te11698064438423848299,PySem.W.Fast.te1768822226353211369,PySem.W.Fast.te10544986032919753165]
 kernel_rfl
theorem lk9(w:World):(fun os:OsState=>wideSeen q (⟨hf w.params,⟨[]⟩,{},1448,os⟩:Shared))=fun os=>wideGood q:=by
 rewrite[PySem.W.Fast.te7317090234206586261,PySem.W.Fast.te1768822226353211369,PySem.W.Fast.te10544986032919753165]
 kernel_rfl
theorem lk10(w:World):(fun os:OsState=>clsSeenW q ["NODES","TWO","ONE"] (⟨hf w.params,⟨[]⟩,{},1448,os⟩:Shared))=fun os=>clsGoodW q ["NODES","TWO","ONE"]:=by
 rewrite[PySem.W.Fast.te7369524293546568484,PySem.W.Fast.te1768822226353211369,PySem.W.Fast.te10544986032919753165]
 kernel_rfl
theorem kkc:K=kc:=rfl
theorem lk11(w:World):(fun os:OsState=>hk.obs (⟨hf w.params,⟨[]⟩,{},1448,os⟩:Shared))=fun os=>hk.val w:=by
 show(fun os:OsState=>as.map (⟨hf w.params,⟨[]⟩,{},1448,os⟩:Shared).heap.get?)=fun os=>(K w.params).map fun p=>some p.2
 rewrite[kkc,PySem.W.Fast.te10544986032919753165,PySem.W.Fast.te11339538413228328203]
 kernel_rfl
theorem looks(w:World):(fun os:OsState=>((staticsOk (importedModules PySem.Challenge.pw_eachstepsame_k18_runs_refused.main.body) (boot_heap w.params) (hf w.params)&&namesBound PySem.Challenge.pw_eachstepsame_k18_runs_refused (hf w.params)&&gensDone (⟨hf w.params,⟨[]⟩,{},1448,os⟩:Shared)&&laidKept (boot_heap w.params) (hf w.params)),
  openSeen q ["NODES","TWO","ONE"] (importedModules PySem.Challenge.pw_eachstepsame_k18_runs_refused.main.body) Xt true (⟨hf w.params,⟨[]⟩,{},1448,os⟩:Shared),hk.obs (⟨hf w.params,⟨[]⟩,{},1448,os⟩:Shared)))=fun _=>(true,openGood q ["NODES","TWO","ONE"],hk.val w):=by
 funext os
 refine looks_pair (congrFun (lk1 w) os) (looks_pair ?_ (congrFun (lk11 w) os))
 exact looks_pair (congrFun (lk2 w) os) (looks_pair (congrFun (lk3 w) os) (looks_pair (congrFun (lk4 w) os) (looks_pair (congrFun (lk5 w) os) (looks_pair (congrFun (lk6 w) os) (looks_pair (congrFun (lk7 w) os) (looks_pair (congrFun (lk8 w) os) (looks_pair (congrFun (lk9 w) os) (congrFun (lk10 w) os))))))))
theorem left:LeftO PySem.Challenge.pw_eachstepsame_k18_runs_refused q ["NODES","TWO","ONE"] Xt hk.obs hk.val 13328 true:=
 LeftO.of_pieces (boot_open (by kernel_rfl) (by kernel_rfl) (fun s=>by kernel_rfl)) (fun w=>by kernel_rfl) run (by kernel_rfl) looks
end
end Op
section
open PySem PySem.Spec PyProof.Rows
noncomputable def aa:= @wpAny_bind
noncomputable def ac:= @Heap.get?_push_of_some
noncomputable def aL:= @List.getElem?_set_ne
noncomputable def aq:= @Bool.false_ne_true
noncomputable def ae:= @wpAny_pure
noncomputable def ag:= @Option.some.inj
noncomputable def af:= @Nat.le_refl
noncomputable def ah:= @Heap.lt_size
noncomputable def ai:= @Nat.ne_of_lt
noncomputable def am:= @List.mem_of_getElem?
noncomputable def ao:= @Nat.lt_of_lt_of_le
noncomputable def ak:= @Heap.get?_push_size
noncomputable def aU:= @List.getElem?_eq_getElem
noncomputable def aS:= @List.set_append_left
noncomputable def aw:= @PySem.mem_of_lookup
noncomputable def aE:= @List.length_set
noncomputable def aB:= @Nat.lt_succ_self
noncomputable def aR:= @List.getElem?_map
noncomputable def aD:= @List.mem_append_right
noncomputable def aM:= @List.getElem?_append_left
noncomputable def aP:= @List.getElem?_append_right
noncomputable def aC:= @List.length_append
noncomputable def aN:= @List.getElem?_set_self
noncomputable def aI:= @Nat.le_trans
noncomputable def bi:= @Nat.ne_of_gt
noncomputable def aY:= @wpAny_setField_rec
noncomputable def bm:= @Int.emod_lt_of_pos
noncomputable def bq:= @List.getElem?_eq_none
noncomputable def bg:= @Nat.lt_irrefl
noncomputable def aA:= @wpAny_mono
noncomputable def az:= @wpAny_field
noncomputable def aX:= @PyProof.Rows.callWith_type1
theorem aH{α:Type _}{l:List α}{i:Nat}{a:α}(h:l[i]? =some a):∃h:i<l.length,l[i]=a:=List.getElem?_eq_some_iff.mp h
noncomputable abbrev al:=PySem.W.Frag
end
theorem jC{P:Prop}(h:false=true):P:=absurd h aq
namespace L2
open PySem PySem.Spec PyProof.Rows
variable{us:List Value}{u:Value}{C a b dx it:Addr}{base h:Heap}{w:World}{P:Program}{o:Obj}{ch fp:List Addr}{i j n t':Nat}{qual x:Str}{E Q:Value→Shared→Prop}{A:Around}{c e tg:Expr}{s:Shared}{pos pos':Pos}{pins:List (Addr×Obj)}{f:Value→Value→Sem Value}{mA mg:Str→Option Value}{kw:List (Str×Value)}
noncomputable abbrev Key:=Sum Int Str
noncomputable def ky:Key→Value→Bool
 | .inl k,v=>Value.isInt k v
 | .inr x,v=>Value.isStrOf x v
noncomputable def BJ(w:World):Key→Int
 | .inl k=>hashInt k
 | .inr x=>hashStr w x
theorem bE:∀{k:Key}{v:Value},ky k v=true→(∃i t,k=Sum.inl i∧v=Value.int i t)∨(∃x t,k=Sum.inr x∧v=Value.str x t)
 | .inl i,v,h=>by
  obtain⟨t,e⟩:=Value.isInt_shape (k:=i) (v:=v) h
  exact .inl ⟨i,t,rfl,e⟩
 | .inr x,v,h=>by
  obtain⟨t,e⟩:=Value.isStrOf_shape (x:=x) (v:=v) h
  exact .inr ⟨x,t,rfl,e⟩
theorem qg(i:Int)(t:Tok):ky (.inl i) (.int i t)=true:=by simp[ky,Value.isInt]
theorem h_(x:Str)(t:Tok):ky (.inr x) (.str x t)=true:=by simp[ky,Value.isStrOf]
theorem yg(a b:Int):decide ((Sum.inl a:Key)=Sum.inl b)=(a==b):=by
 by_cases e:a=b
 ·subst e;simp
 ·have h:¬(Sum.inl a:Key)=Sum.inl b:=fun q=>e (Sum.inl.inj q)
  rw[decide_eq_false h]
  exact(beq_eq_false_iff_ne.mpr e).symm
theorem yc(a b:Str):decide ((Sum.inr a:Key)=Sum.inr b)=decide (a=b):=by
 by_cases e:a=b
 ·subst e;simp
 ·have h:¬(Sum.inr a:Key)=Sum.inr b:=fun q=>e (Sum.inr.inj q)
  rw[decide_eq_false h,decide_eq_false e]
theorem yf(a:Int)(b:Str):decide ((Sum.inl a:Key)=Sum.inr b)=false:=decide_eq_false (fun q=>nomatch q)
theorem ye(a:Str)(b:Int):decide ((Sum.inr a:Key)=Sum.inl b)=false:=decide_eq_false (fun q=>nomatch q)
noncomputable def bD(prog:Program)(w:World):PySem.KeyKind prog w Key where
 is:=ky
 hash:=BJ w
 inj:=fun v a b ha hb=>by
  rcases bE ha with⟨i,t,rfl,rfl⟩|⟨x,t,rfl,rfl⟩
  ·rcases bE hb with⟨j,u,rfl,e⟩|⟨y,u,rfl,e⟩
   ·injection e with e1 _;rw[e1]
   ·exact nomatch e
  ·rcases bE hb with⟨j,u,rfl,e⟩|⟨y,u,rfl,e⟩
   ·exact nomatch e
   ·injection e with e1 _;rw[e1]
 byValue:=fun k v h=>by
  rcases bE h with⟨i,t,rfl,rfl⟩|⟨x,t,rfl,rfl⟩<;>rfl
 pyHash:=fun hv h=>by
  rcases bE hv with⟨i,t,rfl,rfl⟩|⟨x,t,rfl,rfl⟩
  ·exact wpAny_pyHash_int h
  ·exact wpAny_pyHash_str h
 eqBool:=fun hu hv h=>by
  rcases bE hu with⟨i,t,rfl,rfl⟩|⟨x,t,rfl,rfl⟩
  ·rcases bE hv with⟨j,u,rfl,rfl⟩|⟨y,u,rfl,rfl⟩
   ·rw[yg] at h;exact wpAny_eqBool_int h
   ·rw[yf] at h;exact SeqAt.EqAt.int_str i t y u _ _ _ _ h
  ·rcases bE hv with⟨j,u,rfl,rfl⟩|⟨y,u,rfl,rfl⟩
   ·rw[ye] at h;exact SeqAt.EqAt.str_int x t j u _ _ _ _ h
   ·rw[yc] at h;exact wpAny_eqBool_str h
 «strs»:=fun k x t v h=>by
  rcases bE h with⟨i,u,rfl,e⟩|⟨y,u,rfl,e⟩
  ·exact nomatch e
  ·injection e with e1 _
   subst e1
   cases v<;>rfl
theorem mM(prog:Program)(w:World)(i:Int)(t:Tok):(bD prog w).is (.inl i) (.int i t)=true:=qg i t
theorem mL(prog:Program)(w:World)(x:Str)(t:Tok):(bD prog w).is (.inr x) (.str x t)=true:=h_ x t
inductive V where
 |non|bl (b:Bool)|int (i:Int)|str (x:Str)|byt (b:Array UInt8)|flt (b:UInt64)|ref (a:Addr)|ty (n:String)
 deriving DecidableEq
noncomputable def RelV:V→Value→Prop
 | .non,u=>u=Value.none
 | .bl b,u=>u=Value.bool b
 | .int i,u=>∃t,u=Value.int i t
 | .str x,u=>∃t,u=Value.str x t
 | .byt b,u=>∃t,u=Value.bytes b t
 | .flt b,u=>∃t,u=Value.float b t
 | .ref a,u=>u=Value.ref a
 | .ty n,u=>u=Value.type n
noncomputable abbrev bf:List V→List Value→Prop:=Paired RelV
theorem bf.length{xs:List V}(r:bf xs us):xs.length=us.length:=Paired.length r
theorem bf.get:∀{xs:List V}{us:List Value}{i:Nat}{x:V},bf xs us→xs[i]? =some x→∃u,us[i]? =some u∧RelV x u
 |_,_,_,_,.nil,e=>by simp at e
 |_,_,0,_,.cons r _,e=>by simp at e;subst e;exact⟨_,rfl,r⟩
 |_,_,i+1,x,.cons _ t,e=>by
  obtain⟨u,h1,h2⟩:=bf.get (i:=i) (x:=x) t (by simpa using e)
  exact⟨u,by simpa using h1,h2⟩
theorem bf.set{x:V}(r:RelV x u):∀{xs:List V}{us:List Value}(i:Nat),bf xs us→bf (xs.set i x) (us.set i u)
 |_,_,_,.nil=>.nil
 |_,_,0,.cons _ t=>.cons r t
 |_,_,i+1,.cons q t=>.cons q (bf.set r i t)
theorem bf.append:∀{xs ys:List V}{us ws:List Value},bf xs us→bf ys ws→bf (xs++ys) (us++ws)
 |_,_,_,_,.nil,s=>s
 |_,_,_,_,.cons r t,s=>.cons r (bf.append t s)
theorem bf.take:∀{xs:List V}{us:List Value}(n:Nat),bf xs us→bf (xs.take n) (us.take n)
 |_,_,0,_=>.nil
 |_,_,_+1,.nil=>.nil
 |_,_,n+1,.cons r t=>.cons r (bf.take n t)
theorem bf.drop:∀{xs:List V}{us:List Value}(n:Nat),bf xs us→bf (xs.drop n) (us.drop n)
 |_,_,0,r=>r
 |_,_,_+1,.nil=>.nil
 |_,_,n+1,.cons _ t=>bf.drop n t
noncomputable def et:Option V→Option Value→Prop
 |some v,some u=>RelV v u
 |none,none=>True
 |_,_=>False
noncomputable def KV{κ:Type}:List (κ×V)→List (κ×Value)→Prop:=Paired fun(p:κ×V)(q:κ×Value)=>p.1=q.1∧RelV p.2 q.2
noncomputable def kV:Key→V
 | .inl i=>.int i
 | .inr x=>.str x
inductive HO where
 |lst (xs:List V)
 |tup (xs:List V)
 |dK (kvs:List (Key×V))|dT (kvs:List (List Key×V))
 |set (S:Int→Bool)(n:Nat)
 |ins (C dx:Addr)(fs:List (Str×V))
 |own (x:Addr)
 |xd (fs:List (Str×V))
 |met (f x:Addr)
 |rng (lo hi:Int)
 |frz (o:Obj)(u:HO)
 |tbl (ps:Array Value)
 |ext (φ:Heap→Prop)
noncomputable abbrev Hp:=Addr→Option HO
noncomputable def bj(H:Hp)(a:Addr)(o:HO):Hp:=fun b=>if b=a then some o else H b
theorem ba{H:Hp}{o:HO}:bj H a o a=some o:=by unfold bj;rw[if_pos rfl]
theorem av{H:Hp}{o:HO}(h:b≠a):bj H a o b=H b:=by unfold bj;rw[if_neg h]
theorem dR{H:Hp}{o u:HO}(h:H a=some o)(h':H b=some u)(d:o≠u):a≠b:=by
 intro e;subst e;rw[h] at h';exact d (ag h')
theorem au{H:Hp}{o:HO}(h:H a=some o)(h':H b=none):a≠b:=by
 intro e;subst e;rw[h] at h';cases h'
section
variable(P:Program)(w:World)
noncomputable def bI(H:Hp)(h:Heap)(a:Addr):HO→Prop
 | .lst xs=>xs.length≤sizeLine∧∃(its:List Value)(n:Nat),bf xs its∧h.get? a=some {cls:= .type "list",data:= .seq its.toArray n}
 | .tup xs=>xs.length≤sizeLine∧∃its:List Value,bf xs its∧IsTup h a its.toArray
 | .dK kvs=>kvs.length≤sizeLine∧(a==sysModules)=false∧∃vs,KV kvs vs∧h.DictOf (bD P w) a vs
 | .dT kvs=>kvs.length≤sizeLine∧(a==sysModules)=false∧∃xs:List (List Key×Addr×Value),
   Paired (fun(p:List Key×V)(q:List Key×Addr×Value)=>p.1=q.1∧H q.2.1=some (.tup (p.1.map kV))∧RelV p.2 q.2.2) kvs xs∧
   ∃o es ep,h.get? a=some o∧o.ExactDict∧o.data=.dict es ep∧es.toList=xs.map (entryOfKey (tupleKind (bD P w)))∧(xs.map (·.1)).Nodup
 | .set S n=>h.SetOf (intKind P w) a S n
 | .ins C dx fs=>H dx=some (.own a)∧fs.length≤1000∧dx≠a∧h.get? a=some (PySem.W.instObj C dx)∧
   ∃mA,h.Ns1 dx mA∧(∀f,et (fs.lookup f) (mA f))∧PySem.Within mA (fs.map (·.1))
 | .own _=>∃o,h.get? a=some o
 | .xd fs=>∃mA,h.Ns1 a mA∧∀f,et (fs.lookup f) (mA f)
 | .rng lo hi=>∃t u v,h.get? a=some {cls:= .type "range",data:= .fields #[.int lo t,.int hi u,.int 1 v]}
 | .frz o u=>h.get? a=some o∧bI H h a u
 | .tbl ps=>h.get? a=some {cls:= .none,data:= .fields ps}
 | .met f x=>h.get? a=some (PySem.W.methodObj (.ref f) (.ref x))
 | .ext φ=>φ h∧(∃o,h.get? a=some o)∧∀h1 h2:Heap,φ h1→(∀o,h1.get? a=some o→h2.get? a=some o)→φ h2
noncomputable def fS(H:Hp)(h:Heap):Prop:=∀a o,H a=some o→bI P w H h a o
end
section
variable{P:Program}{w:World}{H H':Hp}{h h':Heap}{a:Addr}{o:HO}
theorem bI.lt(x:bI P w H h a o):a<h.objs.size:=by
 cases o with
 |lst xs=>obtain⟨_,_,_,_,e⟩:=x;exact ah e
 |tup xs=>obtain⟨_,_,_,p⟩:=x;exact p.lt
 |dK kvs=>obtain⟨_,_,_,_,o,_,_,e,_⟩:=x;exact ah e
 |dT kvs=>obtain⟨_,_,_,_,o,_,_,e,_⟩:=x;exact ah e
 |set S n=>obtain⟨o,_,_,_,e,_⟩:=x;exact ah e
 |ins C dx fs=>obtain⟨_,_,_,e,_⟩:=x;exact ah e
 |own y=>obtain⟨_,e⟩:=x;exact ah e
 |xd fs=>obtain⟨_,⟨_,_,_,e,_⟩,_⟩:=x;exact ah e
 |rng lo hi=>obtain⟨_,_,_,e⟩:=x;exact ah e
 |frz ob u=>obtain⟨e,_⟩:=x;exact ah e
 |tbl ps=>exact ah (show h.get? a=some _ from x)
 |met f y=>exact ah (show h.get? a=some _ from x)
 |ext φ=>obtain⟨_,⟨_,e⟩,_⟩:=x;exact ah e
theorem Paired.mapP{α β:Type}{F G:α→β→Prop}:∀{l₁:List α}{l₂:List β},Paired F l₁ l₂→(∀a b,F a b→G a b)→Paired G l₁ l₂
 |_,_,.nil,_=>.nil
 |_,_,.cons r t,f=>.cons (f _ _ r) (Paired.mapP t f)
theorem bI.stay(x:bI P w H h a o)(k:∀b u,(b=a∨H b=some (.own a))→h.get? b=some u→h'.get? b=some u)
  (ho:∀b,H b=some (.own a)→H' b=some (.own a))(ht:∀b xs,H b=some (.tup xs)→H' b=some (.tup xs)):bI P w H' h' a o:=by
 induction o with
 |lst xs=>obtain⟨z,its,n,r,e⟩:=x;exact⟨z,its,n,r,k _ _ (.inl rfl) e⟩
 |tup xs=>obtain⟨z,its,r,ob,e,c⟩:=x;exact⟨z,its,r,ob,k _ _ (.inl rfl) e,c⟩
 |dK kvs=>obtain⟨z,y,vs,r,ob,es,ep,e,c⟩:=x;exact⟨z,y,vs,r,ob,es,ep,k _ _ (.inl rfl) e,c⟩
 |dT kvs=>
  obtain⟨z,y,xs,r,ob,es,ep,e,c⟩:=x
  exact⟨z,y,xs,Paired.mapP r fun p q z=>⟨z.1,ht _ _ z.2.1,z.2.2⟩,ob,es,ep,k _ _ (.inl rfl) e,c⟩
 |set S n=>obtain⟨ob,es,ep,t,e,c⟩:=x;exact⟨ob,es,ep,t,k _ _ (.inl rfl) e,c⟩
 |ins C dx fs=>
  obtain⟨d,z,ne,e,mA,⟨od,es,ep,e2,c⟩,r⟩:=x
  exact⟨ho _ d,z,ne,k _ _ (.inl rfl) e,mA,⟨od,es,ep,k _ _ (.inr d) e2,c⟩,r⟩
 |own y=>obtain⟨ob,e⟩:=x;exact⟨ob,k _ _ (.inl rfl) e⟩
 |xd fs=>obtain⟨mA,⟨od,es,ep,e,c⟩,r⟩:=x;exact⟨mA,⟨od,es,ep,k _ _ (.inl rfl) e,c⟩,r⟩
 |rng lo hi=>obtain⟨t,u,v,e⟩:=x;exact⟨t,u,v,k _ _ (.inl rfl) e⟩
 |frz ob u ih=>obtain⟨e,q⟩:=x;exact⟨k _ _ (.inl rfl) e,ih q⟩
 |tbl ps=>
  have e:h.get? a=some {cls:= .none,data:= .fields ps}:=x
  show h'.get? a=some {cls:= .none,data:= .fields ps}
  exact k a _ (.inl rfl) e
 |met f y=>
  have e:h.get? a=some (PySem.W.methodObj (.ref f) (.ref y)):=x
  show h'.get? a=some (PySem.W.methodObj (.ref f) (.ref y))
  exact k a _ (.inl rfl) e
 |ext φ=>obtain⟨p,⟨o,e⟩,st⟩:=x;exact⟨st _ _ p fun o q=>k _ _ (.inl rfl) q,⟨o,k _ _ (.inl rfl) e⟩,st⟩
theorem fS.lt(x:fS P w H h)(e:H a=some o):a<h.objs.size:=(x a o e).lt
theorem fS.fresh(x:fS P w H h)(e:h.objs.size≤a):H a=none:=by
 cases q:H a with
 |none=>rfl
 |some u=>exact absurd (ao (x.lt q) e) (bg _)
theorem fS.kept(x:fS P w H h)(k:∀b u,h.get? b=some u→h'.get? b=some u):fS P w H h':=fun a o e=>
 (x a o e).stay (fun b u _ q=>k b u q) (fun _ q=>q) fun _ _ q=>q
theorem fS.laid(x:fS P w H h)(k:∀b u,h.get? b=some u→h'.get? b=some u)(hp:h.objs.size≤a)(new:bI P w (bj H a o) h' a o):fS P w (bj H a o) h':=fun b u e=>by
 have hn:=x.fresh hp
 by_cases hb:b=a
 ·subst hb;rw[ba] at e;cases e;exact new
 ·rw[av hb] at e
  exact(x b u e).stay (fun c v _ q=>k c v q) (fun c q=>by rw[av (au q hn)];exact q) fun c xs q=>by rw[av (au q hn)];exact q
end
noncomputable def Rd(H:Hp)(a:Addr)(u:HO):Prop:=H a=some u∨∃o,H a=some (.frz o u)
theorem Rd.ok{H:Hp}{u:HO}(r:Rd H a u)(x:fS P w H h):bI P w H h a u:=by
 rcases r with r|⟨o,r⟩
 ·exact x a u r
 ·obtain⟨_,q⟩:=x a _ r
  exact q
noncomputable def AW:Option HO→Prop
 |some (.lst _)=>True
 |some (.dK _)=>True
 |some (.dT _)=>True
 |some (.set _ _)=>True
 |some (.ins _ _ _)=>True
 |some (.ext _)=>True
 |_=>False
section
variable{P:Program}{w:World}{H:Hp}{h h':Heap}{x e:Addr}{o':HO}
theorem fS.write(ok:fS P w H h)(mu:AW (H x))(he:e=x∨H e=some (.own x))(k:∀b u,b≠e→h.get? b=some u→h'.get? b=some u)(heo:∃u,h'.get? e=some u)
  (new:bI P w (bj H x o') h' x o'):fS P w (bj H x o') h':=fun b u q=>by
 have nown:∀c y,H c=some (.own y)→c≠x:=fun c y r z=>by subst z;rw[r] at mu;exact mu
 have ntup:∀c xs,H c=some (.tup xs)→c≠x:=fun c xs r z=>by subst z;rw[r] at mu;exact mu
 by_cases hb:b=x
 ·subst hb;rw[ba] at q;cases q;exact new
 ·rw[av hb] at q
  by_cases hbe:b=e
  ·have q':H b=some (.own x):=by
    rcases he with z|z
    ·exact absurd (hbe.trans z) hb
    ·rw[hbe];exact z
   rw[q] at q';cases q'
   obtain⟨v,hv⟩:=heo
   exact⟨v,by rw[hbe];exact hv⟩
  ·refine(ok b u q).stay (fun c v hc r=>k c v ?_ r) (fun c r=>by rw[av (nown c b r)];exact r) fun c xs r=>by rw[av (ntup c xs r)];exact r
   rcases hc with rfl|hc
   ·exact hbe
   ·rintro rfl
    rcases he with z|z
    ·exact nown c b hc z
    ·rw[hc] at z;cases z;exact hb rfl
end
structure Un(fs ex:List Addr)(H H':Hp)(h h':Heap):Prop where
 keep:∀b o,h.get? b=some o→H b=none→b∉fs→b∉ex→h'.get? b=some o
 slot:∀b o,h.get? b=some o→H b=none→b∈fs→b∉ex→∃sl,h'.get? b=some {o with slots:=sl}
 free:∀b o,h.get? b=some o→H b=none→b∉ex→H' b=none
 there:∀b o,h.get? b=some o→b∉ex→∃o',h'.get? b=some o'
 tups:∀b xs,H b=some (.tup xs)→H' b=some (.tup xs)
 frzs:∀b o u,H b=some (.frz o u)→H' b=some (.frz o u)
 tbls:∀b ps,H b=some (.tbl ps)→∃more,H' b=some (.tbl (ps++more))
section
variable{fs ex:List Addr}{H H1:Hp}{h h1 h':Heap}{a x e:Addr}{o:HO}
theorem Un.any(u:Un fs ex H H1 h h1){ob:Obj}(q:h.get? b=some ob)(n:H b=none)(hx:b∉ex):∃sl,h1.get? b=some {ob with slots:=sl}:=by
 by_cases hb:b∈fs
 ·exact u.slot b ob q n hb hx
 ·exact⟨ob.slots,u.keep b ob q n hb hx⟩
theorem Un.kept(k:∀b u,h.get? b=some u→h'.get? b=some u):Un fs ex H H h h':=
 ⟨fun b ob q _ _ _=>k b ob q,fun b ob q _ _ _=>⟨ob.slots,k b ob q⟩,fun _ _ _ n _=>n,fun b ob q _=>⟨ob,k b ob q⟩,fun _ _ q=>q,fun _ _ _ q=>q,fun _ ps q=>⟨#[],by rw[q];simp⟩⟩
theorem Un.refl:Un fs ex H H h h:=Un.kept fun _ _ q=>q
theorem Un.laid(k:∀b u,h.get? b=some u→h'.get? b=some u)(hp:h.objs.size≤a)(hn:H a=none):Un fs ex H (bj H a o) h h' where
 keep:=fun b u q _ _ _=>k b u q
 slot:=fun b u q _ _ _=>⟨u.slots,k b u q⟩
 free:=fun b u q n _=>by rw[av (ai (ao (ah q) hp))];exact n
 there:=fun b u q _=>⟨u,k b u q⟩
 tups:=fun b xs q=>by rw[av (au q hn)];exact q
 frzs:=fun b u xs q=>by rw[av (au q hn)];exact q
 tbls:=fun b ps q=>⟨#[],by rw[av (au q hn),q];simp⟩
theorem Un.write(mu:AW (H x))(he:e=x∨H e=some (.own x))(k:∀b u,b≠e→h.get? b=some u→h'.get? b=some u)(heo:∃u,h'.get? e=some u):Un fs ex H (bj H x o) h h':=by
 have hx:∀b,H b=none→b≠x:=fun b n z=>by subst z;rw[n] at mu;exact mu
 have hb:∀b,H b=none→b≠e:=fun b n z=>by
  subst z
  rcases he with r|r
  ·exact hx b n r
  ·rw[n] at r;cases r
 have hm:∀b u,H b=some u→¬AW (some u)→b≠x:=fun b u q nm z=>by subst z;rw[q] at mu;exact nm mu
 refine⟨fun b u q n _ _=>k b u (hb b n) q,fun b u q n _ _=>⟨u.slots,k b u (hb b n) q⟩,fun b u q n _=>by rw[av (hx b n)];exact n,fun b u q _=>?_,
  fun b xs q=>by rw[av (hm b _ q fun z=>z)];exact q,fun b u xs q=>by rw[av (hm b _ q fun z=>z)];exact q,fun b ps q=>⟨#[],by rw[av (hm b _ q fun z=>z),q];simp⟩⟩
 by_cases hbe:b=e
 ·subst hbe;exact heo
 ·exact⟨u,k b u hbe q⟩
end
noncomputable def A1(h:Heap)(H:Hp):List Addr:=(List.range h.objs.size).filter fun a=>(H a).isSome
noncomputable def l3(h:Heap)(H:Hp):Heap:=PySem.W.hideAll h (A1 h H)
theorem qj(h:Heap)(H:Hp):(l3 h H).objs.size=h.objs.size:=PySem.W.hideAll_size _ _
theorem sQ{H:Hp}(e:h.get? b=some o)(n:H b=none):(l3 h H).get? b=some o:=
 PySem.W.hideAll_get _ e fun hm=>by
  have q:(H b).isSome=true:=(List.mem_filter.mp hm).2
  rw[n] at q;simp at q
theorem vG{H:Hp}(e:(l3 h H).get? b=some o):h.get? b=some o∧H b=none:=by
 have e':h.get? b=some o:=PySem.W.of_hideAll (A1 h H) e
 refine⟨e',?_⟩
 cases q:H b with
 |none=>rfl
 |some x=>
  have hm:b∈A1 h H:=List.mem_filter.mpr ⟨List.mem_range.mpr (ah e'),by simp[q]⟩
  have z:(l3 h H).get? b=none:=PySem.W.hideAll_none (A1 h H) hm
  rw[z] at e;cases e
noncomputable def wm(g h:Heap)(L:Addr):List (Addr×Obj):=(List.range h.objs.size).filterMap fun a=>if a=L∨(g.get? a).isSome=true then none else(h.get? a).map fun o=>(a,o)
noncomputable def rest(g h:Heap)(L d:Addr):List (Addr×Obj):=(wm g h L).filter fun p=>decide (p.1≠d)
structure Mod(K:al)(mg:Str→Option Value)(base:Heap):Prop where
 kin:K.In base
 glob:base.Ns mainGlobals mg
 blt:∃mb,base.Ns builtinsNs mb∧∀x:Str,x≠ "__name__" →mb x=bootBuiltins x
 nolimit:base.NoLimit
structure Cx where
 prog:Program
 w:World
 K:al
 mg:Str→Option Value
 base:Heap
 A:Around
 N:List Str
 s₀:Shared
 H₀:Hp
 env:Env
 outer:List Env
 stack:List Env
 ex:List Addr
 fn:Str→Bool
 calm:Bool
 pn:List (Addr×Obj)
 xe:Value→Shared→Prop
noncomputable def eE(l:List Env):List Addr:=l.filterMap (·.frame)
noncomputable abbrev Cx.fs(X:Cx):List Addr:=eE X.outer
noncomputable def AR(sc:Scope)(x:Str):Prop:=sc.names.lookup x=some .local∨sc.names.lookup x=some .cell∨sc.names.lookup x=some .free
noncomputable def Loc(sc:Scope)(x:Str):Prop:=sc.names.lookup x=some .local∨sc.names.lookup x=some .cell
noncomputable def Look(env:Env)(h:Heap)(m:Str→Option Value)(x:Str)(u:Value):Prop:=
 (env.kindOf x=some .local∧m x=some u)∨((env.kindOf x=some .cell∨env.kindOf x=some .free)∧∃c,env.cells.lookup x=some c∧h.IsCell c (some u))
structure Cx.Ok(X:Cx):Prop where
 mod:Mod X.K X.mg X.base
 kind:X.env.scope.kind=.function
 glob:X.env.globals=mainGlobals
 blt:X.env.builtins=builtinsNs
 above:X.s₀.heap.objs.size≤X.env.locals
 inj:∀x y c,X.env.cells.lookup x=some c→X.env.cells.lookup y=some c→x=y
 has:∀x,(X.env.kindOf x=some .cell∨X.env.kindOf x=some .free)→∃c,X.env.cells.lookup x=some c
 cab:∀x c,X.fn x=true→X.env.cells.lookup x=some c→X.s₀.heap.objs.size≤c
 hd:X.calm=true→X.A.handled=none
 frames:X.A.frames=some X.stack
 stk:X.stack=X.outer∨(X.stack=X.env::X.outer∧X.env.frame=some X.env.locals)
 exf:∀b∈X.ex,b≠X.env.locals∧∀x c,X.env.cells.lookup x=some c→c≠b
 bs:∀b o,X.base.get? b=some o→X.s₀.heap.get? b=some o∧X.H₀ b=none
 bsz:X.base.objs.size≤X.s₀.heap.objs.size
 noex:∀b o,X.base.get? b=some o→b∉X.ex
 exfs:∀b∈X.ex,b∉X.fs
 funs:X.s₀.heap.FunFrames X.base X.outer
 frf:∀b∈X.fs,X.H₀ b=none
structure Inv(X:Cx)(pins:List (Addr×Obj))(σ:List (Option V))(H:Hp)(s:Shared):Prop where
 ok:X.Ok
 os:s.os=X.s₀.os
 bare:AllBare s.gens
 base:Un X.fs X.ex X.H₀ H X.s₀.heap s.heap
 loc:∃m,s.heap.Ns X.env.locals m∧∀(i:Nat)(x:Str)(v:V),X.N[i]? =some x→σ[i]? =some (some v)→AR X.env.scope x→∃u,RelV v u∧Look X.env s.heap m x u
 cell:∀x c,X.env.cells.lookup x=some c→∃v,s.heap.IsCell c v
 free:H X.env.locals=none
 freeC:∀x c,X.env.cells.lookup x=some c→H c=none
 pin:∀p∈X.pn++pins,s.heap.get? p.1=some p.2∧H p.1=none∧p.1≠X.env.locals∧p.1∉X.fs∧∀v,p.2.data≠ .cell v
 hok:fS X.prog X.w H s.heap
 len:σ.length=X.N.length
section
variable{X:Cx}{pins:List (Addr×Obj)}{σ:List (Option V)}{H H':Hp}{s:Shared}{h':Heap}
theorem Cx.Ok.nofr(ok:X.Ok)(e:X.base.get? b=some o):b∉X.fs:=fun hb=>by
 have:=(ok.funs.mem hb).1
 rw[e] at this;cases this
theorem Inv.bs(I:Inv X pins σ H s):∀b o,X.base.get? b=some o→s.heap.get? b=some o∧H b=none:=fun b o e=>
 ⟨I.base.keep b o (I.ok.bs b o e).1 (I.ok.bs b o e).2 (I.ok.nofr e) (I.ok.noex b o e),I.base.free b o (I.ok.bs b o e).1 (I.ok.bs b o e).2 (I.ok.noex b o e)⟩
theorem Inv.bk(I:Inv X pins σ H s):∀b o,X.base.get? b=some o→s.heap.get? b=some o:=fun b o e=>(I.bs b o e).1
theorem Inv.mod(I:Inv X pins σ H s):Mod X.K X.mg X.base:=I.ok.mod
theorem Inv.kIn(I:Inv X pins σ H s):X.K.In s.heap:=I.ok.mod.kin.keeps I.bk
theorem Inv.lt(I:Inv X pins σ H s):X.env.locals<s.heap.objs.size:=let⟨_,hn,_⟩:=I.loc;hn.lt
theorem Inv.sz(I:Inv X pins σ H s):X.s₀.heap.objs.size≤s.heap.objs.size:=aI I.ok.above (Nat.le_of_lt I.lt)
theorem Inv.nofs(I:Inv X pins σ H s)(h:s.heap.objs.size≤a):a∉X.fs:=fun hb=>by
 obtain⟨_,o,ho,_⟩:=I.ok.funs.mem hb
 exact absurd (ao (ah ho) (aI I.sz h)) (bg _)
theorem Inv.cne(I:Inv X pins σ H s):∀x c,X.env.cells.lookup x=some c→c≠X.env.locals:=fun x c e z=>by
 obtain⟨v,o,ho,hd⟩:=I.cell x c e
 obtain⟨m,⟨o',es,ep,ho',hd',_⟩,_⟩:=I.loc
 rw[z,ho'] at ho;cases ho;rw[hd'] at hd;cases hd
theorem Inv.funs(I:Inv X pins σ H s):s.heap.FunFrames X.base X.outer:=by
 have all:∀(l:List Env),(∀b∈eE l,b∈X.fs)→X.s₀.heap.FunFrames X.base l→s.heap.FunFrames X.base l:=by
  intro l
  induction l with
  |nil=>intro _ _;trivial
  |cons env r ih=>
   intro hs hl
   obtain⟨hk,⟨L,o,hf,hn,ho,hd⟩,hr⟩:=hl
   have hL:L∈X.fs:=hs L (by unfold eE;rw[List.filterMap_cons,hf];exact List.mem_cons_self)
   obtain⟨sl,e⟩:=I.base.slot L o ho (I.ok.frf L hL) hL fun z=>I.ok.exfs L z hL
   exact⟨hk,⟨L,_,hf,hn,e,hd⟩,ih (fun b hb=>hs b (by unfold eE;rw[List.filterMap_cons,hf];exact List.mem_cons_of_mem _ hb)) hr⟩
 exact all X.outer (fun _ hb=>hb) I.ok.funs
theorem Inv.stack(I:Inv X pins σ H s):s.heap.FunFrames X.base X.stack:=by
 rcases I.ok.stk with e|⟨e,hf⟩
 ·rw[e];exact I.funs
 ·rw[e]
  obtain⟨m,hn,_⟩:=I.loc
  refine .cons (by rw[I.ok.kind];decide) hf hn ?_ I.funs
  exact Heap.get?_none_of_le (aI I.ok.bsz I.ok.above)
theorem Inv.stkSub(I:Inv X pins σ H s):∀b∈eE X.stack,b∈X.env.locals::X.fs:=fun b hb=>by
 rcases I.ok.stk with e|⟨e,hf⟩
 ·rw[e] at hb;exact List.mem_cons_of_mem _ hb
 ·rw[e] at hb
  unfold eE at hb
  rw[List.filterMap_cons,hf] at hb
  exact hb
theorem Inv.stkFree(I:Inv X pins σ H s):∀b∈eE X.stack,H b=none:=fun b hb=>by
 rcases List.mem_cons.mp (I.stkSub b hb) with e|hb
 ·rw[e];exact I.free
 ·obtain⟨_,o,ho,_⟩:=I.ok.funs.mem hb
  exact I.base.free b o ho (I.ok.frf b hb) fun z=>I.ok.exfs b z hb
theorem Inv.step{g':Array GenState}{d':Drawn}(I:Inv X pins σ H s)
  (hch:∀b∈ch,(b∈X.ex∨X.s₀.heap.objs.size≤b)∧b≠X.env.locals∧(∀x c,X.env.cells.lookup x=some c→c≠b)∧∀p∈X.pn++pins,p.1≠b)
  (keep:∀b o,b≠X.env.locals→b∉X.fs→b∉ch→s.heap.get? b=some o→H b=none→h'.get? b=some o)
  (slot:∀b o,b≠X.env.locals→b∈X.fs→b∉ch→s.heap.get? b=some o→H b=none→∃sl,h'.get? b=some {o with slots:=sl})(free:∀b o,b∉ch→s.heap.get? b=some o→H b=none→H' b=none)
  (there:∀b o,b∉ch→s.heap.get? b=some o→∃o',h'.get? b=some o')
  (tups:∀b xs,H b=some (.tup xs)→H' b=some (.tup xs))(frzs:∀b o u,H b=some (.frz o u)→H' b=some (.frz o u))(tbls:∀b ps,H b=some (.tbl ps)→∃more,H' b=some (.tbl (ps++more)))
  (ns:∀m,s.heap.Ns X.env.locals m→h'.Ns X.env.locals m)(hok:fS X.prog X.w H' h')(hg:AllBare g'):
  Inv X pins σ H' {s with heap:=h',gens:=g',drawn:=d',toks:=t'}:=by
 have neL:∀b o,X.s₀.heap.get? b=some o→b≠X.env.locals:=fun b o e=>ai (ao (ah e) I.ok.above)
 have neC:∀b o,X.s₀.heap.get? b=some o→b∉X.ex→b∉ch:=fun b o e hx hb=>by
  rcases(hch b hb).1 with z|z
  ·exact hx z
  ·exact absurd (ao (ah e) z) (bg _)
 have cellK:∀x c,X.env.cells.lookup x=some c→∀v,s.heap.IsCell c v→h'.IsCell c v:=fun x c e v hp=>by
  obtain⟨o,ho,hd⟩:=hp
  have nch:c∉ch:=fun z=>(hch c z).2.2.1 x c e rfl
  by_cases hc:c∈X.fs
  ·obtain⟨sl,q⟩:=slot c o (I.cne x c e) hc nch ho (I.freeC x c e)
   exact⟨_,q,hd⟩
  ·exact⟨o,keep c o (I.cne x c e) hc nch ho (I.freeC x c e),hd⟩
 refine⟨I.ok,I.os,hg,⟨fun b o e n hb hx=>?_,fun b o e n hb hx=>?_,fun b o e n hx=>?_,fun b o e hx=>?_,fun b xs e=>tups b xs (I.base.tups b xs e),fun b o xs e=>frzs b o xs (I.base.frzs b o xs e),fun b ps e=>?_⟩,?_,fun x c e=>?_,?_,fun x c e=>?_,fun p hp=>?_,hok,I.len⟩
 ·exact keep b o (neL b o e) hb (neC b o e hx) (I.base.keep b o e n hb hx) (I.base.free b o e n hx)
 ·obtain⟨sl,e1⟩:=I.base.slot b o e n hb hx
  obtain⟨sl',e2⟩:=slot b _ (neL b o e) hb (neC b o e hx) e1 (I.base.free b o e n hx)
  exact⟨sl',e2⟩
 ·obtain⟨o',e1⟩:=I.base.there b o e hx
  exact free b o' (neC b o e hx) e1 (I.base.free b o e n hx)
 ·obtain⟨o',e1⟩:=I.base.there b o e hx
  exact there b o' (neC b o e hx) e1
 ·obtain⟨m1,e1⟩:=I.base.tbls b ps e
  obtain⟨m2,e2⟩:=tbls b _ e1
  exact⟨m1++m2,by rw[e2,Array.append_assoc]⟩
 ·obtain⟨m,hn,hl⟩:=I.loc
  refine⟨m,ns m hn,fun i x v e1 e2 e3=>?_⟩
  obtain⟨u,r,l⟩:=hl i x v e1 e2 e3
  refine⟨u,r,?_⟩
  rcases l with l|⟨k,c,e,z⟩
  ·exact .inl l
  ·exact .inr ⟨k,c,e,cellK x c e _ z⟩
 ·obtain⟨v,z⟩:=I.cell x c e
  exact⟨v,cellK x c e v z⟩
 ·obtain⟨m,⟨o,_,_,ho,_⟩,_⟩:=I.loc
  exact free _ o (fun z=>(hch _ z).2.1 rfl) ho I.free
 ·obtain⟨v,o,ho,hd⟩:=I.cell x c e
  exact free c o (fun z=>(hch c z).2.2.1 x c e rfl) ho (I.freeC x c e)
 ·obtain⟨e,n,ne,nf,d⟩:=I.pin p hp
  have nch:p.1∉ch:=fun z=>(hch p.1 z).2.2.2 p hp rfl
  exact⟨keep p.1 p.2 ne nf nch e n,free p.1 p.2 nch e n,ne,nf,d⟩
theorem Inv.un(I:Inv X pins σ H s)(u:Un X.fs [] H H' s.heap h')(hok:fS X.prog X.w H' h'):Inv X pins σ H' {s with heap:=h',toks:=t'}:=by
 obtain⟨m,⟨o,es,ep,ho,r⟩,_⟩:=id I.loc
 obtain⟨sl,hL⟩:=u.any ho I.free (by simp)
 exact I.step (g':=s.gens) (d':=s.drawn) (ch:=[]) (fun _ z=>nomatch z) (fun b o _ hb _ e n=>u.keep b o e n hb (by simp)) (fun b o _ hb _ e n=>u.slot b o e n hb (by simp)) (fun b o _ e n=>u.free b o e n (by simp)) (fun b o _ e=>u.there b o e (by simp)) u.tups u.frzs u.tbls (fun m' hm=>by
  obtain⟨o',es',ep',ho',r'⟩:=hm
  rw[ho] at ho';cases ho'
  exact⟨_,es',ep',hL,r'⟩) hok I.bare
theorem Inv.call{g':Array GenState}{d':Drawn}(I:Inv X pins σ H s)(u:Un (eE X.stack) ch H H' s.heap h')(hok:fS X.prog X.w H' h')(hg:AllBare g')
  (hch:∀b∈ch,(b∈X.ex∨X.s₀.heap.objs.size≤b)∧b≠X.env.locals∧(∀x c,X.env.cells.lookup x=some c→c≠b)∧∀p∈X.pn++pins,p.1≠b):
  Inv X pins σ H' {s with heap:=h',gens:=g',drawn:=d',toks:=t'}:=by
 obtain⟨m,⟨o,es,ep,ho,r⟩,_⟩:=id I.loc
 obtain⟨sl,hL⟩:=u.any ho I.free fun z=>(hch _ z).2.1 rfl
 exact I.step (ch:=ch) hch (fun b o hL hb hc e n=>u.keep b o e n (fun z=>(List.mem_cons.mp (I.stkSub b z)).elim hL hb) hc) (fun b o _ _ hc e n=>u.any e n hc) (fun b o hc e n=>u.free b o e n hc) (fun b o hc e=>u.there b o e hc) u.tups u.frzs u.tbls (fun m' hm=>by
  obtain⟨o',es',ep',ho',r'⟩:=hm
  rw[ho] at ho';cases ho'
  exact⟨_,es',ep',hL,r'⟩) hok hg
theorem Inv.turned(I:Inv X pins σ H s)(k:∀b o,b≠it→s.heap.get? b=some o→h'.get? b=some o)(hn:H it=none)(hL:it≠X.env.locals)
  (h1:it∈X.ex∨X.s₀.heap.objs.size≤it)(h2:∀x c,X.env.cells.lookup x=some c→c≠it)(h3:∀p∈X.pn++pins,p.1≠it):Inv X pins σ H {s with heap:=h',toks:=t'}:=by
 have nit:∀b u,H b=some u→b≠it:=fun b u e z=>by rw[z,hn] at e;cases e
 refine I.step (g':=s.gens) (d':=s.drawn) (ch:=[it]) (fun b hb=>?_) (fun b o _ _ hc e _=>k b o (fun z=>hc (by simp[z])) e) (fun b o _ _ hc e _=>⟨o.slots,k b o (fun z=>hc (by simp[z])) e⟩) (fun _ _ _ _ n=>n)
  (fun b o hc e=>⟨o,k b o (fun z=>hc (by simp[z])) e⟩) (fun _ _ e=>e) (fun _ _ _ e=>e) (fun b ps e=>⟨#[],by rw[e];simp⟩) (fun m hm=>?_) (fun b u e=>?_) I.bare
 ·have e:b=it:=by simpa using hb
  subst e
  exact⟨h1,hL,h2,h3⟩
 ·obtain⟨o,es,ep,ho,r⟩:=hm
  exact⟨o,es,ep,k _ o (Ne.symm hL) ho,r⟩
 ·refine(I.hok b u e).stay (fun c v hc q=>k c v ?_ q) (fun _ q=>q) fun _ _ q=>q
  rcases hc with z|z
  ·rw[z];exact nit b u e
  ·exact nit c _ z
theorem Inv.tok(I:Inv X pins σ H s)(t:Nat):Inv X pins σ H {s with toks:=t}:=I.un (h':=s.heap) (t':=t) Un.refl I.hok
theorem Inv.kept(I:Inv X pins σ H s)(k:∀b u,s.heap.get? b=some u→h'.get? b=some u):Inv X pins σ H {s with heap:=h',toks:=t'}:=I.un (Un.kept k) (I.hok.kept k)
theorem Inv.laid{o:HO}(I:Inv X pins σ H s)(k:∀b u,s.heap.get? b=some u→h'.get? b=some u)(hp:s.heap.objs.size≤a)(new:bI X.prog X.w (bj H a o) h' a o):
  Inv X pins σ (bj H a o) {s with heap:=h',toks:=t'}:=I.un (Un.laid k hp (I.hok.fresh hp)) (I.hok.laid k hp new)
theorem Inv.write{x e:Addr}{o:HO}(I:Inv X pins σ H s)(mu:AW (H x))(he:e=x∨H e=some (.own x))(k:∀b u,b≠e→s.heap.get? b=some u→h'.get? b=some u)(heo:∃u,h'.get? e=some u)
  (new:bI X.prog X.w (bj H x o) h' x o):Inv X pins σ (bj H x o) {s with heap:=h',toks:=t'}:=I.un (Un.write mu he k heo) (I.hok.write mu he k heo new)
theorem Inv.pins_of{pins':List (Addr×Obj)}(I:Inv X pins σ H s)(h:∀p∈pins',s.heap.get? p.1=some p.2∧H p.1=none∧p.1≠X.env.locals∧p.1∉X.fs∧∀v,p.2.data≠ .cell v):Inv X pins' σ H s:=
 ⟨I.ok,I.os,I.bare,I.base,I.loc,I.cell,I.free,I.freeC,fun p hp=>(List.mem_append.mp hp).elim (fun z=>I.pin p (List.mem_append_left _ z)) (h p),I.hok,I.len⟩
theorem jh{N:List Str}(hN:N.Nodup)(a:N[i]? =some x)(b:N[j]? =some x):i=j:=by
 obtain⟨h1,e1⟩:=aH a
 obtain⟨h2,e2⟩:=aH b
 exact(List.getElem_inj hN).mp (e1.trans e2.symm)
theorem gZ{M:Model}{v:V}{Q:Unit→Shared→Prop}(I:Inv X pins σ H s)(hN:X.N.Nodup)(hi:X.N[i]? =some x)(hx:Loc X.env.scope x)(r:RelV v u)
  (h:∀s',Inv X pins (σ.set i (some v)) H s'→(∃a,Heap.SameBut a s.heap s'.heap∧(a=X.env.locals∨X.env.cells.lookup x=some a))→Q () s')(hf:X.fn x=true∨X.env.scope.names.lookup x=some .local:=by first|exact .inl rfl|exact .inr rfl|assumption):wpAny M A (storeName X.env x u) Q E s:=by
 obtain⟨m,hn,hl⟩:=id I.loc
 have hcls:(X.env.scope.kind== .class||(X.env.scope.kind== .module&&X.env.locals !=X.env.globals))=false:=by rw[I.ok.kind];rfl
 have hiσ:i<σ.length:=by rw[I.len];exact(aH hi).1
 have cne:=I.cne
 have tracked:∀{a:Addr}{h':Heap},(∃o,s.heap.get? a=some o∧H a=none)→Heap.SameBut a s.heap h'→fS X.prog X.w H h':=fun{a h'} ha hs b ob e=>by
  obtain⟨_,_,hfree⟩:=ha
  refine(I.hok b ob e).stay (fun c w' hc q=>(hs.2 c ?_).trans q) (fun _ q=>q) fun _ _ q=>q
  rintro rfl
  rcases hc with rfl|hc
  ·rw[hfree] at e;cases e
  ·rw[hfree] at hc;cases hc
 rcases hx with hk|hk
 ·refine wpAny_storeName_local hk hn (fun h' hn' hs=>?_) hcls
  obtain⟨oL,_,_,hoL,_⟩:=id hn
  refine h _ ⟨I.ok,I.os,I.bare,⟨fun b o e n hb hx=>?_,fun b o e n hb hx=>?_,I.base.free,fun b o e hx=>?_,I.base.tups,I.base.frzs,I.base.tbls⟩,⟨_,hn',fun j y v' e1 e2 e3=>?_⟩,fun y c e=>?_,I.free,I.freeC,fun p hp=>?_,tracked ⟨oL,hoL,I.free⟩ hs,by simpa using I.len⟩ ⟨_,hs,.inl rfl⟩
  ·exact(hs.2 b (ai (ao (ah e) I.ok.above))).trans (I.base.keep b o e n hb hx)
  ·obtain⟨sl,e1⟩:=I.base.slot b o e n hb hx
   exact⟨sl,(hs.2 b (ai (ao (ah e) I.ok.above))).trans e1⟩
  ·obtain⟨o',e1⟩:=I.base.there b o e hx
   exact⟨o',(hs.2 b (ai (ao (ah e) I.ok.above))).trans e1⟩
  ·by_cases hj:j=i
   ·subst hj
    rw[hi] at e1;cases e1
    rw[aN hiσ] at e2
    cases e2
    exact⟨u,r,.inl ⟨hk,by simp⟩⟩
   ·rw[aL (Ne.symm hj)] at e2
    obtain⟨u',r',q⟩:=hl j y v' e1 e2 e3
    refine⟨u',r',?_⟩
    rcases q with⟨k,e⟩|⟨k,c,e,z⟩
    ·refine .inl ⟨k,?_⟩
     have:y≠x:=fun e=>hj (jh hN e1 (e▸hi))
     simp[this,e]
    ·exact .inr ⟨k,c,e,z.sameBut hs (cne y c e)⟩
  ·obtain⟨w',z⟩:=I.cell y c e
   exact⟨w',z.sameBut hs (cne y c e)⟩
  ·obtain⟨e,n,ne,nf,d⟩:=I.pin p hp
   exact⟨(hs.2 p.1 ne).trans e,n,ne,nf,d⟩
 ·have hfn:X.fn x=true:=by
   rcases hf with z|z
   ·exact z
   ·rw[z] at hk;cases hk
  obtain⟨c,hc⟩:=I.ok.has x (.inl hk)
  obtain⟨w',z⟩:=I.cell x c hc
  refine wpAny_storeName_cell I.ok.kind hk hc z (fun h' hc' hs=>?_)
  obtain⟨oc,hoc,hocd⟩:=id z
  refine h {s with heap:=h'} ⟨I.ok,I.os,I.bare,⟨fun b o e n hb hx=>?_,fun b o e n hb hx=>?_,I.base.free,fun b o e hx=>?_,I.base.tups,I.base.frzs,I.base.tbls⟩,⟨m,hn.sameBut hs (Ne.symm (cne x c hc)),fun j y v' e1 e2 e3=>?_⟩,fun y c' e=>?_,I.free,I.freeC,fun p hp=>?_,tracked ⟨oc,hoc,I.freeC x c hc⟩ hs,by simpa using I.len⟩ ⟨c,hs,.inr hc⟩
  ·exact(hs.2 b (ai (ao (ah e) (I.ok.cab x c hfn hc)))).trans (I.base.keep b o e n hb hx)
  ·obtain⟨sl,e1⟩:=I.base.slot b o e n hb hx
   exact⟨sl,(hs.2 b (ai (ao (ah e) (I.ok.cab x c hfn hc)))).trans e1⟩
  ·obtain⟨o',e1⟩:=I.base.there b o e hx
   exact⟨o',(hs.2 b (ai (ao (ah e) (I.ok.cab x c hfn hc)))).trans e1⟩
  ·by_cases hj:j=i
   ·subst hj
    rw[hi] at e1;cases e1
    rw[aN hiσ] at e2
    cases e2
    exact⟨u,r,.inr ⟨.inl hk,c,hc,hc'⟩⟩
   ·rw[aL (Ne.symm hj)] at e2
    obtain⟨u',r',q⟩:=hl j y v' e1 e2 e3
    refine⟨u',r',?_⟩
    rcases q with q|⟨k,c',e,z'⟩
    ·exact .inl q
    ·refine .inr ⟨k,c',e,z'.sameBut hs ?_⟩
     rintro rfl
     exact hj (jh hN e1 (I.ok.inj _ _ _ e hc▸hi))
  ·by_cases hcc:c'=c
   ·subst hcc;exact⟨_,hc'⟩
   ·obtain⟨w2,z2⟩:=I.cell y c' e
    exact⟨w2,z2.sameBut hs hcc⟩
  ·obtain⟨e,n,ne,nf,d⟩:=I.pin p hp
   refine⟨(hs.2 p.1 ?_).trans e,n,ne,nf,d⟩
   intro q
   rw[q,hoc] at e
   have q':oc=p.2:=ag e
   exact d w' (by rw[←q'];exact hocd)
theorem fD{M:Model}{v:V}{Q:Unit→Shared→Prop}(I:Inv X pins σ H s)(hN:X.N.Nodup)(hi:X.N[i]? =some x)(hx:Loc X.env.scope x)(r:RelV v u)
  (h:∀s',Inv X pins (σ.set i (some v)) H s'→Q () s')(hf:X.fn x=true∨X.env.scope.names.lookup x=some .local:=by first|exact .inl rfl|exact .inr rfl|assumption):wpAny M A (storeName X.env x u) Q E s:=
 gZ I hN hi hx r (fun s' I' _=>h s' I') hf
theorem Inv.call'{s':Shared}(I:Inv X pins σ H s)(ho:s'.os=s.os)(u:Un (eE X.stack) ch H H' s.heap s'.heap)(hok:fS X.prog X.w H' s'.heap)(hg:AllBare s'.gens)
  (hch:∀b∈ch,(b∈X.ex∨X.s₀.heap.objs.size≤b)∧b≠X.env.locals∧(∀x c,X.env.cells.lookup x=some c→c≠b)∧∀p∈X.pn++pins,p.1≠b):Inv X pins σ H' s':=by
 obtain⟨h',g',d',t',o'⟩:=s'
 have e:o'=s.os:=ho
 subst e
 exact I.call (g':=g') (t':=t') (d':=d') u hok hg hch
end
noncomputable abbrev XK:=Value→Option Addr→Hp→Prop
noncomputable abbrev St:=List (Option V)
noncomputable abbrev VK:=V→Hp→Prop
noncomputable abbrev TE:=St→Hp→VK→Prop
noncomputable abbrev TT:=St→Hp→(Bool→Hp→Prop)→Prop
noncomputable abbrev TA:=St→Hp→(List V→Hp→Prop)→Prop
structure Ends where
 nx:St→Hp→Prop
 rt:VK
 bk:St→Hp→Prop:=fun _ _=>False
 ct:St→Hp→Prop:=fun _ _=>False
noncomputable abbrev TS:=Ends→St→Hp→Prop
noncomputable def EP(X:Cx)(pins:List (Addr×Obj))(σ:St)(Q:VK)(u:Value)(s':Shared):Prop:=∃v H',Inv X pins σ H' s'∧RelV v u∧Q v H'
noncomputable def TP(X:Cx)(pins:List (Addr×Obj))(σ:St)(Q:Bool→Hp→Prop)(b:Bool)(s':Shared):Prop:=∃H',Inv X pins σ H' s'∧Q b H'
noncomputable def AP(X:Cx)(pins:List (Addr×Obj))(σ:St)(Q:List V→Hp→Prop)(us:List Value)(s':Shared):Prop:=∃vs H',Inv X pins σ H' s'∧bf vs us∧Q vs H'
noncomputable def SP(X:Cx)(pins:List (Addr×Obj))(D:Ends)(f:Flow)(s':Shared):Prop:=
 match f with
 | .next=>∃σ' H',Inv X pins σ' H' s'∧D.nx σ' H'
 | .brk=>∃σ' H',Inv X pins σ' H' s'∧D.bk σ' H'
 | .cont=>∃σ' H',Inv X pins σ' H' s'∧D.ct σ' H'
 | .ret u=>∃v σ' H',Inv X pins σ' H' s'∧RelV v u∧D.rt v H'
noncomputable def PE(X:Cx)(e:Expr)(t:TE):Prop:=
 ∀(pins:List (Addr×Obj))(s:Shared)(σ:St)(H:Hp)(Q:VK),Inv X pins σ H s→t σ H Q→wpAny (model X.prog X.w) X.A (eval e X.env) (EP X pins σ Q) X.xe s
noncomputable def PT(X:Cx)(e:Expr)(t:TT):Prop:=
 ∀(pins:List (Addr×Obj))(s:Shared)(σ:St)(H:Hp)(Q:Bool→Hp→Prop),Inv X pins σ H s→t σ H Q→wpAny (model X.prog X.w) X.A (isTrue e X.env (eval e X.env)) (TP X pins σ Q) X.xe s
noncomputable def PW(X:Cx)(e:Expr)(t:TT):Prop:=
 ∀(whole:Sem Value)(pins:List (Addr×Obj))(s:Shared)(σ:St)(H:Hp)(Q:Bool→Hp→Prop),Inv X pins σ H s→t σ H Q→wpAny (model X.prog X.w) X.A (isTrue e X.env whole) (TP X pins σ Q) X.xe s
theorem PW.pt{X:Cx}{t:TT}(h:PW X e t):PT X e t:=h _
noncomputable def PA(X:Cx)(es:List Expr)(t:TA):Prop:=
 ∀(pos:Pos)(pins:List (Addr×Obj))(s:Shared)(σ:St)(H:Hp)(Q:List V→Hp→Prop),Inv X pins σ H s→t σ H Q→wpAny (model X.prog X.w) X.A (spliced (backTo pos (starEach es X.env))) (AP X pins σ Q) X.xe s
noncomputable def PS(X:Cx)(st:Stmt)(t:TS):Prop:=
 ∀(pins:List (Addr×Obj))(s:Shared)(σ:St)(H:Hp)(D:Ends),Inv X pins σ H s→t D σ H→wpAny (model X.prog X.w) X.A (exec st X.env) (SP X pins D) X.xe s
noncomputable def PSs(X:Cx)(st:List Stmt)(t:TS):Prop:=
 ∀(pins:List (Addr×Obj))(s:Shared)(σ:St)(H:Hp)(D:Ends),Inv X pins σ H s→t D σ H→wpAny (model X.prog X.w) X.A (execs st X.env) (SP X pins D) X.xe s
theorem bz{α:Type}{t:Sem α}{Q Q':α→Shared→Prop}{M:Model}(h:wpAny M A t Q E s)(hQ:∀a s,Q a s→Q' a s):wpAny M A t Q' E s:=aA h hQ fun _ _ x=>x
section
variable{X:Cx}
noncomputable def Bf(i:Nat):TE:=fun σ H Q=>∃v,σ[i]? =some (some v)∧Q v H
noncomputable def tC(v:V):TE:=fun _ H Q=>Q v H
theorem xM(hN:X.N[i]? =some x)(hv:AR X.env.scope x)(hd:(x==("__debug__":Str))=false:=by decide)(hcd:(x==("__classdict__":Str))=false:=by decide):PE X (.Name x pos) (Bf i):=by
 intro pins s σ H Q I h
 obtain⟨v,e,h⟩:=h
 obtain⟨m,hn,hl⟩:=I.loc
 obtain⟨u,r,l⟩:=hl i x v hN e hv
 have fin:EP X pins σ Q u s:=⟨v,H,I,r,h⟩
 rcases l with⟨hk,hm⟩|⟨hk,c,hc,hcell⟩
 ·exact wpAny_Name (wpAny_loadName_local I.ok.kind hk hn hm fin) hd
 ·rcases hk with hk|hk
  ·exact wpAny_Name (wpAny_loadName_cell I.ok.kind hk hc hcell fin) hd
  ·exact wpAny_Name (wpAny_loadName_free I.ok.kind hk hc hcell fin hcd) hd
theorem xS{i j pos}:PE X (.Constant (.int i) j pos) (tC (.int i)):=fun _ _ _ H _ I h=>wpAny_Constant_int ⟨.int i,H,I.tok _,⟨_,rfl⟩,h⟩
theorem Ab{b j pos}:PE X (.Constant (.bool b) j pos) (tC (.bl b)):=fun _ _ _ H _ I h=>Constant_bool ⟨.bl b,H,I,rfl,h⟩
theorem xQ{j pos}:PE X (.Constant .none j pos) (tC .non):=fun _ _ _ H _ I h=>Constant_none ⟨.non,H,I,rfl,h⟩
theorem sf{x j pos}:PE X (.Constant (.str x) j pos) (tC (.str x)):=fun _ _ _ H _ I h=>Calls.Constant_str ⟨.str x,H,I.tok _,⟨_,rfl⟩,h⟩
noncomputable def Gl(X:Cx)(x:Str):Prop:=X.env.kindOf x=some .globalImplicit
theorem d3{σ:St}{H:Hp}(I:Inv X pins σ H s)(hg:Gl X x)(hm:X.mg x=some u)(h:Q u s)
  (hd:(x==("__debug__":Str))=false:=by decide):wpAny (model X.prog X.w) X.A (eval (.Name x pos) X.env) Q E s:=
 Calls.Name_function_global I.ok.kind hg (Calls.loadGlobal_global (by rw[I.ok.glob];exact I.mod.glob.keeps I.bk) hm h) hd
theorem fL{σ:St}{H:Hp}(I:Inv X pins σ H s)(hg:Gl X x)(hm:X.mg x=none)(hv:bootBuiltins x=some u)(h:Q u s)
  (hn:x≠ "__name__":=by decide) (hd:(x==("__debug__":Str))=false:=by decide):wpAny (model X.prog X.w) X.A (eval (.Name x pos) X.env) Q E s:=by
 obtain⟨mb,h1,h2⟩:=I.mod.blt
 exact Calls.Name_function_global I.ok.kind hg (Calls.loadGlobal_builtin (by rw[I.ok.glob];exact I.mod.glob.keeps I.bk) hm (by rw[I.ok.blt];exact h1.keeps I.bk) ((h2 x hn).trans hv) h) hd
theorem lL{v:V}(hg:Gl X x)(hm:X.mg x=some u)(r:RelV v u)(hd:(x==("__debug__":Str))=false:=by decide):PE X (.Name x pos) (tC v):=
 fun _ _ _ H _ I h=>d3 I hg hm ⟨v,H,I,r,h⟩ hd
theorem pj{v:V}(hg:Gl X x)(hm:X.mg x=none)(hv:bootBuiltins x=some u)(r:RelV v u)(hn:x≠ "__name__":=by decide)(hd:(x==("__debug__":Str))=false:=by decide):PE X (.Name x pos) (tC v):=
 fun _ _ _ H _ I h=>fL I hg hm hv ⟨v,H,I,r,h⟩ hn hd
variable{a b:Expr}{ta tb:TE}{pos:Pos}
noncomputable def tB(t:TE):TT:=fun σ H Q=>t σ H fun x H1=>∃c,x=.bl c∧Q c H1
theorem xD{t:TE}(h:PE X e t)(he:∀whole,isTrue e X.env whole=(do let v ←whole;standAt e.pos;holding [v] (truthy v)):=by intro _;rfl):PT X e (tB t):=by
 intro pins s σ H Q I hw
 refine isTrue_plain (bz (h pins s σ H _ I hw) fun v s1 ⟨x,H1,I1,r1,q1⟩=>?_) (he _)
 obtain⟨d,rfl,q⟩:=q1
 cases r1
 exact wpAny_truthy_bool ⟨H1,I1,q⟩
variable{tA tB':TT}{rest:List Expr}
noncomputable def Bv(t u:TT):TT:=fun σ H Q=>t σ H fun c H1=>if c=true then u σ H1 Q else Q false H1
noncomputable def Cq(t u:TT):TT:=fun σ H Q=>t σ H fun c H1=>if c=true then Q true H1 else u σ H1 Q
noncomputable def Bl(t:TT):TT:=fun σ H Q=>t σ H fun c H1=>Q (!c) H1
theorem vg(ha:PT X a tA):PW X (.BoolOp .And [a] pos) tA:=by
 intro wh pins s σ H Q I h
 refine isTrue_and (bz (ha pins s σ H Q I h) fun c s1 e=>?_)
 cases c with
 |true=>exact isTrue_and_nil e
 |false=>exact e
theorem xB(ha:PT X a tA):PW X (.BoolOp .Or [a] pos) tA:=by
 intro wh pins s σ H Q I h
 refine isTrue_or (bz (ha pins s σ H Q I h) fun c s1 e=>?_)
 cases c with
 |false=>exact isTrue_or_nil e
 |true=>exact e
theorem xC(ha:PT X a tA)(hb:PW X (.BoolOp .And (b::rest) pos) tB'):PW X (.BoolOp .And (a::b::rest) pos) (Bv tA tB'):=by
 intro wh pins s σ H Q I h
 refine isTrue_and (bz (ha pins s σ H _ I h) fun c s1 ⟨H1,I1,q1⟩=>?_)
 cases c with
 |true=>exact hb wh pins s1 σ H1 Q I1 q1
 |false=>exact⟨H1,I1,q1⟩
theorem zW(ha:PT X a tA)(hb:PW X (.BoolOp .Or (b::rest) pos) tB'):PW X (.BoolOp .Or (a::b::rest) pos) (Cq tA tB'):=by
 intro wh pins s σ H Q I h
 refine isTrue_or (bz (ha pins s σ H _ I h) fun c s1 ⟨H1,I1,q1⟩=>?_)
 cases c with
 |true=>exact⟨H1,I1,q1⟩
 |false=>exact hb wh pins s1 σ H1 Q I1 q1
theorem xE(ha:PT X a tA):PT X (.UnaryOp .Not a pos) (Bl tA):=by
 intro pins s σ H Q I h
 exact isTrue_not (ha pins s σ H (fun c H1=>Q (!c) H1) I h)
noncomputable def zq(ta tb:TE):TE:=fun σ H Q=>ta σ H fun x H1=>∃c,x=.bl c∧if c=true then tb σ H1 Q else Q (.bl false) H1
noncomputable def Bk(ta tb:TE):TE:=fun σ H Q=>ta σ H fun x H1=>∃c,x=.bl c∧if c=true then Q (.bl true) H1 else tb σ H1 Q
noncomputable def zj(ta:TE):TE:=fun σ H Q=>ta σ H fun x H1=>∃c,x=.bl c∧Q (.bl (!c)) H1
theorem xO{op}{t:TE}(h:PE X a t):PE X (.BoolOp op [a] pos) t:=fun pins s σ H Q I hw=>BoolOp_one (h pins s σ H Q I hw)
theorem xV(ha:PE X a ta)(hb:PE X (.BoolOp .And (b::rest) pos) tb):PE X (.BoolOp .And (a::b::rest) pos) (zq ta tb):=by
 intro pins s σ H Q I h
 refine BoolOp_and (bz (ha pins s σ H _ I h) fun v s1 hp=>?_)
 obtain⟨x,H1,I1,r1,q1⟩:=hp
 obtain⟨c,rfl,q1⟩:=q1
 cases r1
 refine wpAny_truthy_bool ?_
 cases c with
 |true=>exact hb pins s1 σ H1 Q I1 q1
 |false=>exact⟨.bl false,H1,I1,rfl,q1⟩
theorem z9(ha:PE X a ta)(hb:PE X (.BoolOp .Or (b::rest) pos) tb):PE X (.BoolOp .Or (a::b::rest) pos) (Bk ta tb):=by
 intro pins s σ H Q I h
 refine BoolOp_or (bz (ha pins s σ H _ I h) fun v s1 hp=>?_)
 obtain⟨x,H1,I1,r1,q1⟩:=hp
 obtain⟨c,rfl,q1⟩:=q1
 cases r1
 refine wpAny_truthy_bool ?_
 cases c with
 |false=>exact hb pins s1 σ H1 Q I1 q1
 |true=>exact⟨.bl true,H1,I1,rfl,q1⟩
theorem xP(ha:PE X a ta):PE X (.UnaryOp .Not a pos) (zj ta):=by
 intro pins s σ H Q I h
 refine UnaryOp_ (bz (ha pins s σ H _ I h) fun v s1 hp=>?_)
 obtain⟨x,H1,I1,r1,q1⟩:=hp
 obtain⟨c,rfl,q1⟩:=q1
 cases r1
 exact not_of (wpAny_truthy_bool ⟨.bl (!c),H1,I1,rfl,q1⟩)
noncomputable def Cr(t:TT)(ta tb:TE):TE:=fun σ H Q=>t σ H fun c H1=>if c=true then ta σ H1 Q else tb σ H1 Q
theorem sk(hc:PT X c tA)(ha:PE X a ta)(hb:PE X b tb):PE X (.IfExp c a b pos) (Cr tA ta tb):=by
 intro pins s σ H Q I h
 refine wpAny_IfExp (bz (hc pins s σ H _ I h) fun d s1 ⟨H1,I1,q1⟩=>?_)
 cases d with
 |true=>exact ha pins s1 σ H1 Q I1 q1
 |false=>exact hb pins s1 σ H1 Q I1 q1
end
noncomputable def du(K:al)(H:Hp)(a:Addr)(xs:List V):Prop:=
 Rd H a (.lst xs)∨
  ∃(o:Obj)(its:Array Value)(n:Nat),K.lookup a=some o∧o.cls=.type "list" ∧o.dict=none∧o.data=.seq its n∧its.size≤sizeLine∧bf xs its.toList
noncomputable def eN(K:al)(H:Hp)(a:Addr)(xs:List V):Prop:=
 Rd H a (.tup xs)∨
  ∃(o:Obj)(its:Array Value)(n:Nat),K.lookup a=some o∧o.cls=.type "tuple" ∧o.data=.seq its n∧its.size≤sizeLine∧bf xs its.toList
noncomputable def B1:Value→Option V
 | .none=>some .non
 | .bool b=>some (.bl b)
 | .int i _=>some (.int i)
 | .str x _=>some (.str x)
 | .bytes b _=>some (.byt b)
 | .float b _=>some (.flt b)
 | .ref a=>some (.ref a)
 | .type n=>some (.ty n)
 |_=>none
theorem RelV.abs{x:V}(r:RelV x u):B1 u=some x:=by
 cases x with
 |non=>cases r;rfl
 |bl _=>cases r;rfl
 |int _=>obtain⟨t,rfl⟩:=r;rfl
 |str _=>obtain⟨t,rfl⟩:=r;rfl
 |byt _=>obtain⟨t,rfl⟩:=r;rfl
 |flt _=>obtain⟨t,rfl⟩:=r;rfl
 |ref _=>cases r;rfl
 |ty _=>cases r;rfl
theorem RelV.inj{x y:V}(r:RelV x u)(q:RelV y u):x=y:=ag (r.abs.symm.trans q.abs)
theorem bf.inj:∀{xs ys:List V}{us:List Value},bf xs us→bf ys us→xs=ys
 |_,_,_,.nil,.nil=>rfl
 |_,_,_,.cons r t,.cons r' t'=>by rw[r.inj r',bf.inj t t']
section
variable{X:Cx}{pins:List (Addr×Obj)}{σ:St}{H:Hp}{s:Shared}{a:Addr}{xs ys:List V}
theorem du.of{K:al}(h:H a=some (.lst xs)):du K H a xs:= .inl (.inl h)
theorem eN.of{K:al}(h:H a=some (.tup xs)):eN K H a xs:= .inl (.inl h)
theorem Inv.list(I:Inv X pins σ H s)(h:du X.K H a xs):∃its:List Value,bf xs its∧PlainL s.heap a its.toArray∧xs.length≤sizeLine:=by
 rcases h with h|⟨o,its,n,hk,hc,hd,hs,hz,r⟩
 ·obtain⟨z,its,n,r,e⟩:=h.ok I.hok
  exact⟨its,r,⟨_,n,e,rfl,rfl,rfl⟩,z⟩
 ·refine⟨its.toList,r,⟨o,n,I.kIn a o hk,hc,hd,by simpa using hs⟩,?_⟩
  have e:=r.length
  simp only[Array.length_toList] at e
  omega
theorem Inv.tuple(I:Inv X pins σ H s)(h:eN X.K H a xs):∃its:List Value,bf xs its∧IsTup s.heap a its.toArray∧xs.length≤sizeLine:=by
 rcases h with h|⟨o,its,n,hk,hc,hs,hz,r⟩
 ·obtain⟨z,its,r,p⟩:=h.ok I.hok
  exact⟨its,r,p,z⟩
 ·refine⟨its.toList,r,⟨o,I.kIn a o hk,hc,n,by simpa using hs⟩,?_⟩
  have e:=r.length
  simp only[Array.length_toList] at e
  omega
theorem Inv.list_inj(I:Inv X pins σ H s)(h:du X.K H a xs)(h':du X.K H a ys):xs=ys:=by
 obtain⟨its,r,⟨o,n,e,_,_,d⟩,_⟩:=I.list h
 obtain⟨its',r',⟨o',n',e',_,_,d'⟩,_⟩:=I.list h'
 rw[e] at e';cases e'
 rw[d] at d'
 injection d' with d1 _
 have:its=its':=by simpa using congrArg Array.toList d1
 subst this
 exact r.inj r'
theorem Inv.tuple_inj(I:Inv X pins σ H s)(h:eN X.K H a xs)(h':eN X.K H a ys):xs=ys:=by
 obtain⟨its,r,⟨o,e,_,n,d⟩,_⟩:=I.tuple h
 obtain⟨its',r',⟨o',e',_,n',d'⟩,_⟩:=I.tuple h'
 rw[e] at e';cases e'
 rw[d] at d'
 injection d' with d1 _
 have:its=its':=by simpa using congrArg Array.toList d1
 subst this
 exact r.inj r'
end
section
end
section
variable{X:Cx}{st:Stmt}{rest:List Stmt}{t u:TS}{e:Expr}{te:TE}{pos:Pos}
noncomputable def wz:TS:=fun D σ H=>D.nx σ H
noncomputable def Bi(t u:TS):TS:=fun D σ H=>t {D with nx:=u D} σ H
theorem vh:PSs X [] wz:=fun _ _ σ H _ I h=>wpAny_execs_nil ⟨σ,H,I,h⟩
theorem rW(h1:PS X st t)(h2:PSs X rest u):PSs X (st::rest) (Bi t u):=by
 intro pins s σ H D I h
 refine wpAny_execs_cons (bz (h1 pins s σ H {D with nx:=u D} I h) fun f s1 q=>?_)
 cases f with
 |next=>
  obtain⟨σ',H',I',q⟩:=q
  exact h2 pins s1 σ' H' D I' q
 |ret v=>exact q
 |brk=>exact q
 |cont=>exact q
theorem vm:PS X (.Pass pos) wz:=fun _ _ σ H _ I h=>wpAny_Pass ⟨σ,H,I,h⟩
theorem Inv.quiet{σ:St}{H:Hp}(I:Inv X pins σ H s):interactive X.env=false:=by simp[interactive,I.ok.kind]
noncomputable def zm(te:TE):TS:=fun D σ H=>te σ H fun _ H1=>D.nx σ H1
theorem iM(he:PE X e te)(hs:swapsWith e none pos.line X.env=pure false:=by rfl):PS X (.Expr e pos) (zm te):=by
 intro pins s σ H D I h
 exact wpAny_Expr_any (bz (he pins s σ H _ I h) fun v s1 ⟨x,H1,I1,r1,q1⟩=>⟨σ,H1,I1,q1⟩) I.quiet hs
noncomputable def Bj(te:TE):TS:=fun D σ H=>te σ H D.rt
theorem xF(he:PE X e te):PS X (.Return (some e) pos) (Bj te):=by
 intro pins s σ H D I h
 exact wpAny_Return_some (bz (he pins s σ H _ I h) fun v s1 ⟨x,H1,I1,r1,q1⟩=>⟨x,σ,H1,I1,r1,q1⟩)
noncomputable def zi:TS:=fun D _ H=>D.rt .non H
theorem vj:PS X (.Return none pos) zi:=fun _ _ σ H _ I h=>wpAny_Return_none ⟨.non,σ,H,I,rfl,h⟩
noncomputable def Bn(c:TT)(t u:TS):TS:=fun D σ H=>c σ H fun b H1=>if b=true then t D σ H1 else u D σ H1
theorem zX{a b:List Stmt}{tc:TT}(hc:PT X c tc)(ha:PSs X a t)(hb:PSs X b u):PS X (.If c a b pos) (Bn tc t u):=by
 intro pins s σ H D I h
 refine wpAny_If (bz (hc pins s σ H _ I h) fun d s1 ⟨H1,I1,q1⟩=>?_)
 cases d with
 |true=>exact ha pins s1 σ H1 D I1 q1
 |false=>exact hb pins s1 σ H1 D I1 q1
end
noncomputable abbrev TG:=V→St→Hp→(St→Hp→Prop)→Prop
noncomputable abbrev t7:=List V→St→Hp→(St→Hp→Prop)→Prop
noncomputable def PG(X:Cx)(target:Expr)(t:TG):Prop:=
 ∀(pins:List (Addr×Obj))(s:Shared)(σ:St)(H:Hp)(v:V)(u:Value)(Q:St→Hp→Prop),Inv X pins σ H s→RelV v u→t v σ H Q→
  wpAny (model X.prog X.w) X.A (assign target X.env u) (fun _ s'=>∃σ' H',Inv X pins σ' H' s'∧Q σ' H') X.xe s
noncomputable def yT(X:Cx)(ts:List Expr)(t:t7):Prop:=
 ∀(pins:List (Addr×Obj))(s:Shared)(σ:St)(H:Hp)(vs:List V) (us:List Value)(Q:St→Hp→Prop),Inv X pins σ H s→bf vs us→t vs σ H Q→
  wpAny (model X.prog X.w) X.A (assignInOrder ((assignEach ts X.env).map (·.2)) us) (fun _ s'=>∃σ' H',Inv X pins σ' H' s'∧Q σ' H') X.xe s
noncomputable abbrev yL:=V→V→V→Hp→(Hp→Prop)→Prop
noncomputable def AU(X:Cx)(t:yL):Prop:=
 ∀(pins:List (Addr×Obj))(s:Shared)(σ:St)(H:Hp)(o i v:V)(ov iv u:Value)(Q:Hp→Prop),Inv X pins σ H s→RelV o ov→RelV i iv→RelV v u→t o i v H Q→
  wpAny (model X.prog X.w) X.A (setItem ov iv u) (fun _ s'=>∃H',Inv X pins σ H' s'∧Q H') X.xe s
noncomputable abbrev A3:=V→V→Hp→VK→Prop
noncomputable def Ck(X:Cx)(op:Operator)(t:A3):Prop:=
 ∀(pins:List (Addr×Obj))(s:Shared)(σ:St)(H:Hp)(x y:V)(v u:Value)(Q:VK),Inv X pins σ H s→RelV x v→RelV y u→t x y H Q→
  wpAny (model X.prog X.w) X.A (inplaceOp op v u) (EP X pins σ Q) X.xe s
section
variable{X:Cx}{pos:Pos}
noncomputable def dm(i:Nat):TG:=fun v σ H Q=>Q (σ.set i (some v)) H
theorem eR(hN:X.N.Nodup)(hi:X.N[i]? =some x)(hx:Loc X.env.scope x)(hf:X.fn x=true∨X.env.scope.names.lookup x=some .local:=by first|exact .inl rfl|exact .inr rfl|assumption):PG X (.Name x pos) (dm i):=by
 intro pins s σ H v u Q I r h
 exact wpAny_assign_Name (fD I hN hi hx r (fun s' I'=>⟨_,H,I',h⟩) hf)
noncomputable def qk:t7:=fun vs σ H Q=>vs=[]∧Q σ H
noncomputable def gf(t:TG)(u:t7):t7:=fun vs σ H Q=>∃v r,vs=v::r∧t v σ H fun σ' H'=>u r σ' H' Q
theorem lK:yT X [] qk:=by
 intro pins s σ H vs us Q I r h
 obtain⟨e,h⟩:=h
 subst e
 cases r
 exact assignInOrder_nil ⟨σ,H,I,h⟩
theorem fF{es:List Expr}{t:TG}{u:t7}(h1:PG X e t)(h2:yT X es u)
  (hs:(assignEach (e::es) X.env).map (·.2)=assign e X.env::(assignEach es X.env).map (·.2):=by rfl):yT X (e::es) (gf t u):=by
 intro pins s σ H vs us Q I r h
 obtain⟨v,vr,e1,h⟩:=h
 subst e1
 cases r with
 |cons r rr=>
  rw[hs]
  refine assignInOrder_cons (bz (h1 pins s σ H _ _ _ I r h) fun _ s1 hp=>?_)
  obtain⟨σ1,H1,I1,q1⟩:=hp
  exact h2 pins s1 σ1 H1 _ _ Q I1 rr q1
noncomputable def sU(K:al)(n:Nat)(t:t7):TG:=fun v σ H Q=>∃a xs,v=.ref a∧eN K H a xs∧xs.length=n∧t xs σ H Q
theorem r_{es:List Expr}{k:Nat}{t:t7}(hc:X.calm=true)(h:yT X es t)
  (hn:(assignEach es X.env).length=n:=by rfl)(hst:(assignEach es X.env).findIdx? (·.1)=none:=by rfl):PG X (.Tuple es k pos) (sU X.K n t):=by
 intro pins s σ H v u Q I r hw
 obtain⟨a,xs,e1,hq,hl,hw⟩:=hw
 subst e1
 cases r
 obtain⟨its,rv,ht,hz⟩:=I.tuple hq
 refine assign_Tuple_tuple (I.ok.hd hc) ht (by simp[hn,←hl,rv.length]) hst fun h' hx=>?_
 have I1:Inv X pins σ H {s with heap:=h'}:=I.kept (t':=s.toks) fun b o e=>hx b o (ai (ah e)) e
 exact h pins _ σ H xs _ Q I1 (by simpa using rv) hw
noncomputable def BQ(to ti:TE)(t:yL):TG:=fun v σ H Q=>to σ H fun o H1=>ti σ H1 fun i H2=>t o i v H2 fun H3=>Q σ H3
theorem xL{o i:Expr}{to ti:TE}{t:yL}(ho:PE X o to)(hi:PE X i ti)(hs:AU X t)
  (ha:∀v,assign (.Subscript o i pos) X.env v=(do
   let ov ←holding [v] (eval o X.env)
   let iv ←holding [v,ov] (eval i X.env)
   standAt pos
   holding [v,ov,iv] (setItem ov iv v)
   release [v,ov,iv] []):=by intro _;rfl):PG X (.Subscript o i pos) (BQ to ti t):=by
 intro pins s σ H v u Q I r h
 rw[ha]
 refine aa (wpAny_holding (bz (ho pins s σ H _ I h) fun ov s1 hp=>?_))
 obtain⟨x,H1,I1,r1,q1⟩:=hp
 refine aa (wpAny_holding (bz (hi pins s1 σ H1 _ I1 q1) fun iv s2 hp=>?_))
 obtain⟨y,H2,I2,r2,q2⟩:=hp
 refine aa (wpAny_standAt (aa (wpAny_holding (bz (hs pins s2 σ H2 x y v ov iv u _ I2 r1 r2 r q2) fun _ s3 hp=>?_))))
 obtain⟨H3,I3,q3⟩:=hp
 exact wpAny_release ⟨σ,H3,I3,q3⟩
noncomputable def nM(te:TE)(g:TG):TS:=fun D σ H=>te σ H fun x H1=>g x σ H1 D.nx
theorem xI{te:TE}{g:TG}(he:PE X e te)(hg:PG X tg g)(hs:swapsWithSole [tg] e pos.line X.env=pure false:=by rfl)(hw:swappedStores [tg] e X.env=pure none:=by rfl)
  (h1:(assignEach [tg] X.env).map (·.2)=[assign tg X.env]:=by rfl):PS X (.Assign [tg] e pos) (nM te g):=by
 intro pins s σ H D I h
 refine wpAny_Assign_stores (bz (he pins s σ H _ I h) fun v s1 ⟨x,H1,I1,r1,q1⟩=>?_) hs hw
 rw[h1]
 exact bz (hg pins s1 σ H1 x v _ I1 r1 q1) fun _ s2 q=>q
theorem lH{te:TE}(hN:X.N.Nodup)(hi:X.N[i]? =some x)(hx:Loc X.env.scope x)(he:PE X e te)(hs:swapsWith e (some (.Name x pos')) pos.line X.env=pure false:=by rfl)(hf:X.fn x=true∨X.env.scope.names.lookup x=some .local:=by first|exact .inl rfl|exact .inr rfl|assumption):
  PS X (.Assign [.Name x pos'] e pos) (nM te (dm i)):=by
 intro pins s σ H D I h
 refine wpAny_Assign_Name (bz (he pins s σ H _ I h) fun v s1 ⟨y,H1,I1,r1,q1⟩=>?_) hs
 exact fD I1 hN hi hx r1 (fun s2 I2=>⟨_,H1,I2,q1⟩) hf
noncomputable def Bu(i:Nat)(te:TE)(ti:A3):TS:=fun D σ H=>∃x,σ[i]? =some (some x)∧te σ H fun y H1=>ti x y H1 fun z H2=>D.nx (σ.set i (some z)) H2
theorem xH{te:TE}{op:Operator}{ti:A3}(hN:X.N.Nodup)(hi:X.N[i]? =some x)(hx:Loc X.env.scope x)(he:PE X e te)(ho:Ck X op ti)(hf:X.fn x=true∨X.env.scope.names.lookup x=some .local:=by first|exact .inl rfl|exact .inr rfl|assumption):
  PS X (.AugAssign (.Name x pos') op e pos) (Bu i te ti):=by
 intro pins s σ H D I h
 obtain⟨v,e1,h⟩:=h
 obtain⟨m,hn,hl⟩:=I.loc
 have vis:AR X.env.scope x:=by rcases hx with k|k;exact .inl k;exact .inr (.inl k)
 obtain⟨u,r,l⟩:=hl i x v hi e1 vis
 refine wpAny_AugAssign_Name ?_
 have go:wpAny (model X.prog X.w) X.A (eval e X.env) (fun w s₂=>wpAny (model X.prog X.w) X.A (inplaceOp op u w) (fun r s₃=>wpAny (model X.prog X.w) X.A (storeName X.env x r) (fun _=>SP X pins D .next) X.xe s₃) X.xe s₂) X.xe s:=by
  refine bz (he pins s σ H _ I h) fun w s1 hp=>?_
  obtain⟨y,H1,I1,r1,q1⟩:=hp
  refine bz (ho pins s1 σ H1 v y u w _ I1 r r1 q1) fun z s2 hp=>?_
  obtain⟨zv,H2,I2,r2,q2⟩:=hp
  exact fD I2 hN hi hx r2 (fun s3 I3=>⟨_,H2,I3,q2⟩) hf
 rcases l with⟨hk,hm⟩|⟨hk,c,hc,hcell⟩
 ·exact wpAny_loadName_local I.ok.kind hk hn hm go
 ·rcases hk with hk|hk
  ·exact wpAny_loadName_cell I.ok.kind hk hc hcell go
  ·rcases hx with k|k
   ·have:X.env.scope.names.lookup x=some .free:=hk
    rw[k] at this;cases this
   ·have:X.env.scope.names.lookup x=some .free:=hk
    rw[k] at this;cases this
noncomputable def Cz(f:Int→Int→Int):A3:=fun x y H Q=>∃i j,x=.int i∧y=.int j∧Q (.int (f i j)) H
theorem yk:Ck X .Add (Cz fun i j=>i+j):=by
 intro pins s σ H x y v u Q I r1 r2 h
 obtain⟨i,j,e1,e2,q⟩:=h
 subst e1;subst e2
 obtain⟨t,rfl⟩:=r1
 obtain⟨t',rfl⟩:=r2
 exact iadd_int ⟨.int _,H,I.tok _,⟨_,rfl⟩,q⟩
end
section
variable{X:Cx}{pos:Pos}
noncomputable def wZ(c:TT)(tb:TS):TS:=fun D σ H=>∃W:Nat→St→Hp→Prop,(∃m,W m σ H)∧∀m σ H,W m σ H→
 c σ H fun b H1=>if b=true then ∃N:St→Hp→Prop,(∀σ' H',N σ' H'→∃m',m'<m∧W m' σ' H')∧tb {D with nx:=N,ct:=N,bk:=D.nx} σ H1 else D.nx σ H1
theorem rX{body:List Stmt}{tc:TT}{tb:TS}(hp:PassesOwn (model X.prog X.w) X.A X.env X.xe)(hc:PT X c tc)(hb:PSs X body tb):PS X (.While c body [] pos) (wZ tc tb):=by
 intro pins s σ H D I h
 obtain⟨W,⟨m0,w0⟩,turn⟩:=h
 refine wpAny_While (codeAny_whileLoop (fun n s'=>∃σ' H',Inv X pins σ' H' s'∧W n σ' H') ?_ m0 ⟨σ,H,I,w0⟩)
 rintro n s1 ⟨σ1,H1,I1,w1⟩
 refine wpAny_passesOwn hp (bz (hc pins s1 σ1 H1 _ I1 (turn n σ1 H1 w1)) fun b s2 ⟨H2,I2,q2⟩=>?_)
 cases b with
 |true=>
  obtain⟨N,hN,q2⟩:=q2
  rw[if_pos rfl]
  refine wpAny_passesOwn hp (bz (hb pins s2 σ1 H2 _ I2 q2) fun f s3 q3=>?_)
  cases f with
  |next=>
   obtain⟨σ3,H3,I3,n3⟩:=q3
   obtain⟨m',hm,w3⟩:=hN σ3 H3 n3
   exact⟨m',hm,σ3,H3,I3,w3⟩
  |cont=>
   obtain⟨σ3,H3,I3,n3⟩:=q3
   obtain⟨m',hm,w3⟩:=hN σ3 H3 n3
   exact⟨m',hm,σ3,H3,I3,w3⟩
  |brk=>exact q3
  |ret v=>exact q3
 |false=>
  rw[if_neg aq]
  exact wpAny_execs_nil ⟨σ1,H2,I2,q2⟩
end
structure It where
 go:Nat→Hp→Prop
 yld:Nat→Hp→V→Hp→Prop
 stop:Nat→Hp→Prop
noncomputable def eA(X:Cx)(pins:List (Addr×Obj))(H:Hp)(b:Addr):Prop:=
 H b=none∧b≠X.env.locals∧b∉X.fs∧(b∈X.ex∨X.s₀.heap.objs.size≤b)∧(∀x c,X.env.cells.lookup x=some c→c≠b)∧∀p∈X.pn++pins,p.1≠b
theorem Inv.fpOk{X:Cx}{σ:St}{H H':Hp}(I:Inv X pins σ H s)(hb:s.heap.objs.size≤b)(hn:H' b=none):eA X pins H' b:=by
 refine⟨hn,bi (ao I.lt hb),I.nofs hb,.inr (aI I.sz hb),fun x c e z=>?_,fun p hp z=>?_⟩
 ·obtain⟨v,q⟩:=I.cell x c e
  exact absurd (ao q.lt (by rw[z];exact hb)) (bg _)
 ·exact absurd (ao (ah (I.pin p hp).1) (by rw[z];exact hb)) (bg _)
structure Turn(P:Program)(w:World)(K:al)(tg:Expr)(J:It)(fp:List Addr)(it:Addr)(tn:Nat→Heap→Prop):Prop where
 mem:it∈fp
 obj:∀i h,tn i h→∀b∈fp,∃o,h.get? b=some o∧∀v,o.data≠ .cell v
 keep:∀i h h',tn i h→(∀b∈fp,∀o,h.get? b=some o→h'.get? b=some o)→tn i h'
 item:∀(X:Cx),X.prog=P→X.w=w→X.K=K→X.calm=true→∀(i:Nat)(pins:List (Addr×Obj))(s:Shared)(σ:St)(H:Hp)(E:Value→Shared→Prop),Inv X pins σ H s→(∀b∈fp,eA X pins H b)→tn i s.heap→J.go i H→
  wpAny (model P w) X.A (pyNext (.ref it)) (fun r s1=>∃u,r=some u∧
   wpAny (model P w) X.A (letOwnedTupleGo tg (.ref it) u) (fun _ s2=>∃x H',Inv X pins σ H' s2∧RelV x u∧J.yld i H x H'∧tn (i+1) s2.heap∧∀b∈fp,H' b=none) E s1) E s
 done:∀(X:Cx),X.prog=P→X.w=w→X.K=K→X.calm=true→∀(i:Nat)(pins:List (Addr×Obj))(s:Shared)(σ:St)(H:Hp)(E:Value→Shared→Prop),Inv X pins σ H s→(∀b∈fp,eA X pins H b)→tn i s.heap→J.stop i H→
  wpAny (model P w) X.A (pyNext (.ref it)) (fun r s1=>r=none∧Inv X pins σ H s1) E s
 self:∀(A:Around)(i:Nat)(s:Shared)(Q:Value→Shared→Prop)(E:Value→Shared→Prop),tn i s.heap→Q (.ref it) s→wpAny (model P w) A (pyIter (.ref it)) Q E s
noncomputable abbrev TI:=St→Hp→(It→Hp→Prop)→Prop
noncomputable def Cl(X:Cx)(pins:List (Addr×Obj))(σ:St)(tg:Expr)(R:It→Hp→Prop)(itv:Value)(s2:Shared):Prop:=
 ∃(it:Addr)(fp:List Addr)(tn:Nat→Heap→Prop)(J:It)(H':Hp),itv=.ref it∧Inv X pins σ H' s2∧Turn X.prog X.w X.K tg J fp it tn∧tn 0 s2.heap∧(∀b∈fp,eA X pins H' b)∧R J H'
noncomputable def PI(X:Cx)(tg iter:Expr)(wi:TI):Prop:=
 ∀(pins:List (Addr×Obj))(s:Shared)(σ:St)(H:Hp)(R:It→Hp→Prop),Inv X pins σ H s→wi σ H R→
  wpAny (model X.prog X.w) X.A (eval iter X.env) (fun v s1=>wpAny (model X.prog X.w) X.A (pyIter v) (Cl X pins σ tg R) X.xe s1) X.xe s
theorem sR{M:Model}{n:String}{vs:Array Value}{Q:Unit→Shared→Prop}(ho:s.heap.get? it=some o)(hc:o.cls=.type n)(hd:o.data=.fields vs)
  (hn:["enumerate","zip","dict_itemiterator","dict_reverseitemiterator","odict_iterator","itertools.zip_longest","itertools.pairwise"].contains n=false) (hQ:Q () s):wpAny M A (letOwnedTupleGo tg (.ref it) u) Q E s:=by
 unfold letOwnedTupleGo
 cases tg<;>first
  |exact ae hQ
  |(cases u<;>first
    |exact ae hQ
    |(refine aa (wpAny_load ho ?_)
      rw[hc,hd]
      show wpAny M A (if(["enumerate","zip","dict_itemiterator","dict_reverseitemiterator","odict_iterator","itertools.zip_longest","itertools.pairwise"].contains n&&vs[0]? ==some (rawInt _))=true then _ else _) Q E s
      rw[if_neg (by intro h;rw[hn,Bool.false_and] at h;cases h)]
      exact ae hQ))
noncomputable def A8(K:al)(a:Addr):It:=
 ⟨fun i H=>∃xs x,du K H a xs∧xs[i]? =some x,fun i H x H'=>H'=H∧∀xs,du K H a xs→xs[i]? =some x,fun i H=>∃xs,du K H a xs∧xs.length≤i⟩
noncomputable def B8(K:al)(a:Addr):It:=
 ⟨fun i H=>∃xs x,eN K H a xs∧xs[i]? =some x,fun i H x H'=>H'=H∧∀xs,eN K H a xs→xs[i]? =some x,fun i H=>∃xs,eN K H a xs∧xs.length≤i⟩
noncomputable def A7(lo:Int)(n:Nat):It:=⟨fun i _=>i<n,fun i H x H'=>H'=H∧x=.int (lo+i),fun i _=>n≤i⟩
theorem pT{K:al}(a it:Addr):Turn P w K tg (A8 K a) [it] it (fun i h=>h.IsListIter it a i) where
 mem:=by simp
 obj:=fun i h st b hb=>by
  have e:b=it:=by simpa using hb
  subst e
  obtain⟨o,e,c,d⟩:=st
  exact⟨o,e,fun v z=>by rw[d] at z;cases z⟩
 keep:=fun i h h' st k=>st.at fun o e=>k it (by simp) o e
 item:=by
  intro X hP hw hK hc i pins s σ H E I hf st hg
  subst hP hw hK
  obtain⟨xs,x,hq,hx⟩:=hg
  obtain⟨its,rv,p,hz⟩:=I.list hq
  obtain⟨u,hu,ru⟩:=rv.get hx
  obtain⟨f0,f1,f2,f3,f4,f5⟩:=hf it (by simp)
  refine wpAny_pyNext_list_item st p.isList (x:=u) (by simpa using hu) fun h' st' sb=>?_
  have I1:Inv X pins σ H {s with heap:=h'}:=I.turned (t':=s.toks) (fun b o hb e=>(sb.2 b hb).trans e) f0 f1 f3 f4 f5
  obtain⟨o,e,c,d⟩:=id st'
  exact⟨u,rfl,sR (s:={s with heap:=h'}) e c d (by decide) ⟨x,H,I1,ru,⟨rfl,fun ys hy=>by rw[I.list_inj hy hq];exact hx⟩,st',fun b hb=>(hf b hb).1⟩⟩
 done:=by
  intro X hP hw hK hc i pins s σ H E I hf st hg
  subst hP hw hK
  obtain⟨xs,hq,hx⟩:=hg
  obtain⟨its,rv,p,hz⟩:=I.list hq
  obtain⟨f0,f1,f2,f3,f4,f5⟩:=hf it (by simp)
  have hl:=rv.length
  exact wpAny_pyNext_list_end (I.ok.hd hc) st p.isList (by simp;omega) fun h' eb=>⟨rfl,I.turned (t':=s.toks) (fun b o hb e=>eb b o hb e) f0 f1 f3 f4 f5⟩
 self:=fun _ _ _ _ _ st h=>wpAny_pyIter_listiter st h
theorem nI{K:al}(a it:Addr):Turn P w K tg (B8 K a) [it] it (fun i h=>h.IsTupleIter it a i) where
 mem:=by simp
 obj:=fun i h st b hb=>by
  have e:b=it:=by simpa using hb
  subst e
  obtain⟨o,e,c,d⟩:=st
  exact⟨o,e,fun v z=>by rw[d] at z;cases z⟩
 keep:=fun i h h' st k=>st.at fun o e=>k it (by simp) o e
 item:=by
  intro X hP hw hK hc i pins s σ H E I hf st hg
  subst hP hw hK
  obtain⟨xs,x,hq,hx⟩:=hg
  obtain⟨its,rv,p,hz⟩:=I.tuple hq
  obtain⟨u,hu,ru⟩:=rv.get hx
  obtain⟨f0,f1,f2,f3,f4,f5⟩:=hf it (by simp)
  refine wpAny_pyNext_tuple_item st (show s.heap.IsTuple a its.toArray from p) (x:=u) (by simpa using hu) fun h' st' sb=>?_
  have I1:Inv X pins σ H {s with heap:=h'}:=I.turned (t':=s.toks) (fun b o hb e=>(sb.2 b hb).trans e) f0 f1 f3 f4 f5
  obtain⟨o,e,c,d⟩:=id st'
  exact⟨u,rfl,sR (s:={s with heap:=h'}) e c d (by decide) ⟨x,H,I1,ru,⟨rfl,fun ys hy=>by rw[I.tuple_inj hy hq];exact hx⟩,st',fun b hb=>(hf b hb).1⟩⟩
 done:=by
  intro X hP hw hK hc i pins s σ H E I hf st hg
  subst hP hw hK
  obtain⟨xs,hq,hx⟩:=hg
  obtain⟨its,rv,p,hz⟩:=I.tuple hq
  obtain⟨f0,f1,f2,f3,f4,f5⟩:=hf it (by simp)
  have hl:=rv.length
  exact wpAny_pyNext_tuple_end (I.ok.hd hc) st (show s.heap.IsTuple a its.toArray from p) (by simp;omega) fun h' eb=>⟨rfl,I.turned (t':=s.toks) (fun b o hb e=>eb b o hb e) f0 f1 f3 f4 f5⟩
 self:=fun _ _ _ _ _ st h=>wpAny_pyIter_tupleiter st h
theorem nJ{K:al}(it:Addr)(lo:Int)(n:Nat):Turn P w K tg (A7 lo n) [it] it (fun i h=>IsRangeIter h it (lo+(i:Nat)*1) ((n:Int) - (i:Nat)) 1) where
 mem:=by simp
 obj:=fun i h st b hb=>by
  have e:b=it:=by simpa using hb
  subst e
  exact⟨_,st,fun v z=>by
   have z':Data.fields _=Data.cell v:=z
   cases z'⟩
 keep:=fun i h h' st k=>k it (by simp) _ st
 item:=by
  intro X hP hw hK hc i pins s σ H E I hf st hg
  subst hP hw hK
  obtain⟨f0,f1,f2,f3,f4,f5⟩:=hf it (by simp)
  have W:=Walks.range (prog:=X.prog) (w:=X.w) (I.ok.hd hc) it lo 1 n
  refine W.item i s _ _ hg st fun v h' tk hv st' kk=>?_
  obtain⟨t,rfl⟩:=hv
  have I1:Inv X pins σ H {s with heap:=h',toks:=tk}:=I.turned (fun b o hb e=>kk b o (by simpa using hb) e) f0 f1 f3 f4 f5
  refine⟨_,rfl,sR (s:={s with heap:=h',toks:=tk}) (n:= "range_iterator") st' rfl rfl (by decide) ⟨.int (lo+i),H,I1,⟨t,?_⟩,⟨rfl,rfl⟩,st',fun b hb=>(hf b hb).1⟩⟩
  rw[Int.mul_one]
 done:=by
  intro X hP hw hK hc i pins s σ H E I hf st hg
  subst hP hw hK
  obtain⟨f0,f1,f2,f3,f4,f5⟩:=hf it (by simp)
  exact wpAny_pyNext_range_end (I.ok.hd hc) st (by have:n≤i:=hg;omega) fun h' eb=>⟨rfl,I.turned (t':=s.toks) (fun b o hb e=>eb b o hb e) f0 f1 f3 f4 f5⟩
 self:=fun _ _ _ _ _ st h=>wpAny_pyIter_rangeiter st h
section
variable{X:Cx}{tg:Expr}
theorem rQ{σ:St}{H:Hp}{R:It→Hp→Prop}{lo hi:Int}{t u v:Tok}{tk:Nat}(I:Inv X pins σ H s)(h1: -(2^62)≤lo)(h2:lo<2^62)(h3: -(2^62)≤hi)(h4:hi<2^62)
  (q:R (A7 lo (hi - lo).toNat) H):wpAny (model X.prog X.w) X.A (pyIter (.ref s.heap.objs.size)) (Cl X pins σ tg R) E {s with heap:=s.heap.push {cls:= .type "range",data:= .fields #[.int lo t,.int hi u,.int 1 v]},toks:=tk}:=by
 refine wpAny_pyIter_range (IsRange.new ..) (small_one h1 h2 h3 h4) ?_
 have I1:Inv X pins σ H {s with heap:=s.heap.push {cls:= .type "range",data:= .fields #[.int lo t,.int hi u,.int 1 v]},toks:=tk}:=I.kept fun b o e=>ac _ e
 refine⟨(s.heap.push {cls:= .type "range",data:= .fields #[.int lo t,.int hi u,.int 1 v]}).objs.size,[(s.heap.push {cls:= .type "range",data:= .fields #[.int lo t,.int hi u,.int 1 v]}).objs.size],_,_,H,rfl,
  I1.kept (t':=tk) fun b o e=>ac _ e,nJ _ lo (hi - lo).toNat,?_,fun b hb=>?_,q⟩
 ·have e1:lo+((0:Nat):Int)*1=lo:=by simp
  have e2:(((hi - lo).toNat:Nat):Int) - ((0:Nat):Int)=Builtin.Range.rangeSize lo hi 1:=by rw[rangeSize_one];split<;>omega
  show IsRangeIter _ _ (lo+((0:Nat):Int)*1) ((((hi - lo).toNat:Nat):Int) - ((0:Nat):Int)) 1
  rw[e1,e2]
  exact ak _ rfl
 ·have e:b=(s.heap.push {cls:= .type "range",data:= .fields #[.int lo t,.int hi u,.int 1 v]}).objs.size:=by simpa using hb
  subst e
  exact I1.fpOk (af _) (I1.hok.fresh (af _))
noncomputable def wI(ta:TA):TI:=fun σ H R=>ta σ H fun vs H1=>∃j:Int,vs=[.int j]∧ -(2^62)≤j∧j<2^62∧R (A7 0 j.toNat) H1
theorem kq{a:Expr}{ta:TA}{p:Pos}(hg:Gl X "range")(hm:X.mg "range"=none)(ha:PA X [a] ta)(hs:starEach [a] X.env=[(false,eval a X.env)]:=by rfl):PI X tg (.Call (.Name "range" p) [a] [] pos) (wI ta):=by
 intro pins s σ H R I h
 refine Call_ (fL I hg hm boot_range (aX (bz (ha pos pins s σ H _ I h) fun us s1 ⟨vs,H1,I1,r1,q1⟩=>?_) hs rfl))
 obtain⟨j,e,q1,q2,q⟩:=q1
 subst e
 cases r1 with
 |cons r rr=>
  cases rr
  obtain⟨t,rfl⟩:=r
  exact call_range_1 (rQ I1 (by omega) (by omega) q1 q2 (by simpa using q))
noncomputable def Bp(wi:TI)(g:TG)(tb:TS):TS:=fun D σ H=>wi σ H fun J H1=>∃W:Nat→Nat→St→Hp→Prop,(∃m,W 0 m σ H1)∧∀i m σ H,W i m σ H→
 (J.stop i H∧D.nx σ H)∨(J.go i H∧∃N:St→Hp→Prop,(∀σ' H',N σ' H'→∃m',m'<m∧W (i+1) m' σ' H')∧∀x H',J.yld i H x H'→g x σ H' fun σ2 H2=>tb {D with nx:=N,ct:=N,bk:=D.nx} σ2 H2)
noncomputable def hG(fp:List Addr)(h:Heap):List (Addr×Obj):=fp.filterMap fun b=>(h.get? b).map fun o=>(b,o)
theorem da(hb:b∈fp)(e:h.get? b=some o):(b,o)∈hG fp h:=List.mem_filterMap.mpr ⟨b,hb,by rw[e];rfl⟩
theorem qd{p:Addr×Obj}(hp:p∈hG fp h):p.1∈fp∧h.get? p.1=some p.2:=by
 obtain⟨b,hb,e⟩:=List.mem_filterMap.mp hp
 cases q:h.get? b with
 |none=>rw[q] at e;cases e
 |some o=>
  rw[q] at e
  have e':(b,o)=p:=ag e
  subst e'
  exact⟨hb,q⟩
theorem Inv.pinned{σ:St}{H:Hp}(I:Inv X pins σ H s)(hf:∀b∈fp,eA X pins H b)(ho:∀b∈fp,∃o,s.heap.get? b=some o∧∀v,o.data≠ .cell v):Inv X (pins++hG fp s.heap) σ H s:=
 I.pins_of fun p hp=>(List.mem_append.mp hp).elim (fun z=>I.pin p (aD _ z)) fun z=>by
  obtain⟨hb,e⟩:=qd z
  obtain⟨f0,f1,f2,_⟩:=hf p.1 hb
  obtain⟨o,e',d⟩:=ho p.1 hb
  rw[e] at e';cases e'
  exact⟨e,f0,f1,f2,d⟩
theorem Inv.unpinned{pl:List (Addr×Obj)}{σ:St}{H:Hp}(I:Inv X (pins++pl) σ H s):Inv X pins σ H s:=I.pins_of fun p hp=>I.pin p (aD _ (List.mem_append_left _ hp))
theorem lI{iter:Expr}{body:List Stmt}{wi:TI}{g:TG}{tb:TS}(hp:PassesOwn (model X.prog X.w) X.A X.env X.xe)(hc:X.calm=true)(hi:PI X tg iter wi)(hg:PG X tg g)(hb:PSs X body tb)
  (hs:∀x,foldedSetIterable iter X.env x=pure x:=by intro _;rfl):PS X (.For tg iter body [] pos) (Bp wi g tb):=by
 intro pins s σ H D I h
 refine wpAny_For (bz (hi pins s σ H _ I h) fun v s1 h1=>bz h1 fun itv s2 h2=>?_) hs
 obtain⟨it,fp,tn,J,H2,e,I2,T,st2,f2,W,⟨m0,w0⟩,turn⟩:=h2
 subst e
 have stat:∀{H':Hp},(∀b∈fp,H' b=none)→∀b∈fp,eA X pins H' b:=fun hn b hb=>⟨hn b hb,(f2 b hb).2⟩
 refine codeAny_forLoop_any (fun n s'=>∃i σ' H',Inv X pins σ' H' s'∧tn i s'.heap∧(∀b∈fp,H' b=none)∧W i n σ' H') ?_ m0 ⟨0,σ,H2,I2,st2,fun b hb=>(f2 b hb).1,w0⟩
 rintro n s3 ⟨i,σ3,H3,I3,st3,fr3,w3⟩
 rcases turn i n σ3 H3 w3 with⟨stop,qn⟩|⟨go,N,hN,step⟩
 ·refine wpAny_passesOwn hp (bz (T.done X rfl rfl rfl hc i pins s3 σ3 H3 X.xe I3 (stat fr3) st3 stop) fun r s4 ⟨hr,I4⟩=>?_)
  subst hr
  exact wpAny_execs_nil ⟨σ3,H3,I4,qn⟩
 ·refine wpAny_passesOwn hp (bz (T.item X rfl rfl rfl hc i pins s3 σ3 H3 X.xe I3 (stat fr3) st3 go) fun r s4 hp=>?_)
  obtain⟨u,hr,h4⟩:=hp
  subst hr
  refine wpAny_passesOwn hp (bz h4 fun _ s5 hp=>?_)
  obtain⟨x,H5,I5,r5,y5,st5,fr5⟩:=hp
  have I5':=I5.pinned (stat fr5) (T.obj _ _ st5)
  refine wpAny_passesOwn hp (bz (hg _ s5 σ3 H5 x u _ I5' r5 (step x H5 y5)) fun _ s6 hp=>?_)
  obtain⟨σ6,H6,I6,q6⟩:=hp
  refine wpAny_passesOwn hp (bz (hb _ s6 σ6 H6 _ I6 q6) fun f s7 q7=>?_)
  have again:∀{σ7:St}{H7:Hp},Inv X (pins++hG fp s5.heap) σ7 H7 s7→N σ7 H7→∃m,m<n∧∃i σ' H',Inv X pins σ' H' s7∧tn i s7.heap∧(∀b∈fp,H' b=none)∧W i m σ' H':=fun{σ7 H7} I7 n7=>by
   obtain⟨m',hm,w7⟩:=hN σ7 H7 n7
   refine⟨m',hm,i+1,σ7,H7,I7.unpinned,T.keep _ _ _ st5 fun b hb o e=>(I7.pin (b,o) (aD _ (aD _ (da hb e)))).1,fun b hb=>?_,w7⟩
   obtain⟨o,e,d⟩:=T.obj _ _ st5 b hb
   exact(I7.pin (b,o) (aD _ (aD _ (da hb e)))).2.1
  cases f with
  |next=>obtain⟨σ7,H7,I7,n7⟩:=q7;exact again I7 n7
  |cont=>obtain⟨σ7,H7,I7,n7⟩:=q7;exact again I7 n7
  |brk=>obtain⟨σ7,H7,I7,q7⟩:=q7;exact⟨σ7,H7,I7.unpinned,q7⟩
  |ret v=>obtain⟨x7,σ7,H7,I7,r7,q7⟩:=q7;exact⟨x7,σ7,H7,I7.unpinned,r7,q7⟩
end
noncomputable abbrev R2:=V→V→Hp→VK→Prop
noncomputable def iA(X:Cx)(f:Value→Value→Sem Value)(r:R2):Prop:=
 ∀(pins:List (Addr×Obj))(s:Shared)(σ:St)(H:Hp)(x y:V)(v u:Value)(Q:VK),Inv X pins σ H s→RelV x v→RelV y u→r x y H Q→
  wpAny (model X.prog X.w) X.A (f v u) (EP X pins σ Q) X.xe s
noncomputable def B2(X:Cx)(f:Value→Sem Value)(r:V→Hp→VK→Prop):Prop:=
 ∀(pins:List (Addr×Obj))(s:Shared)(σ:St)(H:Hp)(x:V)(v:Value)(Q:VK),Inv X pins σ H s→RelV x v→r x H Q→
  wpAny (model X.prog X.w) X.A (f v) (EP X pins σ Q) X.xe s
noncomputable def ei(X:Cx)(f:Value)(r:List V→Hp→VK→Prop):Prop:=
 ∀(pins:List (Addr×Obj))(s:Shared)(σ:St)(H:Hp)(xs:List V) (us:List Value)(Q:VK),Inv X pins σ H s→bf xs us→r xs H Q→
  wpAny (model X.prog X.w) X.A (call f us) (EP X pins σ Q) X.xe s
noncomputable def yQ(r:R2)(ta tb:TE):TE:=fun σ H Q=>ta σ H fun x H1=>tb σ H1 fun y H2=>r x y H2 Q
noncomputable def Co(r:V→Hp→VK→Prop)(ta:TE):TE:=fun σ H Q=>ta σ H fun x H1=>r x H1 Q
noncomputable def rI(C:Int→Int→Prop)(g:Int→Int→V):R2:=fun x y H Q=>∃i j,x=.int i∧y=.int j∧C i j∧Q (g i j) H
noncomputable def xA(g:Int→Int→V):R2:=fun x y H Q=>∃i j,x=.int i∧y=.int j∧Q (g i j) H
noncomputable def rU(g:Int→V):V→Hp→VK→Prop:=fun x H Q=>∃i,x=.int i∧Q (g i) H
section
variable{X:Cx}{a b:Expr}{ta tb:TE}{pos:Pos}
theorem yH(ha:PE X a ta)(hb:PE X b tb){σ:St}{H:Hp}{R:V→V→Hp→Prop}(I:Inv X pins σ H s)
  (h:ta σ H fun x H1=>tb σ H1 fun y H2=>R x y H2)
  (hf:∀v u s2 x y H2,Inv X pins σ H2 s2→RelV x v→RelV y u→R x y H2→wpAny (model X.prog X.w) X.A (f v u) Q X.xe s2):
  wpAny (model X.prog X.w) X.A (eval a X.env) (fun v s₁=>wpAny (model X.prog X.w) X.A (eval b X.env) (fun u s₂=>wpAny (model X.prog X.w) X.A (f v u) Q X.xe s₂) X.xe s₁) X.xe s:=by
 refine bz (ha pins s σ H _ I h) fun v s1 hp=>?_
 obtain⟨x,H1,I1,r1,q1⟩:=hp
 refine bz (hb pins s1 σ H1 _ I1 q1) fun u s2 hp=>?_
 obtain⟨y,H2,I2,r2,q2⟩:=hp
 exact hf v u s2 x y H2 I2 r1 r2 q2
theorem z_{op:Operator}{r:R2}(ho:iA X (binaryOp op) r)(ha:PE X a ta)(hb:PE X b tb):PE X (.BinOp a op b pos) (yQ r ta tb):=by
 intro pins s σ H Q I h
 exact wpAny_BinOp (yH ha hb I h fun v u s2 x y H2 I2 rx ry q=>ho pins s2 σ H2 x y v u Q I2 rx ry q)
theorem zY{op:UnaryOp}{r:V→Hp→VK→Prop}(ho:B2 X (unaryOp op) r)(ha:PE X a ta):PE X (.UnaryOp op a pos) (Co r ta):=by
 intro pins s σ H Q I h
 exact UnaryOp_ (bz (ha pins s σ H _ I h) fun v s1 ⟨x,H1,I1,r1,q1⟩=>ho pins s1 σ H1 x v Q I1 r1 q1)
theorem A2{C:Int→Int→Prop}{g:Int→Int→Int}
  (rule:∀(i j:Int)(t u:Tok)(s:Shared)(Q:Value→Shared→Prop)(E:Value→Shared→Prop),C i j→Q (.int (g i j) s.toks) {s with toks:=s.toks+1}→wpAny (model X.prog X.w) X.A (f (.int i t) (.int j u)) Q E s):
  iA X f (rI C fun i j=>.int (g i j)):=by
 intro pins s σ H x y v u Q I rx ry h
 obtain⟨i,j,rfl,rfl,hc,q⟩:=h
 obtain⟨t,rfl⟩:=rx
 obtain⟨t',rfl⟩:=ry
 exact rule i j t t' s _ _ hc ⟨.int (g i j),H,I.tok _,⟨_,rfl⟩,q⟩
theorem Af{g:Int→Int→Int}
  (rule:∀(i j:Int)(t u:Tok)(s:Shared)(Q:Value→Shared→Prop)(E:Value→Shared→Prop),Q (.int (g i j) s.toks) {s with toks:=s.toks+1}→wpAny (model X.prog X.w) X.A (f (.int i t) (.int j u)) Q E s):
  iA X f (xA fun i j=>.int (g i j)):=by
 intro pins s σ H x y v u Q I rx ry h
 obtain⟨i,j,rfl,rfl,q⟩:=h
 obtain⟨t,rfl⟩:=rx
 obtain⟨t',rfl⟩:=ry
 exact rule i j t t' s _ _ ⟨.int (g i j),H,I.tok _,⟨_,rfl⟩,q⟩
theorem x5{g:Int→Int→Bool}
  (rule:∀(i j:Int)(t u:Tok)(s:Shared)(Q:Value→Shared→Prop)(E:Value→Shared→Prop),Q (.bool (g i j)) s→wpAny (model X.prog X.w) X.A (f (.int i t) (.int j u)) Q E s):
  iA X f (xA fun i j=>.bl (g i j)):=by
 intro pins s σ H x y v u Q I rx ry h
 obtain⟨i,j,rfl,rfl,q⟩:=h
 obtain⟨t,rfl⟩:=rx
 obtain⟨t',rfl⟩:=ry
 exact rule i j t t' s _ _ ⟨.bl (g i j),H,I,rfl,q⟩
noncomputable def Ca(i j:Int):Prop:=0≤j∧j≤1000000∧i.natAbs<2^64
noncomputable def yO(i j:Int):Prop:=(-(2^64)<i∧i<2^64)∨(-(2^64)<j∧j<2^64)
theorem yO.ok{i j:Int}(h:yO i j):IntMulOk i j:=by
 rcases h with⟨h1,h2⟩|⟨h1,h2⟩
 ·exact .of_left (intBits_le_64 h1 h2)
 ·exact .of_right (intBits_le_64 h1 h2)
theorem x4:iA X (binaryOp .Add) (xA fun i j=>.int (i+j)):=Af fun _ _ _ _ _ _ _ q=>add_int q
theorem xW:iA X (binaryOp .Sub) (xA fun i j=>.int (i - j)):=Af fun _ _ _ _ _ _ _ q=>sub_int q
theorem vE:iA X (binaryOp .Mod) (rI (fun _ j=>j≠0) fun i j=>.int (i.fmod j)):=A2 fun _ _ _ _ _ _ _ hc q=>mod_int' hc q
theorem xY:iA X (binaryOp .Pow) (rI Ca fun i j=>.int (i^j.toNat)):=A2 fun _ _ _ _ _ _ _ hc q=>pow_int_small hc.1 hc.2.1 hc.2.2 q
theorem Cn{f:Value→Sem Value}{g:Int→Int}
  (rule:∀(i:Int)(t:Tok)(s:Shared)(Q:Value→Shared→Prop)(E:Value→Shared→Prop),Q (.int (g i) s.toks) {s with toks:=s.toks+1}→wpAny (model X.prog X.w) X.A (f (.int i t)) Q E s):
  B2 X f (rU fun i=>.int (g i)):=by
 intro pins s σ H x v Q I rx h
 obtain⟨i,rfl,q⟩:=h
 obtain⟨t,rfl⟩:=rx
 exact rule i t s _ _ ⟨.int (g i),H,I.tok _,⟨_,rfl⟩,q⟩
theorem wY:B2 X (unaryOp .USub) (rU fun i=>.int (-i)):=Cn fun _ _ _ _ _ q=>neg_int q
end
section
variable{X:Cx}{a b c:Expr}{ta tb tc:TE}{pos:Pos}
theorem Ac:iA X (compareOp .Lt) (xA fun i j=>.bl (decide (i<j))):=x5 fun _ _ _ _ _ _ _ q=>lt_int q
theorem Ad:iA X (compareOp .LtE) (xA fun i j=>.bl (decide (i≤j))):=x5 fun _ _ _ _ _ _ _ q=>le_int q
theorem Ae:iA X (compareOp .Gt) (xA fun i j=>.bl (decide (j<i))):=x5 fun _ _ _ _ _ _ _ q=>gt_int q
theorem pi{op:CmpOp}{r:R2}(ho:iA X (compareOp op) r)(ha:PE X a ta)(hb:PE X b tb)(hm:behindInMarks op b=false):PE X (.Compare a [op] [b] pos) (yQ r ta tb):=by
 intro pins s σ H Q I h
 exact wpAny_Compare1 (yH ha hb I h fun v u s2 x y H2 I2 rx ry q=>ho pins s2 σ H2 x y v u Q I2 rx ry q) hm
noncomputable def re(t:TE):TT:=fun σ H Q=>t σ H fun x H'=>∃k,x=.bl k∧Q k H'
theorem o_{op:CmpOp}{r:R2}(ho:iA X (compareOp op) r)(ha:PE X a ta)(hb:PE X b tb)(hm:behindInMarks op b=false):PT X (.Compare a [op] [b] pos) (re (yQ r ta tb)):=by
 intro pins s σ H Q I h
 refine wpAny_isTrue_Compare1 (bz (ha pins s σ H _ I h) fun v s1 ⟨x,H1,I1,r1,q1⟩=>bz (hb pins s1 σ H1 _ I1 q1) fun u s2 ⟨y,H2,I2,r2,q2⟩=>
  bz (ho pins s2 σ H2 x y v u _ I2 r1 r2 q2) fun c s3 ⟨z,H3,I3,r3,k,e,q3⟩=>?_) hm
 subst e
 cases r3
 exact wpAny_truthy_bool ⟨H3,I3,q3⟩
noncomputable def nL(r r':R2)(ta tb tc:TE):TE:=fun σ H Q=>ta σ H fun x H1=>tb σ H1 fun y H2=>r x y H2 fun z H3=>∃k,z=.bl k∧
 (if k=true then tc σ H3 fun w' H4=>r' y w' H4 Q else Q (.bl false) H3)
theorem sm{op op':CmpOp}{r r':R2}(ho:iA X (compareOp op) r)(ho':iA X (compareOp op') r')(ha:PE X a ta)(hb:PE X b tb)(hc:PE X c tc)
  (hm:lastMarks [op,op'] [b,c]=false:=by with_unfolding_all rfl):PE X (.Compare a [op,op'] [b,c] pos) (nL r r' ta tb tc):=by
 intro pins s σ H Q I h
 refine Compare_chain (bz (ha pins s σ H _ I h) fun v s1 ⟨x,H1,I1,r1,q1⟩=>chain_link (bz (hb pins s1 σ H1 _ I1 q1) fun u s2 ⟨y,H2,I2,r2,q2⟩=>
  bz (ho pins s2 σ H2 x y v u _ I2 r1 r2 q2) fun d s3 ⟨z,H3,I3,r3,k,e,q3⟩=>?_)) hm
 subst e
 cases r3
 refine wpAny_truthy_bool ?_
 cases k with
 |false=>exact ite_ff ⟨.bl false,H3,I3,rfl,q3⟩
 |true=>exact ite_tt (chain_last (bz (hc pins s3 σ H3 _ I3 q3) fun w' s4 ⟨z',H4,I4,r4,q4⟩=>ho' pins s4 σ H4 y z' u w' Q I4 r2 r4 q4))
theorem rV{op op':CmpOp}{r r':R2}(ho:iA X (compareOp op) r)(ho':iA X (compareOp op') r')(ha:PE X a ta)(hb:PE X b tb)(hc:PE X c tc)
  (hm:lastMarks [op,op'] [b,c]=false:=by with_unfolding_all rfl):PT X (.Compare a [op,op'] [b,c] pos) (re (nL r r' ta tb tc)):=by
 intro pins s σ H Q I h
 refine isTrue_chain (bz (ha pins s σ H _ I h) fun v s1 ⟨x,H1,I1,r1,q1⟩=>test_link (bz (hb pins s1 σ H1 _ I1 q1) fun u s2 ⟨y,H2,I2,r2,q2⟩=>
  bz (ho pins s2 σ H2 x y v u _ I2 r1 r2 q2) fun d s3 ⟨z,H3,I3,r3,k,e,q3⟩=>?_)) hm
 subst e
 cases r3
 refine wpAny_truthy_bool ?_
 cases k with
 |false=>
  obtain⟨k',e',q'⟩:=q3
  cases e'
  exact ite_ff ⟨H3,I3,q'⟩
 |true=>
  refine ite_tt (test_last (bz (hc pins s3 σ H3 _ I3 q3) fun w' s4 ⟨z',H4,I4,r4,q4⟩=>bz (ho' pins s4 σ H4 y z' u w' _ I4 r2 r4 q4) fun d' s5 hp=>?_))
  obtain⟨z2,H5,I5,r5,k2,e2,q5⟩:=hp
  subst e2
  cases r5
  exact wpAny_truthy_bool ⟨H5,I5,q5⟩
theorem lQ:(sizeLine:Nat)<2^63:=by rw[sizeLine_eq];decide
theorem vals1{x:V}(r:bf [x] us):∃u,us=[u]∧RelV x u:=by
 cases r with
 |cons r1 r2=>cases r2;exact⟨_,rfl,r1⟩
theorem kR:ei X (.type "int") (fun xs H Q=>(∃i,xs=[.int i]∧Q (.int i) H)∨∃k,xs=[.bl k]∧Q (.int (if k then 1 else 0)) H):=by
 intro pins s σ H xs us Q I r h
 rcases h with⟨i,rfl,q⟩|⟨k,rfl,q⟩
 ·obtain⟨u,rfl,t,rfl⟩:=vals1 r
  exact call_int_int ⟨.int i,H,I,⟨_,rfl⟩,q⟩
 ·obtain⟨u,rfl,r1⟩:=vals1 r
  cases r1
  exact call_int_bool ⟨.int (if k then 1 else 0),H,I.tok _,⟨_,rfl⟩,q⟩
end
structure ObjM(h:Heap)(x dx C:Addr)(mA:Str→Option Value):Prop where
 obj:h.get? x=some (PySem.W.instObj C dx)
 ns:h.Ns1 dx mA
 ne:dx≠x
theorem hZ(n:h.Ns1 dx mA):∃od,h.get? dx=some od∧∀name,PySem.W.lookIn name od=some (mA name):=by
 obtain⟨o,es,ep,ho,hd,hk,_,hm⟩:=n
 refine⟨o,ho,fun name=>?_⟩
 have e:=hm name
 unfold nsFind findBy at e
 rw[←Array.find?_toList] at e
 unfold PySem.W.lookIn
 rw[hd]
 dsimp only
 split
 ·rename_i y q
  rw[q] at e
  exact congrArg some e
 ·rename_i q
  rw[q] at e
  have a:es.toList.any (·.refKey)=false:=by
   rw[List.any_eq_false]
   intro y hy
   obtain⟨z,t,hkey⟩:=hk y (Array.mem_toList_iff.mp hy)
   simp[DictEntry.refKey,hkey]
  have a':¬es.toList.any (·.refKey)=true:=by rw[a];exact aq
  rw[if_neg a']
  exact congrArg some e
theorem ObjM.look{x:Addr}(I:ObjM h x dx C mA):∃od,PySem.W.InstAt h x (PySem.W.instObj C dx) C (some od)∧∀name,PySem.W.lookIn name od=some (mA name):=
 let⟨od,ho,hl⟩:=hZ I.ns
 ⟨od,⟨I.obj,rfl,rfl,ho⟩,hl⟩
section
variable{prog:Program}{w:World}{A:Around}{E:Value→Shared→Prop}{s:Shared}{K:al}{x dx C f:Addr}{mA:Str→Option Value}{name:Str}{v:Value}
theorem vT{expr:Bool}(X:K.In s.heap)(I:ObjM s.heap x dx C mA)(hg:PySem.W.plainGet K C name=true)(hh:PySem.W.hasDictIn K C=true)
  (ha:PySem.W.findIn K (.ref C) name=some none)(hv:mA name=some v)(hv':PySem.W.handedIn v=true)(h:Q v {s with toks:=s.toks+1}):
  wpAny (model prog w) A (getAttr (.ref x) name expr) Q E s:=by
 obtain⟨od,J,hl⟩:=I.look
 exact PySem.W.get_value X J (PySem.W.plainGet_of hg).1 (PySem.W.findObj_own hh ha rfl (by rw[hl,hv])) hv' h
theorem sS{pl:Sem Bool}{Q:Value×List Value→Shared→Prop}(X:K.In s.heap)(I:ObjM s.heap x dx C mA)(hg:PySem.W.plainGet K C name=true)
  (hf:PySem.W.findIn K (.ref C) name=some (some (.ref f)))(ht:PySem.W.isFn K (.ref f)=true)(hv:mA name=none)(h:Q (.ref f,[.ref x]) s):
  wpAny (model prog w) A (getMethod (.ref x) name pl) Q E s:=by
 obtain⟨od,J,hl⟩:=I.look
 exact PySem.W.method_fn X J (PySem.W.plainGet_of hg).1 (PySem.W.plainGet_of hg).2 hf (beq_iff_eq.mp ht) (by show(PySem.W.lookIn name od).map (·.isSome)=some false;rw[hl,hv];rfl) h
theorem uK{ns:List Str}{Q:Unit→Shared→Prop}(X:K.In s.heap)(I:ObjM s.heap x dx C mA)
  (hs:PySem.W.findIn K (.ref C) "__setattr__"=some (some (.builtin "object.__setattr__"))) (hp:PySem.W.plainOver K C=true)(ht:PySem.W.takerIn K C name=some none)(hh:PySem.W.hasDictIn K C=true)
  (hw:PySem.Within mA ns)(hsz:ns.length≤sizeLine)
  (h:∀h',ObjM h' x dx C (fun y=>if y=name then some v else mA y)→Heap.SameBut dx s.heap h'→Q () {s with heap:=h',toks:=s.toks+2}):
  wpAny (model prog w) A (setAttr (.ref x) name v) Q E s:=by
 obtain⟨od,J,hl⟩:=I.look
 refine PySem.W.set_plain X J hs (PySem.W.osa_open (s:={s with toks:=s.toks+1}) (r:=none) X J hp ht fun b=>?_)
 obtain⟨cd,hc,hd'⟩:=PySem.W.any_some hh
 have hx:s.heap.get? x=some ⟨.ref C,some dx,.plain,#[]⟩:=I.obj
 refine aa (ae (aa (aa (wpAny_loadPart hx (aa (PySem.W.Looks.here (s:={s with toks:=s.toks+1}) (PySem.W.looks_clsIn X hc) ?_))))))
 rw[hd']
 refine ae (a:=some dx) (aa (ae (aa ?_)))
 refine wpAny_nsSet1 (s:={s with toks:=s.toks+1}) I.ns fun h' hn2 hs2=>?_
 obtain⟨oD,esD,epD,hoD,hdD,hcD⟩:=hn2.count (PySem.Within.cons name v hw)
 refine aa (wpAny_lookBehind hoD (by rw[hdD];exact pastItsLine_dict (aI hcD (by rw[List.length_cons];omega))) ?_)
 exact ae (h _ ⟨(hs2.2 _ (Ne.symm I.ne)).trans I.obj,hn2,I.ne⟩ hs2)
theorem sC{R:Result→Shared→Prop}{vs:List Value}(X:K.In s.heap)(hm:PySem.W.makesIn K C=true)
  (hi:PySem.W.findIn K (.ref C) "__init__"=some (some (.ref f))) (hf:PySem.W.typeIn K (.ref f)=some (.type "function"))
  (h:codeAny (model prog w) (A.under (.builtin "type.__call__" ⟨.ref C::vs,kw⟩)) (.call (.ref f) ⟨.ref (s.heap.objs.size+1)::vs,kw⟩) (PySem.W.InitBack (s.heap.objs.size+1) R)
   {s with heap:=(s.heap.push PySem.W.emptyDict).push (PySem.W.instObj C s.heap.objs.size)}):
  codeAny (model prog w) A (.call (.ref C) ⟨vs,kw⟩) R s:=by
 obtain⟨hh,g,d,t,os⟩:=s
 exact PySem.W.make_core (PySem.W.makes_of X hm) (PySem.W.looks_findIn X hi) (fun self=>PySem.W.bind_fn X self hf) (.inl rfl) h
end
noncomputable def cK(f:Str)(v:V):List (Str×V)→List (Str×V)
 |[]=>[(f,v)]
 |(g,x)::r=>if g=f then(g,v)::r else(g,x)::cK f v r
theorem fJ(f g:Str)(v:V):∀fs:List (Str×V),(cK f v fs).lookup g=if g=f then some v else fs.lookup g
 |[]=>by
  show List.lookup g [(f,v)]=_
  by_cases h:g=f
  ·have hb:(g==f)=true:=beq_iff_eq.mpr h
   simp only[List.lookup,hb,if_pos h]
  ·have hb:(g==f)=false:=beq_eq_false_iff_ne.mpr h
   simp only[List.lookup,hb,if_neg h]
 |(k,x)::r=>by
  have ih:=fJ f g v r
  rw[show cK f v ((k,x)::r)=(if k=f then(k,v)::r else(k,x)::cK f v r) from rfl]
  by_cases hk:k=f
  ·rw[if_pos hk]
   by_cases h:g=k
   ·have hb:(g==k)=true:=beq_iff_eq.mpr h
    simp only[List.lookup,hb,if_pos (h.trans hk)]
   ·have hb:(g==k)=false:=beq_eq_false_iff_ne.mpr h
    simp only[List.lookup,hb,if_neg (fun e:g=f=>h (e.trans hk.symm))]
  ·rw[if_neg hk]
   by_cases h:g=k
   ·have hb:(g==k)=true:=beq_iff_eq.mpr h
    simp only[List.lookup,hb,if_neg (fun e:g=f=>hk (h.symm.trans e))]
   ·have hb:(g==k)=false:=beq_eq_false_iff_ne.mpr h
    simp only[List.lookup,hb]
    exact ih
theorem eJ(f:Str)(v:V):∀fs:List (Str×V),f∈(cK f v fs).map (·.1)∧∀g,g∈fs.map (·.1)→g∈(cK f v fs).map (·.1)
 |[]=>⟨by simp[cK],fun g h=>by simp at h⟩
 |(k,x)::r=>by
  obtain⟨i1,i2⟩:=eJ f v r
  rw[show cK f v ((k,x)::r)=(if k=f then(k,v)::r else(k,x)::cK f v r) from rfl]
  by_cases hk:k=f
  ·rw[if_pos hk]
   subst hk
   exact⟨by simp,fun g h=>by simpa using h⟩
  ·rw[if_neg hk]
   refine⟨?_,fun g h=>?_⟩
   ·rw[List.map_cons]
    exact List.mem_cons_of_mem _ i1
   ·rw[List.map_cons] at h ⊢
    rcases List.mem_cons.mp h with e|e
    ·exact List.mem_cons.mpr (.inl e)
    ·exact List.mem_cons_of_mem _ (i2 g e)
theorem dZ(f:Str)(v:V):∀fs:List (Str×V),(cK f v fs).length≤fs.length+1
 |[]=>by simp[cK]
 |(k,x)::r=>by
  have ih:=dZ f v r
  rw[show cK f v ((k,x)::r)=(if k=f then(k,v)::r else(k,x)::cK f v r) from rfl]
  by_cases hk:k=f
  ·rw[if_pos hk,List.length_cons,List.length_cons];omega
  ·rw[if_neg hk,List.length_cons,List.length_cons];omega
theorem et.some_of{v:V}{o:Option Value}(r:et (some v) o):∃u,o=some u∧RelV v u:=by
 cases o with
 |none=>exact(show False from r).elim
 |some u=>exact⟨u,rfl,r⟩
theorem et.none_of{o:Option Value}(r:et none o):o=none:=by
 cases o with
 |none=>rfl
 |some u=>exact(show False from r).elim
theorem kB{v:V}(r:RelV v u):PySem.W.handedIn u=true:=by
 cases v with
 |non=>cases(show u=Value.none from r);rfl
 |bl b=>cases(show u=Value.bool b from r);rfl
 |int i=>obtain⟨t,e⟩:=(show ∃t,u=Value.int i t from r);cases e;rfl
 |str x=>obtain⟨t,e⟩:=(show ∃t,u=Value.str x t from r);cases e;rfl
 |byt b=>obtain⟨t,e⟩:=(show ∃t,u=Value.bytes b t from r);cases e;rfl
 |flt b=>obtain⟨t,e⟩:=(show ∃t,u=Value.float b t from r);cases e;rfl
 |ref a=>cases(show u=Value.ref a from r);rfl
 |ty n=>cases(show u=Value.type n from r);rfl
section
variable{P:Program}{w:World}{H:Hp}{h:Heap}{a C dx:Addr}{fs:List (Str×V)}
theorem lU(hok:fS P w H h)(e:H a=some (.ins C dx fs)):∃mA,ObjM h a dx C mA∧(∀f,et (fs.lookup f) (mA f))∧PySem.Within mA (fs.map (·.1))∧fs.length≤1000∧H dx=some (.own a):=by
 obtain⟨d,z,ne,ob,mA,n,r,q⟩:=(show bI P w H h a (.ins C dx fs) from hok a _ e)
 exact⟨mA,⟨ob,n,ne⟩,r,q,z,d⟩
end
structure Cls(K:al)(C:Addr):Prop where
 pg:PySem.W.plainGet K C Str.empty=true
 hd:PySem.W.hasDictIn K C=true
 po:PySem.W.plainOver K C=true
 sa:PySem.W.findIn K (.ref C) "__setattr__"=some (some (.builtin "object.__setattr__"))
theorem Cls.get{K:al}(c:Cls K C)(f:Str):PySem.W.plainGet K C f=true:=c.pg
noncomputable def ez(K:al)(C:Addr)(f:Str):Prop:=PySem.W.findIn K (.ref C) f=some none
theorem ez.taker{K:al}{f:Str}(n:ez K C f):PySem.W.takerIn K C f=some none:=by
 unfold PySem.W.takerIn
 rw[show PySem.W.findIn K (.ref C) f=some none from n]
 rfl
structure Meth(K:al)(C:Addr)(m:Str)(f:Addr):Prop where
 at_:PySem.W.findIn K (.ref C) m=some (some (.ref f))
 fn:PySem.W.isFn K (.ref f)=true
 kp:PySem.W.keepIn K (.ref f)=true
section
variable{X:Cx}{pins:List (Addr×Obj)}{σ:St}{H:Hp}{s:Shared}{a C dx:Addr}{fs:List (Str×V)}{f:Str}{v:V}{A:Around}{E:Value→Shared→Prop}
theorem jy{b:Bool}(I:Inv X pins σ H s)(e:H a=some (.ins C dx fs))(c:Cls X.K C)(n:ez X.K C f)(l:fs.lookup f=some v)
  (h:∀u s',Inv X pins σ H s'→RelV v u→Q u s'):wpAny (model X.prog X.w) A (getAttr (.ref a) f b) Q E s:=by
 obtain⟨mA,O,r,_,_,_⟩:=lU I.hok e
 obtain⟨u,hu,ru⟩:=et.some_of (v:=v) (o:=mA f) (by rw[←l];exact r f)
 exact vT I.kIn O (c.get f) c.hd n hu (kB ru) (h u _ (I.tok _) ru)
theorem jx{m:Str}{g:Addr}{pl:Sem Bool}{Q:Value×List Value→Shared→Prop}(I:Inv X pins σ H s)(e:H a=some (.ins C dx fs))(c:Cls X.K C)(k:Meth X.K C m g)(l:fs.lookup m=none)
  (h:Q (.ref g,[.ref a]) s):wpAny (model X.prog X.w) A (getMethod (.ref a) m pl) Q E s:=by
 obtain⟨mA,O,r,_,_,_⟩:=lU I.hok e
 have hn:mA m=none:=et.none_of (by rw[←l];exact r m)
 exact sS I.kIn O (c.get m) k.at_ k.fn hn h
theorem ja{y:V}{Q:Unit→Shared→Prop}(I:Inv X pins σ H s)(e:H a=some (.ins C dx fs))(c:Cls X.K C)(n:ez X.K C f)(hl:fs.length<1000)(ry:RelV y u)
  (h:∀s',Inv X pins σ (bj H a (.ins C dx (cK f y fs))) s'→Q () s'):wpAny (model X.prog X.w) A (setAttr (.ref a) f u) Q E s:=by
 obtain⟨mA,O,r,wi,_,ho⟩:=lU I.hok e
 have hz:(fs.map (·.1)).length≤sizeLine:=by rw[List.length_map,sizeLine_eq];omega
 refine uK I.kIn O c.sa c.po n.taker c.hd wi hz fun h' O' sb=>h _ ?_
 have hd:∃o,h'.get? dx=some o:=let⟨o,_,_,e',_⟩:=O'.ns;⟨o,e'⟩
 refine I.write (x:=a) (e:=dx) (by rw[e];exact True.intro) (.inr ho) (fun b q hb z=>(sb.2 b hb).trans z) hd ?_
 refine⟨by rw[av O.ne];exact ho,?_,O.ne,O'.obj,_,O'.ns,fun g=>?_,fun g hg=>?_⟩
 ·have:=dZ f y fs;omega
 ·show et ((cK f y fs).lookup g) (if g=f then some u else mA g)
  rw[fJ]
  by_cases q:g=f
  ·rw[if_pos q,if_pos q];exact ry
  ·rw[if_neg q,if_neg q];exact r g
 ·by_cases q:g=f
  ·rw[q];exact(eJ f y fs).1
  ·refine(eJ f y fs).2 g (wi g fun z=>hg ?_)
   show(if g=f then some u else mA g)=none
   rw[if_neg q];exact z
theorem Inv.made(I:Inv X pins σ H s):Inv X pins σ (bj (bj H s.heap.objs.size (.own (s.heap.objs.size+1))) (s.heap.objs.size+1) (.ins C s.heap.objs.size []))
  {s with heap:=(s.heap.push PySem.W.emptyDict).push (PySem.W.instObj C s.heap.objs.size)}:=by
 have e1:(s.heap.push PySem.W.emptyDict).get? s.heap.objs.size=some PySem.W.emptyDict:=ak s.heap rfl
 have e2:((s.heap.push PySem.W.emptyDict).push (PySem.W.instObj C s.heap.objs.size)).get? (s.heap.objs.size+1)=some (PySem.W.instObj C s.heap.objs.size):=by
  have:=ak (s.heap.push PySem.W.emptyDict) (o:=PySem.W.instObj C s.heap.objs.size) rfl
  rwa [Heap.size_push] at this
 have e3:(s.heap.push PySem.W.emptyDict).Ns s.heap.objs.size (fun _=>none):=⟨PySem.W.emptyDict,#[],_,e1,rfl,(fun e he=>absurd he (by simp)),fun _=>rfl⟩
 have I1:=I.laid (a:=s.heap.objs.size) (o:= .own (s.heap.objs.size+1)) (h':=s.heap.push PySem.W.emptyDict) (t':=s.toks) (fun b u q=>ac _ q) (af _) ⟨_,e1⟩
 refine I1.laid (a:=s.heap.objs.size+1) (o:= .ins C s.heap.objs.size []) (t':=s.toks) (fun b u q=>ac _ q) (Nat.le_of_eq (Heap.size_push _ _)) ?_
 have ne:s.heap.objs.size≠s.heap.objs.size+1:=ai (aB _)
 refine⟨by rw[av ne,ba],Nat.zero_le _,ne,e2,fun _=>none,(Heap.Ns1.of_empty e3).at fun o q=>ac _ q,fun _=>True.intro,fun y hy=>absurd rfl hy⟩
theorem pO{prog:Program}{env:Env}{f:Str}{s:Shared}(hb:attributeBase e f env (eval e env)=eval e env)
  (h:wpAny (model prog w) A (eval e env) (fun o s₁=>wpAny (model prog w) A (getAttr o f true) Q E s₁) E s):wpAny (model prog w) A (eval (.Attribute e f pos) env) Q E s:=
 Attribute_any_ h (by rw[arm_eval_Attribute,hb])
end
noncomputable def Bq(K:al)(ta:TE)(f:Str):TE:=fun σ H Q=>ta σ H fun x H1=>∃a C dx fs v,x=.ref a∧H1 a=some (.ins C dx fs)∧Cls K C∧ez K C f∧fs.lookup f=some v∧Q v H1
noncomputable def Bz(K:al)(ta tv:TE)(f:Str):TS:=fun D σ H=>tv σ H fun y H1=>ta σ H1 fun x H2=>∃a C dx fs,x=.ref a∧H2 a=some (.ins C dx fs)∧Cls K C∧ez K C f∧fs.length<1000∧
 D.nx σ (bj H2 a (.ins C dx (cK f y fs)))
noncomputable def AY(X:Cx)(op:Operator)(rd:V→V→Hp→VK→Prop):Prop:=
 ∀(pins:List (Addr×Obj))(s:Shared)(σ:St)(H:Hp)(x y:V)(u v:Value)(Q:VK),Inv X pins σ H s→RelV x u→RelV y v→rd x y H Q→wpAny (model X.prog X.w) X.A (inplaceOp op u v) (EP X pins σ Q) X.xe s
noncomputable def vc(K:al)(ta tv:TE)(rd:V→V→Hp→VK→Prop)(f:Str):TS:=fun D σ H=>ta σ H fun x H1=>∃a C dx fs v,x=.ref a∧H1 a=some (.ins C dx fs)∧Cls K C∧ez K C f∧fs.lookup f=some v∧
 tv σ H1 fun y H2=>rd v y H2 fun z H3=>∃dx' fs',H3 a=some (.ins C dx' fs')∧fs'.length<1000∧D.nx σ (bj H3 a (.ins C dx' (cK f z fs')))
section
variable{X:Cx}{o e value:Expr}{f:Str}{pos pos' tpos:Pos}{ta tv:TE}
theorem xT(he:PE X e ta)(hb:attributeBase e f X.env (eval e X.env)=eval e X.env):PE X (.Attribute e f pos) (Bq X.K ta f):=by
 intro pins s σ H Q I h
 refine pO hb (bz (he pins s σ H _ I h) fun u s1 hp=>?_)
 obtain⟨x,H1,I1,rx,a,C,dx,fs,v,ex,ea,c,n,l,q⟩:=hp
 subst ex
 obtain rfl:u=Value.ref a:=rx
 exact jy I1 ea c n l fun u' s2 I2 ru=>⟨v,H1,I2,ru,q⟩
theorem xG(ha:PE X o ta)(hv:PE X value tv)(hs:swapsWith value (some (.Attribute o f pos')) pos.line X.env=pure false):PS X (.Assign [.Attribute o f pos'] value pos) (Bz X.K ta tv f):=by
 intro pins s σ H D I h
 refine plainObj_wpAny_Assign_Attribute (bz (hv pins s σ H _ I h) fun u s1 ⟨y,H1,I1,ry,q⟩=>bz (ha pins s1 σ H1 _ I1 q) fun ov s2 ⟨x,H2,I2,rx,a,C,dx,fs,ex,ea,c,n,l,q2⟩=>?_) hs
 subst ex
 obtain rfl:ov=Value.ref a:=rx
 exact ja I2 ea c n l ry fun s3 I3=>⟨σ,_,I3,q2⟩
theorem p7{op:Operator}{rd:V→V→Hp→VK→Prop}(ha:PE X o ta)(hv:PE X value tv)(hop:AY X op rd):PS X (.AugAssign (.Attribute o f tpos) op value pos) (vc X.K ta tv rd f):=by
 intro pins s σ H D I h
 refine wpAny_AugAssign_AttributeAny (bz (ha pins s σ H _ I h) fun ov s1 hp=>?_)
 obtain⟨x,H1,I1,rx,a,C,dx,fs,v,ex,ea,c,n,l,q⟩:=hp
 subst ex
 obtain rfl:ov=Value.ref a:=rx
 refine jy I1 ea c n l fun u s2 I2 ru=>bz (hv pins s2 σ H1 _ I2 q) fun w3 s3 ⟨y,H2,I3,ry,q3⟩=>bz (hop pins s3 σ H2 v y u w3 _ I3 ru ry q3) fun w4 s4 hp=>?_
 obtain⟨z,H3,I4,rz,dx',fs',ea',l',q4⟩:=hp
 exact ja I4 ea' c n l' rz fun s5 I5=>⟨σ,_,I5,q4⟩
noncomputable def BI:V→V→Hp→VK→Prop:=fun x y H Q=>∃i j,x=.int i∧y=.int j∧Q (.int (i+j)) H
theorem ym:AY X .Add BI:=by
 rintro pins s σ H x y u v Q I rx ry ⟨i,j,rfl,rfl,q⟩
 obtain⟨t,rfl⟩:=(show ∃t,u=Value.int i t from rx)
 obtain⟨t',rfl⟩:=(show ∃t',v=Value.int j t' from ry)
 exact PyProof.Rows.iadd_int ⟨.int (i+j),H,I.tok _,⟨_,rfl⟩,q⟩
end
section
end
structure Room(k:Nat)(A:Around):Prop where
 hd:A.handled=none
 dp:A.depth+3*k+5<recursionLimit
 un:A.units+16*k+200<cLine
theorem Room.mono{k:Nat}(r:Room k A)(h:j≤k):Room j A:=⟨r.hd,by have:=r.dp;omega,by have:=r.un;omega⟩
theorem Room.deeper{k:Nat}(r:Room (k+1) A)(env:Env):Room k (A.deeper env):=
 ⟨r.hd,by have:=r.dp;show A.depth+1+3*k+5<_;omega,by have:=r.un;show A.units+3+16*k+200<_;omega⟩
theorem n8:(A.under (.builtin "type.__call__" ⟨.ref C::us,kw⟩)).depth=A.depth+1:=by
 first|rfl|simp[Around.under,Code.weight,Code.isCreation,Code.isGuard,Code.isCaller,Code.frames,Code.isFrame,guardIds]
theorem n6:(A.under (.builtin "type.__call__" ⟨.ref C::us,kw⟩)).units=A.units+1:=by
 first|rfl|simp[Around.under,Code.cUnits,Code.frames,Code.isFrame]
theorem Room.make{k:Nat}(r:Room (k+1) A)(C:Addr)(us:List Value)(kw:List (Str×Value)):Room k (A.under (.builtin "type.__call__" ⟨.ref C::us,kw⟩)):=
 ⟨r.hd,by have:=r.dp;rw[n8];omega,by have:=r.un;rw[n6];omega⟩
theorem Room.depth{k:Nat}(r:Room k A):A.depth<recursionLimit:=by have:=r.dp;omega
noncomputable def pV:TA:=fun _ H Q=>Q [] H
noncomputable def oW(ta:TE)(tr:TA):TA:=fun σ H Q=>ta σ H fun x H1=>tr σ H1 fun xs H2=>Q (x::xs) H2
section
variable{X:Cx}{e:Expr}{es:List Expr}{te:TE}{t:TA}{pos:Pos}
theorem c_:PA X [] pV:=fun _ _ _ _ H Q I h=>Calls.spliced_nil ⟨[],H,I,.nil,h⟩
theorem bC(ha:PE X e te)(hr:PA X es t)(hs:starEach (e::es) X.env=(false,eval e X.env)::starEach es X.env:=by rfl):PA X (e::es) (oW te t):=by
 intro pos pins s σ H Q I h
 rw[hs]
 show wpAny _ _ (spliced ((false,eval e X.env)::backTo pos (starEach es X.env))) _ _ s
 refine Calls.spliced_cons (bz (ha pins s σ H _ I h) fun u s1 hp=>?_)
 obtain⟨x,H1,I1,r1,q1⟩:=hp
 exact bz (hr pos pins s1 σ H1 _ I1 q1) fun us s2 ⟨xs,H2,I2,r2,q2⟩=>⟨x::xs,H2,I2,.cons r1 r2,q2⟩
noncomputable def Bg(t:TA):TE:=fun σ H Q=>t σ H fun xs H1=>xs.length≤sizeLine∧∀p,H1 p=none→Q (.ref p) (bj H1 p (.tup xs))
noncomputable def Bm(t:TA):TE:=fun σ H Q=>t σ H fun xs H1=>xs.length≤sizeLine∧∀p,H1 p=none→Q (.ref p) (bj H1 p (.lst xs))
theorem xN{x1}(h:PA X es t):PE X (.Tuple es x1 pos) (Bg t):=by
 intro pins s σ H Q I hq
 refine wpAny_Tuple_spliced (bz (h pos pins s σ H _ I hq) fun us s1 ⟨xs,H1,I1,r,z,q⟩=>⟨by rw[←r.length];exact z,?_⟩)
 have hf:H1 s1.heap.objs.size=none:=I1.hok.fresh (af _)
 refine⟨.ref s1.heap.objs.size,bj H1 s1.heap.objs.size (.tup xs),I1.laid (t':=s1.toks) (fun b u e=>ac _ e) (af _) ?_,rfl,q _ hf⟩
 exact⟨z,us,r,⟨_,ak _ rfl,rfl,_,rfl⟩⟩
theorem xR(h:PA X es t):PE X (.List es pos) (Bm t):=by
 intro pins s σ H Q I hq
 refine wpAny_List_spliced (bz (h pos pins s σ H _ I hq) fun us s1 ⟨xs,H1,I1,r,z,q⟩=>⟨by rw[←r.length];exact z,?_⟩)
 have hf:H1 s1.heap.objs.size=none:=I1.hok.fresh (af _)
 refine⟨.ref s1.heap.objs.size,bj H1 s1.heap.objs.size (.lst xs),I1.laid (t':=s1.toks) (fun b u e=>ac _ e) (af _) ?_,rfl,q _ hf⟩
 exact⟨z,us,0,r,ak _ rfl⟩
end
noncomputable abbrev Sp:=List V→Hp→VK→XK→Prop
noncomputable abbrev t4:=List Env→Hp→Shared→XK→Value→Shared→Prop
structure Env0(P:Program)(w:World)(K:al)(mg:Str→Option Value)(base:Heap)(A:Around)(outer:List Env)(s:Shared)(H:Hp):Prop where
 frames:A.frames=some outer
 mod:Mod K mg base
 bs:∀b o,base.get? b=some o→s.heap.get? b=some o∧H b=none
 bsz:base.objs.size≤s.heap.objs.size
 funs:s.heap.FunFrames base outer
 frf:∀b∈eE outer,H b=none
 hok:fS P w H s.heap
 bare:AllBare s.gens
noncomputable def CE(outer:List Env)(P:Program)(w:World)(H:Hp)(s:Shared)(Q:VK)(u:Value)(s':Shared):Prop:=
 ∃v H',s'.os=s.os∧AllBare s'.gens∧Un (eE outer) [] H H' s.heap s'.heap∧fS P w H' s'.heap∧RelV v u∧Q v H'
noncomputable def CR(CX:t4)(outer:List Env)(P:Program)(w:World)(H:Hp)(s:Shared)(Q:VK)(E:XK)(r:Result)(s':Shared):Prop:=
 match r with
 | .ok (.ret u)=>CE outer P w H s Q u s'
 | .ok _=>False
 | .error e=>CX outer H s E e s'
structure FnOk(P:Program)(w:World)(K:al)(mg:Str→Option Value)(base:Heap)(CX:t4)(k:Nat)(f:Addr)(fd:FuncData)(ps:List Str)(sp:Sp):Prop where
 len:∀vs H Q E,sp vs H Q E→vs.length=ps.length
 run:∀(A:Around)(outer:List Env)(s:Shared)(H:Hp)(args:Args)(us:List Value) (vs:List V)(Q:VK)(E:XK),Room k A→Env0 P w K mg base A outer s H→BindsTo s fd args (ps.zip us)→bf vs us→sp vs H Q E→
  codeAny (model P w) A (.call (.ref f) args) (CR CX outer P w H s Q E) s
theorem FnOk.imp{K:al}{CX:t4}{k:Nat}{f:Addr}{fd:FuncData}{ps:List Str}{sp sp':Sp}(F:FnOk P w K mg base CX k f fd ps sp)
  (h:∀vs H Q E,sp' vs H Q E→sp vs H Q E):FnOk P w K mg base CX k f fd ps sp':=
 ⟨fun vs H Q E q=>F.len vs H Q E (h _ _ _ _ q),fun A outer s H args us vs Q E hr he hb hv hs=>F.run A outer s H args us vs Q E hr he hb hv (h _ _ _ _ hs)⟩
theorem Env0.make{K:al}{outer:List Env}{H:Hp}(e:Env0 P w K mg base A outer s H)(C:Addr)(us:List Value)(kw:List (Str×Value)):
  Env0 P w K mg base (A.under (.builtin "type.__call__" ⟨.ref C::us,kw⟩)) outer s H:=⟨by first|exact e.frames|(simpa[Around.under,Code.envs,Code.isFrame,pushEnvs] using e.frames),e.mod,e.bs,e.bsz,e.funs,e.frf,e.hok,e.bare⟩
section
variable{X:Cx}{pins:List (Addr×Obj)}{σ:St}{H:Hp}{s s':Shared}
theorem Inv.env0(I:Inv X pins σ H s):Env0 X.prog X.w X.K X.mg X.base X.A X.stack s H:=
 ⟨I.ok.frames,I.ok.mod,I.bs,aI I.ok.bsz I.sz,I.stack,I.stkFree,I.hok,I.bare⟩
theorem Inv.after{Q:VK}(I:Inv X pins σ H s)(h:CE X.stack X.prog X.w H s Q u s'):EP X pins σ Q u s':=by
 obtain⟨v,H',os,bare,un,hok,r,q⟩:=h
 obtain⟨hh,g,d,t,os'⟩:=s'
 obtain rfl:os'=s.os:=os
 exact⟨v,H',I.call (h':=hh) (g':=g) (d':=d) (t':=t) (ch:=[]) un hok bare (fun b z=>absurd z (by simp)),r,q⟩
end
noncomputable def zo(sp:Sp)(dvs:List V)(E:XK)(t:TA):TE:=fun σ H Q=>t σ H fun vs H1=>sp (vs++dvs) H1 Q E
noncomputable def zk(C:Addr)(sp:Sp)(dvs:List V)(E:XK)(t:TA):TE:=fun σ H Q=>t σ H fun vs H1=>∀x dx,H1 x=none→H1 dx=none→dx≠x→
 sp (.ref x::(vs++dvs)) (bj (bj H1 dx (.own x)) x (.ins C dx [])) (fun v H2=>v=.non∧Q (.ref x) H2) E
noncomputable def Binds(K:al)(fd:FuncData)(ps:List Str)(ds:List Value):Prop:=
 ∀(s:Shared)(us:List Value),K.In s.heap→(us++ds).length=ps.length→BindsTo s fd ⟨us,[]⟩ (ps.zip (us++ds))
theorem Binds.all{K:al}{fd:FuncData}{ps:List Str}(h:∀us:List Value,us.length=ps.length→bindArgs fd ⟨us,[]⟩=pure (ps.zip us)):Binds K fd ps []:=fun s us _ hl=>by
 rw[List.append_nil] at hl ⊢
 exact .of_eq (h us hl)
noncomputable def jQ(CX:t4)(X:Cx)(E:XK):Prop:=∀(pins:List (Addr×Obj))(σ:St)(H:Hp)(s:Shared)(e:Value)(s':Shared),Inv X pins σ H s→CX X.stack H s E e s'→X.xe e s'
section
variable{X:Cx}{CX:t4}{k:Nat}{f C:Addr}{fd:FuncData}{ps:List Str}{sp:Sp}{dvs:List V}{ds:List Value}{E:XK}{x:Str}{p pos:Pos}{e:Expr}{es:List Expr}{t:TA}
theorem xz{σ:St}{H:Hp}{Q:VK}{vs:List V}(F:FnOk X.prog X.w X.K X.mg X.base CX k f fd ps sp)(hr:Room k X.A)(hb:Binds X.K fd ps ds)(hd:bf dvs ds)(hx:jQ CX X E)
  (I:Inv X pins σ H s)(r:bf vs us)(h:sp (vs++dvs) H Q E):wpAny (model X.prog X.w) X.A (call (.ref f) us) (EP X pins σ Q) X.xe s:=by
 have r2:bf (vs++dvs) (us++ds):=r.append hd
 have hl:(us++ds).length=ps.length:=by rw[←r2.length];exact F.len _ _ _ _ h
 refine wpAny_call (codeAny_mono (F.run X.A X.stack s H ⟨us,[]⟩ (us++ds) (vs++dvs) Q E hr I.env0 (hb s us I.kIn hl) r2 h) fun r s' hq=>?_)
 cases r with
 |error e=>exact hx pins σ H s e s' I hq
 |ok fl=>
  cases fl with
  |ret u=>exact I.after hq
  |next=>exact False.elim hq
  |brk=>exact False.elim hq
  |cont=>exact False.elim hq
theorem vB(F:FnOk X.prog X.w X.K X.mg X.base CX k f fd ps sp)(hr:Room k X.A)(hg:Gl X x)(hm:X.mg x=some (.ref f))(hk:PySem.W.keepIn X.K (.ref f)=true)(hb:Binds X.K fd ps ds)(hd:bf dvs ds)(hx:jQ CX X E)
  (ha:PA X (e::es) t)(hdb:(x==("__debug__":Str))=false:=by decide) (he:starEach (e::es) X.env=(false,eval e X.env)::starEach es X.env:=by rfl)(hpl:(backTo pos (starEach es X.env)).any (·.1)=false:=by rfl):
  PE X (.Call (.Name x p) (e::es) [] pos) (zo sp dvs E t):=by
 intro pins s σ H Q I h
 refine wpAny_Call_Name_kw (d3 I hg hm ?_ hdb)
 refine PySem.W.callWith_K (h₀:=X.base) I.ok.mod.kin hk (bz (ha pos pins s σ H _ I h) fun us s1 ⟨vs,H1,I1,r,q⟩=>⟨I1.kIn,?_⟩) he hpl
 exact xz F hr hb hd hx I1 r q
structure Mk(K:al)(C f:Addr):Prop where
 makes:PySem.W.makesIn K C=true
 init:PySem.W.findIn K (.ref C) "__init__"=some (some (.ref f))
 fn:PySem.W.isFn K (.ref f)=true
 kp:PySem.W.keepIn K (.ref C)=true
theorem rN{σ:St}{H:Hp}{Q:VK}{vs:List V}(M:Mk X.K C f)(F:FnOk X.prog X.w X.K X.mg X.base CX k f fd ps sp)(hr:Room (k+1) X.A)(hb:Binds X.K fd ps ds)(hd:bf dvs ds)
  (hx:jQ CX X E)(I:Inv X pins σ H s)(r:bf vs us)
  (h:∀x dx,H x=none→H dx=none→dx≠x→sp (.ref x::(vs++dvs)) (bj (bj H dx (.own x)) x (.ins C dx [])) (fun v H2=>v=.non∧Q (.ref x) H2) E):
  wpAny (model X.prog X.w) X.A (call (.ref C) us) (EP X pins σ Q) X.xe s:=by
 have hq:=h (s.heap.objs.size+1) s.heap.objs.size (I.hok.fresh (Nat.le_succ _)) (I.hok.fresh (af _)) (ai (aB _))
 have I2:=Inv.made (C:=C) I
 have r2:bf (V.ref (s.heap.objs.size+1)::(vs++dvs)) (Value.ref (s.heap.objs.size+1)::(us++ds)):= .cons rfl (r.append hd)
 have hl:(Value.ref (s.heap.objs.size+1)::us++ds).length=ps.length:=by
  have e:=r2.length
  rw[F.len _ _ _ _ hq] at e
  exact e.symm
 refine wpAny_call (sC (f:=f) I.kIn M.makes M.init (beq_iff_eq.mp M.fn) (codeAny_mono (F.run _ X.stack _ _ ⟨Value.ref (s.heap.objs.size+1)::us,[]⟩ (Value.ref (s.heap.objs.size+1)::(us++ds)) _ _ E (hr.make C us [])
  (I2.env0.make C us []) (hb _ (Value.ref (s.heap.objs.size+1)::us) I2.kIn hl) r2 hq) fun r s' hq'=>?_))
 cases r with
 |error e=>exact hx pins σ _ _ e s' I2 hq'
 |ok fl=>
  cases fl with
  |ret u=>
   obtain⟨v,H',I3,rv,ev,q3⟩:=I2.after hq'
   subst ev
   exact⟨rv,⟨V.ref (s.heap.objs.size+1),H',I3,rfl,q3⟩⟩
  |next=>exact False.elim hq'
  |brk=>exact False.elim hq'
  |cont=>exact False.elim hq'
theorem vt(M:Mk X.K C f)(F:FnOk X.prog X.w X.K X.mg X.base CX k f fd ps sp)(hr:Room (k+1) X.A)(hg:Gl X x)(hm:X.mg x=some (.ref C))(hb:Binds X.K fd ps ds)(hd:bf dvs ds)(hx:jQ CX X E)
  (ha:PA X (e::es) t)(hdb:(x==("__debug__":Str))=false:=by decide) (he:starEach (e::es) X.env=(false,eval e X.env)::starEach es X.env:=by rfl)(hpl:(backTo pos (starEach es X.env)).any (·.1)=false:=by rfl):
  PE X (.Call (.Name x p) (e::es) [] pos) (zk C sp dvs E t):=by
 intro pins s σ H Q I h
 refine wpAny_Call_Name_kw (d3 I hg hm ?_ hdb)
 refine PySem.W.callWith_K (h₀:=X.base) I.ok.mod.kin M.kp (bz (ha pos pins s σ H _ I h) fun us s1 ⟨vs,H1,I1,r,q⟩=>⟨I1.kIn,?_⟩) he hpl
 exact rN M F hr hb hd hx I1 r q
end
section
end
structure FnScope(N P:List Str)(sc:Scope):Prop where
 kind:sc.kind=.function
 co:sc.isCoroutine=false
 gen:sc.isGenerator=false
 nd:N.Nodup
 pre:N.take P.length=P
 par:∀x∈P,sc.names.lookup x=some .local∨sc.names.lookup x=some .cell
 nofree:∀y∈sc.names,y.2≠ .free
theorem kW{kindOf:Str→Option NameKind}{x:Str}:∀{binds:List (Str×Value)}{m:Str→Option Value},(∀v,(x,v)∉binds)→bindL kindOf binds m x=m x
 |[],_,_=>rfl
 |(n,v)::r,m,h=>by
  unfold bindL
  rw[kW fun w hw=>h w (List.mem_cons_of_mem _ hw)]
  split
  ·have:x≠n:=by rintro rfl;exact h v List.mem_cons_self
   simp[this]
  ·rfl
theorem kY{kindOf:Str→Option NameKind}{x:Str}:∀{binds:List (Str×Value)}{m:Str→Option Value},(∀v,(x,v)∉binds)→bindC kindOf binds m x=m x
 |[],_,_=>rfl
 |(n,v)::r,m,h=>by
  unfold bindC
  rw[kY fun w hw=>h w (List.mem_cons_of_mem _ hw)]
  split
  ·rfl
  ·have:x≠n:=by rintro rfl;exact h v List.mem_cons_self
   simp[this]
theorem kX{kindOf:Str→Option NameKind}{x:Str}{v:Value}:∀{P:List Str}{vs:List Value}{i:Nat}{m:Str→Option Value},P.Nodup→P[i]? =some x→vs[i]? =some v→kindOf x=some .local→
  bindL kindOf (P.zip vs) m x=some v
 |[],_,_,_,_,h,_,_=>by simp at h
 |_::_,[],_,_,_,_,h,_=>by simp at h
 |p::P,w::vs,0,m,nd,h1,h2,hk=>by
  simp at h1 h2;subst h1;subst h2
  show bindL kindOf ((p,w)::P.zip vs) m p=_
  unfold bindL
  rw[kW fun v hv=>(List.nodup_cons.mp nd).1 (List.of_mem_zip hv).1,if_pos hk]
  simp
 |p::P,w::vs,i+1,m,nd,h1,h2,hk=>by
  show bindL kindOf ((p,w)::P.zip vs) m x=_
  unfold bindL
  exact kX (i:=i) (List.nodup_cons.mp nd).2 (by simpa using h1) (by simpa using h2) hk
theorem kZ{kindOf:Str→Option NameKind}{x:Str}{v:Value}:∀{P:List Str}{vs:List Value}{i:Nat}{m:Str→Option Value},P.Nodup→P[i]? =some x→vs[i]? =some v→kindOf x≠some .local→
  bindC kindOf (P.zip vs) m x=some v
 |[],_,_,_,_,h,_,_=>by simp at h
 |_::_,[],_,_,_,_,h,_=>by simp at h
 |p::P,w::vs,0,m,nd,h1,h2,hk=>by
  simp at h1 h2;subst h1;subst h2
  show bindC kindOf ((p,w)::P.zip vs) m p=_
  unfold bindC
  rw[kY fun v hv=>(List.nodup_cons.mp nd).1 (List.of_mem_zip hv).1,if_neg hk]
  simp
 |p::P,w::vs,i+1,m,nd,h1,h2,hk=>by
  show bindC kindOf ((p,w)::P.zip vs) m x=_
  unfold bindC
  exact kZ (i:=i) (List.nodup_cons.mp nd).2 (by simpa using h1) (by simpa using h2) hk
noncomputable def start(N:List Str)(vs:List V):St:=vs.map some++List.replicate (N.length - vs.length) none
noncomputable def m_(CX:t4)(P:Program)(w:World)(K:al)(mg:Str→Option Value)(base:Heap)(N:List Str)(qual:Str)(scope:Scope)(f:Addr)(cd:Value)(A:Around)(outer:List Env)(s:Shared)(H:Hp)(E:XK):Cx where
 prog:=P
 w:=w
 K:=K
 mg:=mg
 base:=base
 A:=A.deeper (envOfC qual scope s.heap.objs.size f cd)
 N:=N
 s₀:=s
 H₀:=H
 env:=envOfC qual scope s.heap.objs.size f cd
 outer:=outer
 stack:=envOfC qual scope s.heap.objs.size f cd::outer
 ex:=[]
 calm:=true
 fn:=fun _=>true
 pn:=[]
 xe:=fun e s'=>wpAny (model P w) (A.deeper (envOfC qual scope s.heap.objs.size f cd)) (leaving (envOfC qual scope s.heap.objs.size f cd) e) (fun _ s''=>CX outer H s E e s'') (fun e' s''=>CX outer H s E e' s'') s'
theorem np{sc:Scope}(h:sc.names.lookup x=some .cell):∃c,(cellsFrom n sc.names []).lookup x=some c:=by
 have q:=PySem.W.cellsFrom_some sc.names n [] (.inl h)
 exact Option.isSome_iff_exists.mp q
theorem qi{CX:t4}{K:al}{N ps:List Str}{scope:Scope}{f:Addr}{cd:Value}{outer:List Env}{s1:Shared}{H:Hp}{E:XK}{vs:List V}
  (S:FnScope N ps scope)(hd:A.handled=none)(e0:Env0 P w K mg base A outer s H)(hl:vs.length=ps.length)(r:bf vs us)
  (x:InCallC s s.heap.objs.size (bindL (envOfC qual scope s.heap.objs.size f cd).kindOf (ps.zip us) fun _=>none) (cellsFrom (s.heap.objs.size+1) scope.names []) (bindC (envOfC qual scope s.heap.objs.size f cd).kindOf (ps.zip us) fun _=>none) s1):
  Inv (m_ CX P w K mg base N qual scope f cd A outer s H E) [] (start N vs) H s1:=by
 have hpl:ps.length≤N.length:=by have:=congrArg List.length S.pre;rw[List.length_take] at this;omega
 obtain⟨h1,tk,rfl,hk⟩:=x.done
 have noA:∀b:Addr,b∉(m_ CX P w K mg base N qual scope f cd A outer s H E).ex:=fun b z=>absurd (show b∈([]:List Addr) from z) (by simp)
 refine⟨⟨e0.mod,S.kind,rfl,rfl,af _,fun y z c h1 h2=>?_,fun y hy=>?_,fun y c _ h=>?_,fun _=>hd,Around.frames_deeper e0.frames,.inr ⟨rfl,rfl⟩,fun b z=>absurd z (noA b),e0.bs,e0.bsz,fun b _ _=>noA b,fun b z=>absurd z (noA b),e0.funs,e0.frf⟩,
  rfl,e0.bare,Un.kept hk,⟨_,x.toInCall.ns,fun i y v h1 h2 h3=>?_⟩,fun y c h=>⟨_,x.cell y c h⟩,e0.hok.fresh (af _),fun y c h=>?_,fun p hp=>absurd (show p∈([]:List (Addr×Obj)) from hp) (by simp),e0.hok.kept hk,?_⟩
 ·exact name_of_addr x.apart (aw h1) (aw h2)
 ·have hy:scope.names.lookup y=some .cell∨scope.names.lookup y=some .free:=hy
  rcases hy with hy|hy
  ·exact np hy
  ·exact absurd rfl (S.nofree _ (aw hy))
 ·exact Nat.le_of_lt (x.above y c (aw h))
 ·have hi:i<vs.length:=by
   unfold start at h2
   by_cases hi:i<vs.length
   ·exact hi
   ·rw[aP (by simpa using hi)] at h2
    rw[List.getElem?_replicate] at h2
    split at h2<;>cases h2
  have ha:vs[i]? =some v:=by
   unfold start at h2
   rw[aM (by simpa using hi),aR] at h2
   cases e:vs[i]? with
   |none=>rw[e] at h2;cases h2
   |some a=>rw[e] at h2;cases h2;rfl
  obtain⟨u,hu,rv⟩:=r.get ha
  have hp:ps[i]? =some y:=by
   rw[←S.pre,List.getElem?_take_of_lt (by omega)];exact h1
  have ndP:ps.Nodup:=by rw[←S.pre];exact S.nd.sublist (List.take_sublist _ _)
  refine⟨u,rv,?_⟩
  rcases S.par y (am hp) with k|k
  ·exact .inl ⟨k,kX ndP hp hu k⟩
  ·obtain⟨c,e⟩:=np (n:=s.heap.objs.size+1) k
   refine .inr ⟨.inl k,c,e,?_⟩
   have q:=x.cell y c e
   rw[kZ ndP hp hu (by show scope.names.lookup y≠_;rw[k];decide)] at q
   exact q
 ·exact e0.hok.fresh (Nat.le_of_lt (x.above y c (aw h)))
 ·unfold start
  show _=N.length
  rw[aC,List.length_map,List.length_replicate]
  omega
theorem Ar{CX:t4}{K:al}{k:Nat}{f:Addr}{name:Str}{params:Arguments}{body:List Stmt}{scope:Scope}{dV kV doc pm cdv ct oc:Value}{an od:Option Addr}
  {osl:Array (Option Value)}{N ps:List Str}{sp:Sp}(lk:K.lookup f=some ⟨oc,od,.func (PySem.W.fnOf name qual params body scope dV kV doc pm an cdv ct),osl⟩)(hcd:PySem.W.codeIn K cdv qual=true)(S:FnScope N ps scope)
  (len:∀vs H Q E,sp vs H Q E→vs.length=ps.length)
  (hbody:∀(A:Around)(outer:List Env)(s:Shared)(H:Hp)(vs:List V)(Q:VK)(E:XK),Room k (A.deeper (envOfC qual scope s.heap.objs.size f cdv))→sp vs H Q E→
   ∃t,PSs (m_ CX P w K mg base N qual scope f cdv A outer s H E) body t∧t {nx:=fun _ H'=>Q .non H',rt:=Q} (start N vs) H):
  FnOk P w K mg base CX (k+1) f (PySem.W.fnOf name qual params body scope dV kV doc pm an cdv ct) ps sp:=by
 refine⟨len,fun A outer s H args us vs Q E hr e0 hb r hsp=>?_⟩
 have hl:=len _ _ _ _ hsp
 have KX:K.In s.heap:=e0.mod.kin.keeps fun b o e=>(e0.bs b o e).1
 have lim:s.heap.NoLimit:=e0.mod.nolimit.keeps fun b o e=>(e0.bs b o e).1
 have hkind:∀y∈ps.zip us,scope.names.lookup y.1=some .local∨(scope.names.lookup y.1=some .cell∧((cellsFrom (s.heap.objs.size+1) scope.names []).lookup y.1).isSome=true):=fun⟨n,v⟩ hy=>by
  rcases S.par n (List.of_mem_zip hy).1 with q|q
  ·exact .inl q
  ·exact .inr ⟨q,PySem.W.cellsFrom_some _ _ _ (.inl q)⟩
 refine codeAny_call_function hr.depth (KX _ _ lk) rfl S.co S.gen rfl (PySem.W.codeRec_of KX hcd) (hb _ _ _ _ ?_)
 refine wpAny_newFunctionEnv_cells S.kind hkind fun env he s1 x=>?_
 subst he
 refine⟨lim.keeps x.toInCall.keep,codeAny_func ?_⟩
 obtain⟨t,ht,hq⟩:=hbody A outer s H vs Q E (hr.deeper _) hsp
 have I:Inv (m_ CX P w K mg base N qual scope f cdv A outer s H E) [] (start N vs) H s1:=qi S hr.hd e0 hl r x
 refine aA (ht [] s1 (start N vs) H _ I hq) (fun fl s' hs=>?_) fun e s' hs=>hs
 have fin:∀{σ':St}{H':Hp}{v:V}{u:Value},Inv (m_ CX P w K mg base N qual scope f cdv A outer s H E) [] σ' H' s'→RelV v u→Q v H'→CE outer P w H s Q u s':=
  fun{σ' H' v u} J rv q=>⟨v,H',J.os,J.bare,J.base,J.hok,rv,q⟩
 cases fl with
 |ret u=>
  obtain⟨v,σ',H',J,rv,q⟩:=hs
  exact fin J rv q
 |next=>
  obtain⟨σ',H',J,q⟩:=hs
  exact fin (v:=V.non) (u:=Value.none) J rfl q
 |brk=>
  obtain⟨_,_,_,q⟩:=hs
  exact False.elim q
 |cont=>
  obtain⟨_,_,_,q⟩:=hs
  exact False.elim q
section
variable{X:Cx}{x:Str}{p pos:Pos}{e:Expr}{es:List Expr}{t:TA}{id T:String}{r:List V→Hp→VK→Prop}
noncomputable def Br(r:List V→Hp→VK→Prop)(t:TA):TE:=fun σ H Q=>t σ H fun vs H1=>r vs H1 Q
theorem fG(hc:ei X (.builtin id) r)(hg:Gl X x)(hm:X.mg x=none)(hv:bootBuiltins x=some (.builtin id))(ha:PA X (e::es) t)(hn:x≠ "__name__":=by decide)(hdb:(x==("__debug__":Str))=false:=by decide)
  (he:starEach (e::es) X.env=(false,eval e X.env)::starEach es X.env:=by rfl)(hpl:(backTo pos (starEach es X.env)).any (·.1)=false:=by rfl):PE X (.Call (.Name x p) (e::es) [] pos) (Br r t):=by
 intro pins s σ H Q I h
 refine wpAny_Call_Name_kw (fL I hg hm hv ?_ hn hdb)
 exact PyProof.Rows.callWith_builtin1 (bz (ha pos pins s σ H _ I h) fun us s1 ⟨vs,H1,I1,r1,q1⟩=>hc pins s1 σ H1 vs us Q I1 r1 q1) he hpl
theorem kt(hc:ei X (.type T) r)(hg:Gl X x)(hm:X.mg x=none)(hv:bootBuiltins x=some (.type T))(ha:PA X (e::es) t)(hn:x≠ "__name__":=by decide)(hdb:(x==("__debug__":Str))=false:=by decide)
  (he:starEach (e::es) X.env=(false,eval e X.env)::starEach es X.env:=by rfl)(hpl:(backTo pos (starEach es X.env)).any (·.1)=false:=by rfl):PE X (.Call (.Name x p) (e::es) [] pos) (Br r t):=by
 intro pins s σ H Q I h
 refine wpAny_Call_Name_kw (fL I hg hm hv ?_ hn hdb)
 exact aX (bz (ha pos pins s σ H _ I h) fun us s1 ⟨vs,H1,I1,r1,q1⟩=>hc pins s1 σ H1 vs us Q I1 r1 q1) he hpl
end
end L2
namespace HT
open PySem PyProof.Rows
variable{sl t:Addr}{hi lo:Option Int}{vl vu:Value}
section
open PySem.SeqAt
open PySem.AutoSeq1 (wpAny_loadPart')
open PySem.MeetsSeq PySem.MeetsSeq2 PySem.MeetsSeq3
end
section
variable{prog:Program}{w:World}{A:Around}{E:Value→Shared→Prop}{s:Shared}
theorem wj{b:Addr}{vs ws:List Value}{Q:Value→Shared→Prop}(ht:IsTup s.heap t vs.toArray)(hb:IsTup s.heap b ws.toArray)(hv:vs≠[])
  (h1:ws=[]→Q (.ref t) s)(h2:ws≠[]→Q (.ref s.heap.objs.size) {s with heap:=s.heap.push {cls:= .type "tuple",data:= .seq (vs++ws).toArray}})
  (hsz:vs.length+ws.length≤sizeLine):wpAny (model prog w) A (binaryOp .Add (.ref t) (.ref b)) Q E s:=by
 obtain⟨⟨cls,dd,data,sl⟩,ho,hc,n,hd⟩:=id ht
 obtain⟨⟨cls2,dd2,data2,sl2⟩,ho2,hc2,n2,hd2⟩:=id hb
 simp only at hc hd hc2 hd2
 subst hc hd hc2 hd2
 have e:vs.toArray++ws.toArray=(vs++ws).toArray:=by simp
 by_cases hw:ws=[]
 ·exact concat_meets ⟨_,ho,rfl⟩ ⟨_,ho2,rfl⟩ noFill_tuple_add seq_tuple_add PySem.F.slot_tuple_add PySem.F.entry_tuple_add (PySem.F.args_tuple_add_2 _ _)
   (tuple_addW1 t b vs.toArray ws.toArray n n2 dd dd2 sl sl2 (by simpa using hv) (by simp[hw])) ⟨ho,ho2,h1 hw⟩
 ·refine concat_meets ⟨_,ho,rfl⟩ ⟨_,ho2,rfl⟩ noFill_tuple_add seq_tuple_add PySem.F.slot_tuple_add PySem.F.entry_tuple_add (PySem.F.args_tuple_add_2 _ _)
   (tuple_addW2 t b vs.toArray ws.toArray n n2 dd dd2 sl sl2 (by simpa using hv) (by simpa using hw) (by rw[List.size_toArray,List.size_toArray];exact hsz)) ⟨ho,ho2,?_⟩
  rw[e]
  exact h2 hw
noncomputable def cZ(n d:Nat):Option Int→Nat
 |none=>d
 |some v=>if v<0 then(v+(n:Int)).toNat else min v.toNat n
theorem xy(n d:Nat)(hd:d≤n)(o:Option Int):cZ n d o≤n:=by
 cases o with
 |none=>exact hd
 |some v=>
  show(if v<0 then(v+(n:Int)).toNat else min v.toNat n)≤n
  by_cases hv:v<0
  ·rw[if_pos hv];omega
  ·rw[if_neg hv];exact Nat.min_le_right _ _
theorem pM(v:Int)(n d:Nat):(if v<0 then max (v+(n:Int)) 0 else min v (n:Int))=((cZ n d (some v):Nat):Int):=by
 show(if v<0 then max (v+(n:Int)) 0 else min v (n:Int))=(((if v<0 then(v+(n:Int)).toNat else min v.toNat n):Nat):Int)
 by_cases hv:v<0
 ·simp only[if_pos hv];omega
 ·simp only[if_neg hv];omega
theorem oG(lo hi:Option Int)(n:Nat):Builtin.Slice.sliceAdjust lo hi 1 (n:Int)=(((cZ n 0 lo:Nat):Int),((cZ n n hi:Nat):Int)):=by
 have h1:¬((1:Int)<0):=by omega
 unfold Builtin.Slice.sliceAdjust
 simp only[h1,if_false]
 refine Prod.ext ?_ ?_
 ·cases lo with
  |none=>rfl
  |some v=>exact pM v n 0
 ·cases hi with
  |none=>rfl
  |some v=>exact pM v n n
theorem nY(i j:Nat):Builtin.Slice.slicePlaces (i:Int) (j:Int) 1=j - i:=by
 unfold Builtin.Slice.slicePlaces
 have h1:(1:Int)>0:=by omega
 simp only[h1,if_true,Int.ediv_one]
 split<;>omega
theorem i_{v:Value}{o:Option Int}{Q:Option Int→Shared→Prop}(p:IsPart v o)(h:Q o s):wpAny (model prog w) A (Builtin.Slice.slicePartIndex v) Q E s:=by
 cases p with
 |none=>exact slicePart_none h
 |int i t=>exact slicePart_int h
theorem g_{n:Nat}{Q:Int×Int×Nat→Shared→Prop}(hs:s.heap.IsSliceOf sl vl vu .none)(pl:IsPart vl lo)(pu:IsPart vu hi)
  (h:Q (((cZ n 0 lo:Nat):Int),1,cZ n n hi - cZ n 0 lo) s):wpAny (model prog w) A (Builtin.Slice.sliceApplied (.ref sl) (pure (n:Int))) Q E s:=by
 obtain⟨os,hos,hcs,hds⟩:=id hs
 unfold Builtin.Slice.sliceApplied Builtin.Slice.sliceFields
 refine aa (aa (az hos hds (x:=vl) rfl (aa (az hos hds (x:=vu) rfl (aa (az hos hds (x:= .none) rfl (ae ?_)))))))
 refine aa (slicePart_none ?_)
 show wpAny _ _ (if((1:Int)==0)=true then _ else _) _ _ s
 rw[if_neg (by decide)]
 refine aa (i_ pl (aa (i_ pu (aa (ae ?_)))))
 show wpAny _ _ (match Builtin.Slice.sliceAdjust lo hi 1 (n:Int) with|(lo,hi)=>pure (lo,(1:Int),Builtin.Slice.slicePlaces lo hi 1)) _ _ s
 rw[oG lo hi n]
 show wpAny _ _ (pure (((cZ n 0 lo:Nat):Int),(1:Int),Builtin.Slice.slicePlaces ((cZ n 0 lo:Nat):Int) ((cZ n n hi:Nat):Int) 1)) _ _ s
 rw[nY]
 exact ae h
theorem r8(xs:Array Value)(i k:Nat):((List.range k).filterMap fun(m:Nat)=>xs[((i:Int)+(m:Int)*1).toNat]?).toArray=((xs.toList.drop i).take k).toArray:=by
 have e:(fun(m:Nat)=>xs[((i:Int)+(m:Int)*1).toNat]?)=fun m=>xs[i+m]?:=by
  funext m
  have:((i:Int)+(m:Int)*1).toNat=i+m:=by omega
  rw[this]
 rw[e]
 have:=pick_run xs i k
 rw[List.filterMap_map] at this
 have e2:((fun x=>xs[x]?) ∘ fun x=>i+x)=fun m=>xs[i+m]?:=rfl
 rw[e2] at this
 rw[this]
theorem gH{items:Array Value}{Q:Value→Shared→Prop}(ht:IsTup s.heap t items)(hs:s.heap.IsSliceOf sl vl vu .none)(pl:IsPart vl lo)(pu:IsPart vu hi)
  (hw:¬(cZ items.size 0 lo=0∧cZ items.size items.size hi=items.size))
  (h:Q (.ref s.heap.objs.size) {s with heap:=s.heap.push {cls:= .type "tuple",data:= .seq ((items.toList.drop (cZ items.size 0 lo)).take (cZ items.size items.size hi - cZ items.size 0 lo)).toArray}})
  (hsz:items.size≤sizeLine):wpAny (model prog w) A (getItem (.ref t) (.ref sl)) Q E s:=by
 have htake:sizeOk (.seq ((items.toList.drop (cZ items.size 0 lo)).take (cZ items.size items.size hi - cZ items.size 0 lo)).toArray):=by
  show((items.toList.drop (cZ items.size 0 lo)).take (cZ items.size items.size hi - cZ items.size 0 lo)).toArray.size≤sizeLine
  rw[List.size_toArray,List.length_take,List.length_drop,Array.length_toList]
  omega
 have hj:cZ items.size items.size hi≤items.size:=xy _ _ (af _) hi
 obtain⟨os,hos,hcs,hds⟩:=id hs
 have hTs:s.TypeIs (.ref sl) "slice":=⟨os,hos,hcs⟩
 unfold getItem
 try with_reducible refine wpAny_holding ?_
 first|refine aa (ae ?_)|skip
 refine aa (wpAny_sequenceKey ht.typeIs (by decide) ?_)
 refine aa (wpAny_callSpecial?_slot (name:=Str.ofString "__getitem__") ht.typeIs PyProof.Rows.slot_tuple_getitem
  (wpAny_call_entry PyProof.Rows.slot_tuple_getitem ht.typeIs entry_tuple_getitem ?_ (args_tuple_getitem _ _)))
 show wpAny _ _ (Builtin.Tuple.tupleItemsOf (.ref t)>>=_) _ _ s
 refine aa (tupleItemsOf_ ht ?_)
 refine aa (wpAny_typeOf hTs ?_)
 rw[if_pos (by decide)]
 refine aa (g_ hs pl pu ?_)
 have hno:¬((((cZ items.size 0 lo:Nat):Int)==0&&(1:Int)==1&&(cZ items.size items.size hi - cZ items.size 0 lo)==items.size)=true):=by
  intro q
  rw[Bool.and_eq_true,Bool.and_eq_true] at q
  have q1:((cZ items.size 0 lo:Nat):Int)=0:=eq_of_beq q.1.1
  have q2:cZ items.size items.size hi - cZ items.size 0 lo=items.size:=eq_of_beq q.2
  exact hw ⟨by omega,by omega⟩
 show wpAny _ _ (if(((cZ items.size 0 lo:Nat):Int)==0&&(1:Int)==1&&(cZ items.size items.size hi - cZ items.size 0 lo)==items.size)=true then _ else _) _ _ s
 rw[if_neg hno,r8]
 first
  |exact aa (m:=Builtin.Tuple.tupleExact _) (wpAny_newObj_type (ae ⟨_,rfl,ae h⟩) htake)
  |exact aa (m:=Builtin.Tuple.tupleExact _) (wpAny_newObj_type (aa (ae (ae ⟨_,rfl,ae h⟩))) htake)
  |exact aa (aa (m:=Builtin.Tuple.tupleExact _) (wpAny_newObj_type (ae (ae ⟨_,rfl,ae h⟩)) htake))
  |exact aa (aa (m:=Builtin.Tuple.tupleExact _) (wpAny_newObj_type (ae ⟨_,rfl,ae h⟩) htake))
end
end HT
namespace L2
open PySem PySem.Spec PyProof.Rows
variable{its its' us:List Value}{xs:List V}{n t':Nat}{s:Shared}{pins:List (Addr×Obj)}
noncomputable abbrev TO:=St→Hp→(Option Int→Hp→Prop)→Prop
noncomputable def PO(X:Cx)(e:Option Expr)(t:TO):Prop:=
 ∀(pins:List (Addr×Obj))(s:Shared)(σ:St)(H:Hp)(Q:Option Int→Hp→Prop),Inv X pins σ H s→t σ H Q→
  wpAny (model X.prog X.w) X.A (evalPart e X.env) (fun u s'=>∃o H',Inv X pins σ H' s'∧IsPart u o∧Q o H') X.xe s
noncomputable def oV:TO:=fun _ H Q=>Q none H
noncomputable def wy(t:TE):TO:=fun σ H Q=>t σ H fun x H1=>∃i,x=.int i∧Q (some i) H1
section
variable{X:Cx}{e:Expr}{te:TE}{lo hi:Option Expr}{tl th:TO}{pos p2:Pos}
theorem pf:PO X none oV:=by
 intro pins s σ H Q I h
 rw[evalPart_none]
 exact ae ⟨none,H,I,.none,h⟩
theorem iN(h:PE X e te):PO X (some e) (wy te):=by
 intro pins s σ H Q I hw
 rw[evalPart_some]
 refine bz (h pins s σ H _ I hw) fun u s1 hp=>?_
 obtain⟨x,H1,I1,r1,q1⟩:=hp
 obtain⟨i,rfl,q⟩:=q1
 obtain⟨t,rfl⟩:=r1
 exact⟨some i,H1,I1,.int i t,q⟩
noncomputable def A4(X:Cx)(r:V→Option Int→Option Int→Hp→VK→Prop):Prop:=
 ∀(pins:List (Addr×Obj))(s:Shared)(σ:St)(H:Hp)(x:V)(v vl vu:Value)(lo hi:Option Int)(sl:Addr)(Q:VK),Inv X pins σ H s→RelV x v→s.heap.IsSliceOf sl vl vu .none→IsPart vl lo→IsPart vu hi→r x lo hi H Q→
  ∃T id,typeLookup (.type T) "__getitem__"=pure (some (.builtin id))∧s.TypeIs v T∧wpAny (model X.prog X.w) X.A (getItem v (.ref sl)) (EP X pins σ Q) X.xe s
noncomputable def Cp(r:V→Option Int→Option Int→Hp→VK→Prop)(te:TE)(tl th:TO):TE:=fun σ H Q=>te σ H fun x H1=>tl σ H1 fun l H2=>th σ H2 fun u H3=>r x l u H3 Q
theorem sg{r:V→Option Int→Option Int→Hp→VK→Prop}(hr:A4 X r)(he:PE X e te)(hl:PO X lo tl)(hu:PO X hi th):PE X (.Subscript e (.Slice lo hi none p2) pos) (Cp r te tl th):=by
 intro pins s σ H Q I h
 refine Subscript_ (bz (he pins s σ H _ I h) fun v s1 hp=>?_)
 obtain⟨x,H1,I1,r1,q1⟩:=hp
 refine wpAny_Slice (bz (hl pins s1 σ H1 _ I1 q1) fun vl s2 ⟨l,H2,I2,pl,q2⟩=>bz (hu pins s2 σ H2 _ I2 q2) fun vu s3 hp=>?_)
 obtain⟨u,H3,I3,pu,q3⟩:=hp
 rw[evalPart_none]
 refine ae ?_
 have I4:Inv X pins σ H3 {s3 with heap:=s3.heap.push {cls:= .type "slice",data:= .fields #[vl,vu,.none]}}:=I3.kept (t':=s3.toks) fun b ob q=>ac _ q
 obtain⟨T,id,hT,ht,hg⟩:=hr pins {s3 with heap:=s3.heap.push {cls:= .type "slice",data:= .fields #[vl,vu,.none]}} σ H3 x v vl vu l u s3.heap.objs.size Q I4 r1 (Heap.IsSliceOf.new ..) pl pu q3
 show wpAny (model X.prog X.w) X.A (subscriptTail e (.Slice lo hi none p2) v (.ref s3.heap.objs.size)) (EP X pins σ Q) X.xe {s3 with heap:=s3.heap.push {cls:= .type "slice",data:= .fields #[vl,vu,.none]}}
 exact tail_any (ops:=[.ref s3.heap.objs.size,v]) ht hT hg (by with_unfolding_all rfl)
noncomputable def nb(xs:List V)(lo hi:Option Int):List V:=(xs.drop (HT.cZ xs.length 0 lo)).take (HT.cZ xs.length xs.length hi - HT.cZ xs.length 0 lo)
theorem iq(xs:List V)(lo hi:Option Int):(nb xs lo hi).length≤xs.length:=by
 unfold nb
 rw[List.length_take,List.length_drop]
 omega
noncomputable def BB(K:al):V→Option Int→Option Int→Hp→VK→Prop:=fun x lo hi H Q=>∃a xs,x=.ref a∧eN K H a xs∧
 ¬(HT.cZ xs.length 0 lo=0∧HT.cZ xs.length xs.length hi=xs.length)∧∀p,H p=none→Q (.ref p) (bj H p (.tup (nb xs lo hi)))
theorem w9:A4 X (BB X.K):=by
 intro pins s σ H x v vl vu lo hi sl Q I rx hs pl pu h
 obtain⟨a,xs,rfl,hx,hw,q⟩:=h
 cases rx
 obtain⟨its,r,ht,hz⟩:=I.tuple hx
 have hlen:its.toArray.size=xs.length:=by rw[List.size_toArray];exact r.length.symm
 refine⟨"tuple",_,PyProof.Rows.slot_tuple_getitem.lookup,ht.typeIs,?_⟩
 refine HT.gH ht hs pl pu (by rw[hlen];exact hw) ?_ (by rw[hlen];exact hz)
 rw[hlen]
 refine⟨.ref s.heap.objs.size,_,I.laid (t':=s.toks) (o:= .tup (nb xs lo hi)) (fun b ob q=>ac _ q) (af _) ?_,rfl,q _ (I.hok.fresh (af _))⟩
 exact⟨aI (iq xs lo hi) hz,_,(r.drop (HT.cZ xs.length 0 lo)).take (HT.cZ xs.length xs.length hi - HT.cZ xs.length 0 lo),IsTup.new _ _⟩
noncomputable def zV(K:al):R2:=fun x y H Q=>∃a b xs ys,x=.ref a∧y=.ref b∧eN K H a xs∧eN K H b ys∧xs≠[]∧xs.length+ys.length≤sizeLine∧
 (ys=[]→Q (.ref a) H)∧(ys≠[]→∀p,H p=none→Q (.ref p) (bj H p (.tup (xs++ys))))
theorem bf.nil_iff(r:bf xs us):us=[]↔xs=[]:=by
 cases r with
 |nil=>simp
 |cons _ _=>simp
theorem vF:iA X (binaryOp .Add) (zV X.K):=by
 intro pins s σ H x y v u Q I rx ry h
 obtain⟨a,b,xs,ys,rfl,rfl,ha,hb,hx,hz,q1,q2⟩:=h
 cases rx
 cases ry
 obtain⟨its,r1,p1,_⟩:=I.tuple ha
 obtain⟨its2,r2,p2,_⟩:=I.tuple hb
 refine HT.wj p1 p2 (fun z=>hx (r1.nil_iff.mp z)) (fun z=>⟨.ref a,H,I,rfl,q1 (r2.nil_iff.mp z)⟩) (fun z=>?_) (by rw[←r1.length,←r2.length];exact hz)
 refine⟨.ref s.heap.objs.size,_,I.laid (t':=s.toks) (o:= .tup (xs++ys)) (fun b ob q=>ac _ q) (af _) ?_,rfl,q2 (fun w=>z (r2.nil_iff.mpr w)) _ (I.hok.fresh (af _))⟩
 exact⟨by rw[aC];exact hz,_,r1.append r2,IsTup.new _ _⟩
end
noncomputable def t5(n:Nat)(i:Int):Option Nat:=if 0≤i then(if i<n then some i.toNat else none) else if -(n:Int)≤i then some (i+n).toNat else none
noncomputable def qD{α:Type}(xs:List α)(i:Int):Option α:=(t5 xs.length i).bind fun j=>xs[j]?
theorem pC{i:Int}{j:Nat}(h:t5 n i=some j):seqIndex? i n=some j∧j<n∧ -(n:Int)≤i∧i<n:=by
 unfold t5 at h
 by_cases h0:0≤i
 ·rw[if_pos h0] at h
  by_cases h1:i<n
  ·rw[if_pos h1] at h
   have e:i.toNat=j:=ag h
   exact⟨by rw[seqIndex_of h0 h1,e],by omega,by omega,h1⟩
  ·rw[if_neg h1] at h;cases h
 ·rw[if_neg h0] at h
  by_cases h1: -(n:Int)≤i
  ·rw[if_pos h1] at h
   have e:(i+n).toNat=j:=ag h
   exact⟨by rw[seqIndex_neg (by omega) h1,e],by omega,h1,by omega⟩
  ·rw[if_neg h1] at h;cases h
theorem pP{α:Type}{xs:List α}{i:Int}{v:α}(h:qD xs i=some v):∃j,seqIndex? i xs.length=some j∧xs[j]? =some v∧j<xs.length∧ -(xs.length:Int)≤i∧i<xs.length:=by
 unfold qD at h
 cases e:t5 xs.length i with
 |none=>rw[e] at h;cases h
 |some j=>
  rw[e] at h
  obtain⟨h1,h2,h3,h4⟩:=pC e
  exact⟨j,h1,h,h2,h3,h4⟩
noncomputable def wn(b:Expr):Prop:=∀o i,subscripted b false o i=operate [o,i] (getItem o i)
noncomputable def A6(X:Cx)(r:R2):Prop:=
 ∀(value slice:Expr)(pins:List (Addr×Obj))(s:Shared)(σ:St)(H:Hp)(x y:V)(v u:Value)(Q:VK),Inv X pins σ H s→RelV x v→RelV y u→r x y H Q→
  subscripted slice false v u=operate [v,u] (getItem v u)→wpAny (model X.prog X.w) X.A (subscriptTail value slice v u) (EP X pins σ Q) X.xe s
noncomputable def Cm(X:Cx)(id:String)(r:V→List V→Hp→VK→Prop):Prop:=
 ∀(pins:List (Addr×Obj))(s:Shared)(σ:St)(H:Hp)(x:V)(xs:List V) (v:Value) (us:List Value)(Q:VK),Inv X pins σ H s→RelV x v→bf xs us→r x xs H Q→
  wpAny (model X.prog X.w) X.A (call (.builtin id) (v::us)) (EP X pins σ Q) X.xe s
section
variable{X:Cx}{a b:Expr}{ta tb:TE}{pos:Pos}
theorem Aa{r:R2}(hr:A6 X r)(ha:PE X a ta)(hb:PE X b tb)(hs:wn b):PE X (.Subscript a b pos) (yQ r ta tb):=by
 intro pins s σ H Q I h
 exact Subscript_ (yH ha hb I h fun v u s2 x y H2 I2 rx ry q=>hr a b pins s2 σ H2 x y v u Q I2 rx ry q (hs _ _))
noncomputable def BG(K:al):R2:=fun x y H Q=>∃p xs i v,x=.ref p∧y=.int i∧du K H p xs∧qD xs i=some v∧Q v H
noncomputable def BF(K:al):R2:=fun x y H Q=>∃p xs i v,x=.ref p∧y=.int i∧eN K H p xs∧qD xs i=some v∧Q v H
theorem vN:A6 X (BG X.K):=by
 intro value slice pins s σ H x y v u Q I rx ry h hs
 obtain⟨p,xs,i,z,rfl,rfl,hq,he,q⟩:=h
 cases rx
 obtain⟨t,rfl⟩:=ry
 obtain⟨its,r,pl,hz⟩:=I.list hq
 obtain⟨j,h1,h2,h3,h4,h5⟩:=pP he
 obtain⟨w,ew,rw'⟩:=r.get h2
 have hl:=r.length
 have hn:=lQ
 have fin:EP X pins σ Q w s:=⟨z,H,I,rw',q⟩
 by_cases h0:0≤i
 ·have hj:i.toNat=j:=by
   rw[seqIndex_of h0 h5] at h1
   exact ag h1
  exact item_listR pl.isList h0 (by omega) (by rw[hj];simpa using ew) fin hs
 ·have hj:(i+(its.toArray.size:Int)).toNat=j:=by
   rw[seqIndex_neg (by omega) h4] at h1
   rw[List.size_toArray,←hl]
   exact ag h1
  exact subscriptTail_builtinR (x:=w) pl.isList.typeIs slot_list_getitem.lookup
   (wpAny_getItem_list_neg (Q:=fun r s'=>r=w∧EP X pins σ Q r s') pl.isList (by omega) (by rw[List.size_toArray]<;>omega) (by omega) (by rw[hj];simpa using ew) ⟨rfl,fin⟩) hs
theorem yh:A6 X (BF X.K):=by
 intro value slice pins s σ H x y v u Q I rx ry h hs
 obtain⟨p,xs,i,z,rfl,rfl,hq,he,q⟩:=h
 cases rx
 obtain⟨t,rfl⟩:=ry
 obtain⟨its,r,pl,hz⟩:=I.tuple hq
 obtain⟨j,h1,h2,h3,h4,h5⟩:=pP he
 obtain⟨w,ew,rw'⟩:=r.get h2
 have hl:=r.length
 have hn:=lQ
 have fin:EP X pins σ Q w s:=⟨z,H,I,rw',q⟩
 exact subscriptTail_builtinR (x:=w) pl.typeIs slot_tuple_getitem.lookup
  (getItem_tuple (j:=j) (Q:=fun r s'=>r=w∧EP X pins σ Q r s') pl (by omega) (by omega) (by rw[List.size_toArray,←hl];exact h1) (by simpa using ew) ⟨rfl,fin⟩) hs
theorem n5(its:List Value)(n j:Nat)(u:Value):Obj.mapSeq (·.setIfInBounds j u) {cls:= .type "list",data:= .seq its.toArray n}={cls:= .type "list",data:= .seq (its.set j u).toArray n}:=by
 simp[Obj.mapSeq]
theorem Inv.lst{σ:St}{H:Hp}{p:Addr}(I:Inv X pins σ H s)(h:H p=some (.lst xs)):
  ∃(its:List Value)(n:Nat),bf xs its∧s.heap.get? p=some {cls:= .type "list",data:= .seq its.toArray n}∧xs.length≤sizeLine:=by
 obtain⟨z,its,n,r,e⟩:=I.hok p _ h
 exact⟨its,n,r,e,z⟩
theorem Inv.lstUpd{σ:St}{H:Hp}{p:Addr}{ys:List V}{n':Nat}{f:Obj→Obj}(I:Inv X pins σ H s)(h:H p=some (.lst xs))
  (ho:s.heap.get? p=some {cls:= .type "list",data:= .seq its.toArray n}) (hf:f {cls:= .type "list",data:= .seq its.toArray n}={cls:= .type "list",data:= .seq its'.toArray n'}) (r:bf ys its')(hz:ys.length≤sizeLine)(t:Nat):
  Inv X pins σ (bj H p (.lst ys)) {s with heap:=s.heap.update p f,toks:=t}:=by
 have e:(s.heap.update p f).get? p=some {cls:= .type "list",data:= .seq its'.toArray n'}:=by
  rw[Heap.get?_update_self f ho (by rw[hf]<;>rfl),hf]
 refine I.write (x:=p) (e:=p) (by rw[h];trivial) (.inl rfl) (fun b u hb q=>(Heap.get?_update_other _ _ (Ne.symm hb)).trans q) ⟨_,e⟩ ?_
 exact⟨hz,its',n',r,e⟩
noncomputable def zR:V→V→V→Hp→(Hp→Prop)→Prop:=fun o i v H Q=>∃p xs k j,o=.ref p∧i=.int k∧H p=some (.lst xs)∧t5 xs.length k=some j∧Q (bj H p (.lst (xs.set j v)))
theorem set_list:AU X zR:=by
 intro pins s σ H o i v ov iv u Q I ro ri rv h
 obtain⟨p,xs,k,j,rfl,rfl,hp,hj,q⟩:=h
 cases ro
 obtain⟨t,rfl⟩:=ri
 obtain⟨its,n,r,ho,hz⟩:=I.lst hp
 obtain⟨h1,h2,h3,h4⟩:=pC hj
 have hl:=r.length
 have hn:=lQ
 have I':Inv X pins σ (bj H p (.lst (xs.set j v))) {s with heap:=s.heap.update p (Obj.mapSeq (·.setIfInBounds j u))}:=
  I.lstUpd hp ho (n5 its n j u) (r.set rv j) (by rw[aE];exact hz) s.toks
 by_cases h0:0≤k
 ·have hk:k.toNat=j:=by
   rw[seqIndex_of h0 h4] at h1
   exact ag h1
  exact PySem.W.ki_setAt ho h0 (by omega) (by rw[List.size_toArray,←hl];exact h4) (by rw[hk];exact⟨_,I',q⟩)
 ·have hk:(k+(its.toArray.size:Int)).toNat=j:=by
   rw[seqIndex_neg (by omega) h3] at h1
   rw[List.size_toArray,←hl]
   exact ag h1
  exact PySem.W.ki_setBack ho (by omega) (by rw[List.size_toArray,←hl];exact h3) (by omega) (by rw[hk];exact⟨_,I',q⟩)
theorem lC(lo hi:Option Int)(n:Nat):(sliceBounds lo hi none n).1=((HT.cZ n 0 lo:Nat):Int)∧(sliceBounds lo hi none n).2.1=((HT.cZ n n hi:Nat):Int)∧(sliceBounds lo hi none n).2.2=1:=by
 refine⟨?_,?_,rfl⟩
 ·cases lo with
  |none=>simp[sliceBounds,HT.cZ]
  |some i=>
   simp only[sliceBounds,HT.cZ,Option.getD_none,show(1:Int)>0 by decide,if_true]
   by_cases h:i<0
   ·simp only[h,if_true]<;>omega
   ·simp only[h,if_false]<;>omega
 ·cases hi with
  |none=>simp[sliceBounds,HT.cZ]
  |some i=>
   simp only[sliceBounds,HT.cZ,Option.getD_none,show(1:Int)>0 by decide,if_true]
   by_cases h:i<0
   ·simp only[h,if_true]<;>omega
   ·simp only[h,if_false]<;>omega
theorem jV(its:List Value)(lo hi:Option Int):slicePick its.toArray lo hi none=((its.drop (HT.cZ its.length 0 lo)).take (HT.cZ its.length its.length hi - HT.cZ its.length 0 lo)).toArray:=by
 obtain⟨h1,h2,h3⟩:=lC lo hi its.toArray.size
 unfold slicePick
 rw[h1,h2,h3]
 simp only[sliceRange_one,pick_run,List.size_toArray]<;>rfl
noncomputable def BC(K:al):V→Option Int→Option Int→Hp→VK→Prop:=fun x lo hi H Q=>∃a xs,x=.ref a∧du K H a xs∧∀p,H p=none→Q (.ref p) (bj H p (.lst (nb xs lo hi)))
theorem uJ:A4 X (BC X.K):=by
 intro pins s σ H x v vl vu lo hi sl Q I rx hs pl pu h
 obtain⟨a,xs,rfl,hx,q⟩:=h
 cases rx
 obtain⟨its,r,ht,hz⟩:=I.list hx
 have hlen:=r.length
 refine⟨"list",_,slot_list_getitem.lookup,ht.isList.typeIs,?_⟩
 refine wpAny_getItem_list_slice ht.isList hs pl pu .none (by simp) ?_ (by rw[List.size_toArray]<;>omega)
 rw[jV,←hlen]
 refine⟨.ref s.heap.objs.size,_,I.laid (t':=s.toks) (o:= .lst (nb xs lo hi)) (fun b ob q=>ac _ q) (af _) ?_,rfl,q _ (I.hok.fresh (af _))⟩
 exact⟨aI (iq xs lo hi) hz,_,0,(r.drop (HT.cZ xs.length 0 lo)).take (HT.cZ xs.length xs.length hi - HT.cZ xs.length 0 lo),ak _ rfl⟩
noncomputable def cC:V→Bool
 | .non=>true
 | .bl _=>true
 | .int _=>true
 | .str _=>true
 |_=>false
noncomputable def oz:V→V→Bool
 | .non,.non=>true
 | .bl a,.bl b=>a==b
 | .bl a,.int b=>(if a then 1 else 0)==b
 | .int a,.bl b=>a==(if b then 1 else 0)
 | .int a,.int b=>a==b
 | .str a,.str b=>a==b
 |_,_=>false
theorem yr{A:Around}{y x:V}{u v:Value}(ry:RelV y u)(rx:RelV x v)(fy:cC y=true)(fx:cC x=true):SeqAt.EqAt A s u v (oz y x):=by
 cases y with
 |non=>
  cases ry
  cases x with
  |non=>cases rx;exact SeqAt.EqAt.same _
  |bl b=>cases rx;exact SeqAt.EqAt.none_bool b
  |int b=>obtain⟨t,rfl⟩:=rx;exact SeqAt.EqAt.none_int b t
  |str b=>obtain⟨t,rfl⟩:=rx;exact SeqAt.EqAt.none_str b t
  |_=>exact jC fx
 |bl a=>
  cases ry
  cases x with
  |non=>cases rx;exact SeqAt.EqAt.bool_none a
  |bl b=>cases rx;exact SeqAt.EqAt.bool_bool a b
  |int b=>obtain⟨t,rfl⟩:=rx;exact SeqAt.EqAt.bool_int a b t
  |str b=>obtain⟨t,rfl⟩:=rx;exact SeqAt.EqAt.bool_str a b t
  |_=>exact jC fx
 |int a=>
  obtain⟨t',rfl⟩:=ry
  cases x with
  |non=>cases rx;exact SeqAt.EqAt.int_none a t'
  |bl b=>cases rx;exact SeqAt.EqAt.int_bool a t' b
  |int b=>obtain⟨t,rfl⟩:=rx;exact SeqAt.EqAt.int_int a t' b t
  |str b=>obtain⟨t,rfl⟩:=rx;exact SeqAt.EqAt.int_str a t' b t
  |_=>exact jC fx
 |str a=>
  obtain⟨t',rfl⟩:=ry
  cases x with
  |non=>cases rx;exact SeqAt.EqAt.str_none a t'
  |bl b=>cases rx;exact SeqAt.EqAt.str_bool a t' b
  |int b=>obtain⟨t,rfl⟩:=rx;exact SeqAt.EqAt.str_int a t' b t
  |str b=>obtain⟨t,rfl⟩:=rx;exact SeqAt.EqAt.str_str a t' b t
  |_=>exact jC fx
 |_=>exact jC fy
theorem me:ei X (.builtin "len") (fun xs H Q=>∃p ys,xs=[.ref p]∧(du X.K H p ys∨eN X.K H p ys)∧Q (.int ys.length) H):=by
 intro pins s σ H xs us Q I r h
 obtain⟨p,ys,rfl,hq,q⟩:=h
 obtain⟨u,rfl,rx⟩:=vals1 r
 cases rx
 have hn:=lQ
 rcases hq with hq|hq
 ·obtain⟨its,r',pl,hz⟩:=I.list hq
  have hlen:=r'.length
  exact Calls.call_len_list pl.isList (by simp only[List.size_toArray]<;>omega) ⟨.int ys.length,H,I.tok _,⟨s.toks+1,by rw[List.size_toArray,hlen]⟩,q⟩
 ·obtain⟨its,r',pl,hz⟩:=I.tuple hq
  have hlen:=r'.length
  exact len_tuple pl (by simp only[List.size_toArray]<;>omega) ⟨.int ys.length,H,I.tok _,⟨s.toks+1,by rw[List.size_toArray,hlen]⟩,q⟩
theorem md:ei X (.type "list") (fun xs H Q=>∃p ys,xs=[.ref p]∧(du X.K H p ys∨eN X.K H p ys)∧∀l,H l=none→Q (.ref l) (bj H l (.lst ys))):=by
 intro pins s σ H xs us Q I r h
 obtain⟨p,ys,rfl,hq,q⟩:=h
 obtain⟨u,rfl,rx⟩:=vals1 r
 cases rx
 have fin:∀(its:List Value),bf ys its→ys.length≤sizeLine→∀(h':Heap)(c':Nat),(∀b o',s.heap.get? b=some o'→h'.get? b=some o')→
   h'.get? s.heap.objs.size=some {cls:= .type "list",dict:=none,data:= .seq its.toArray c',slots:= #[]}→EP X pins σ Q (.ref s.heap.objs.size) {s with heap:=h'}:=fun its r' hz h' c' kp e=>
  ⟨.ref s.heap.objs.size,_,I.laid (t':=s.toks) kp (af _) (show bI X.prog X.w _ h' _ (.lst ys) from⟨hz,its,c',r',e⟩),rfl,q _ (I.hok.fresh (af _))⟩
 rcases hq with hq|hq
 ·obtain⟨its,r',pl,hz⟩:=I.list hq
  have hlen:=r'.length
  obtain⟨o,ho,hc,n,hd⟩:=pl.isList
  exact call_list_seq p (.inl rfl) ho hc hd (fun h' c' kp e=>fin its r' hz h' c' kp e) (by simp only[List.size_toArray]<;>omega)
 ·obtain⟨its,r',pl,hz⟩:=I.tuple hq
  have hlen:=r'.length
  obtain⟨o,ho,hc,n,hd⟩:=pl
  exact call_list_seq p (.inr rfl) ho hc hd (fun h' c' kp e=>fin its r' hz h' c' kp e) (by simp only[List.size_toArray]<;>omega)
theorem em:ei X (.type "tuple") (fun xs H Q=>∃p ys,xs=[.ref p]∧((du X.K H p ys∧∀l,H l=none→Q (.ref l) (bj H l (.tup ys)))∨(eN X.K H p ys∧Q (.ref p) H))):=by
 intro pins s σ H xs us Q I r h
 obtain⟨p,ys,rfl,h⟩:=h
 obtain⟨u,rfl,rx⟩:=vals1 r
 cases rx
 rcases h with⟨hq,q⟩|⟨hq,q⟩
 ·obtain⟨its,r',pl,hz⟩:=I.list hq
  have hlen:=r'.length
  refine call_tuple_list pl.isList (fun h' kp=>?_) (by simp only[List.size_toArray]<;>omega)
  have I1:Inv X pins σ H {s with heap:=h'}:=I.kept (t':=s.toks) kp
  have I2:Inv X pins σ (bj H h'.objs.size (.tup ys)) {s with heap:=h'.push {cls:= .type "tuple",data:= .seq its.toArray}}:=
   I1.laid (t':=s.toks) (fun b o e=>ac _ e) (af _) (show bI X.prog X.w _ _ _ (.tup ys) from⟨hz,its,r',IsTup.new _ _⟩)
  exact⟨.ref h'.objs.size,_,I2,rfl,q _ (I1.hok.fresh (af _))⟩
 ·obtain⟨its,r',pl,hz⟩:=I.tuple hq
  exact call_tuple_same pl ⟨.ref p,H,I,rfl,q⟩
noncomputable def Ba(K:al)(T:String)(x:V)(H:Hp):Prop:=match x with
 | .str _=>T= "str"
 | .int _=>T= "int"
 | .ref p=>(T= "list" ∧∃xs,du K H p xs)∨(T= "tuple" ∧∃o,K.lookup p=some o∧o.cls=.type "tuple" ∧o.dict=none)∨
   (T= "dict" ∧((∃kvs,H p=some (.dK kvs))∨∃kvs,H p=some (.dT kvs)))∨(T= "set" ∧∃S n,H p=some (.set S n))
 |_=>False
theorem qZ{σ:St}{H:Hp}{T:String}{x:V}{v:Value}(I:Inv X pins σ H s)(r:RelV x v)(ty:Ba X.K T x H):
  s.TypeIs v T∧∀a,v=.ref a→∃ob,s.heap.get? a=some ob∧ob.dict=none:=by
 cases x with
 |str z=>
  obtain⟨t,rfl⟩:=r
  cases(show T= "str" from ty)
  exact⟨typeIs_str s z t,fun _ e=>nomatch e⟩
 |int i=>
  obtain⟨t,rfl⟩:=r
  cases(show T= "int" from ty)
  exact⟨typeIs_int s i t,fun _ e=>nomatch e⟩
 |ref p=>
  cases r
  rcases ty with⟨rfl,xs,hq⟩|⟨rfl,o,hk,hc,hd⟩|⟨rfl,hk⟩|⟨rfl,S,n,hk⟩
  ·obtain⟨its,_,pl,_⟩:=I.list hq
   refine⟨pl.isList.typeIs,fun a e=>?_⟩
   cases e
   obtain⟨o,n,e,c,hd,_⟩:=pl
   exact⟨o,e,hd⟩
  ·refine⟨⟨o,I.kIn p o hk,hc⟩,fun a e=>?_⟩
   cases e
   exact⟨o,I.kIn _ o hk,hd⟩
  ·have z:∃o,s.heap.get? p=some o∧o.ExactDict:=by
    rcases hk with⟨kvs,hk⟩|⟨kvs,hk⟩
    ·obtain⟨_,_,_,_,o,_,_,e,ex,_⟩:=I.hok p _ hk
     exact⟨o,e,ex⟩
    ·obtain⟨_,_,_,_,o,_,_,e,ex,_⟩:=I.hok p _ hk
     exact⟨o,e,ex⟩
   obtain⟨o,e,ex⟩:=z
   refine⟨⟨o,e,ex.1⟩,fun a e2=>?_⟩
   cases e2
   exact⟨o,e,ex.2.1⟩
  ·obtain⟨o,_,_,_,e,ex,_⟩:=I.hok p _ hk
   refine⟨⟨o,e,ex.1⟩,fun a e2=>?_⟩
   cases e2
   exact⟨o,e,ex.2.1⟩
 |_=>exact False.elim ty
noncomputable def Bs(K:al)(T:String)(r:V→List V→Hp→VK→Prop)(to:TE):TE:=fun σ H Q=>to σ H fun x H1=>Ba K T x H1∧r x [] H1 Q
noncomputable def Ct(K:al)(T:String)(r:V→List V→Hp→VK→Prop)(to:TE)(t:TA):TE:=fun σ H Q=>to σ H fun x H1=>Ba K T x H1∧t σ H1 fun xs H2=>r x xs H2 Q
variable{o e:Expr}{es:List Expr}{to:TE}{t:TA}{name:Str}{apos cpos:Pos}{T id:String}{r:V→List V→Hp→VK→Prop}
theorem xU(pa:PlainAttrs T)(slot:Slot T name id)(hty:typeOf (.builtin id)=pure (.type "method_descriptor"))(hm:Cm X id r)(ho:PE X o to)
  (hbase:attributeBase o name X.env (eval o X.env)=eval o X.env:=by rfl)(hline:(apos.endLine==cpos.line)=true:=by rfl):PE X (.Call (.Attribute o name apos) [] [] cpos) (Bs X.K T r to):=by
 intro pins s σ H Q I h
 refine wpAny_Call_method0_late hbase hline (bz (ho pins s σ H _ I h) fun v s1 hp=>?_)
 obtain⟨x,H1,I1,r1,ty,q1⟩:=hp
 obtain⟨h1,h2⟩:=qZ I1 r1 ty
 exact⟨T,id,pa,slot,hty,h1,h2,Calls.callWith_builtin rfl (PySem.evalArgs_none (hm pins s1 σ H1 x [] v [] Q I1 r1 .nil q1))⟩
theorem wD(pa:PlainAttrs T)(slot:Slot T name id)(hty:typeOf (.builtin id)=pure (.type "method_descriptor"))(hm:Cm X id r)(ho:PE X o to)(ha:PA X (e::es) t)
  (hbase:attributeBase o name X.env (eval o X.env)=eval o X.env:=by rfl)
  (hfew:((backTo cpos (starEach (e::es) X.env)).all (fun x=> !x.1)&&(backToKw cpos (keywordEach [] X.env)).all (fun x=>x.1.isSome)
   &&decide ((e::es).length+([]:List Keyword).length+(if([]:List Keyword).isEmpty then 0 else 1)<30))=true:=by rfl)
  (hline:(apos.endLine==cpos.line)=true:=by rfl)(hs:starEach (e::es) X.env=(false,eval e X.env)::starEach es X.env:=by rfl)(hplain:(backTo cpos (starEach es X.env)).any (·.1)=false:=by rfl):
  PE X (.Call (.Attribute o name apos) (e::es) [] cpos) (Ct X.K T r to t):=by
 intro pins s σ H Q I h
 refine wpAny_Call_method_late hbase hfew hline rfl (bz (ho pins s σ H _ I h) fun v s1 hp=>?_)
 obtain⟨x,H1,I1,r1,ty,q1⟩:=hp
 obtain⟨h1,h2⟩:=qZ I1 r1 ty
 refine⟨T,id,pa,slot,hty,h1,h2,?_⟩
 have hA:=ha cpos pins s1 σ H1 _ I1 q1
 rw[hs] at hA ⊢
 refine Calls.callWith_builtin (by show(false||(backTo cpos (starEach es X.env)).any (·.1))=false;rw[hplain]<;>rfl) (Calls.evalArgs_plain ?_)
 exact bz hA fun us s2 ⟨vs,H2,I2,r2,q2⟩=>hm pins s2 σ H2 x vs v us Q I2 r1 r2 q2
end
noncomputable def A5(X:Cx)(id:String)(r:V→List V→Hp→VK→Prop):Prop:=
 ∀(pins:List (Addr×Obj))(s:Shared)(σ:St)(H:Hp)(x:V)(xs:List V) (v:Value) (us:List Value)(Q:VK),Inv X pins σ H s→RelV x v→bf xs us→r x xs H Q→
  wpAny (model X.prog X.w) X.A (call (.builtin id) (v::us)) (EP X pins σ Q) X.xe s
theorem bf.one:∀{x:V}{us:List Value},bf [x] us→∃u,us=[u]∧RelV x u
 |_,_,.cons r .nil=>⟨_,rfl,r⟩
theorem bf.zero:∀{us:List Value},bf [] us→us=[]
 |_,.nil=>rfl
theorem bf.dropLast(h:bf xs us):bf xs.dropLast us.dropLast:=by
 induction h with
 |nil=>exact .nil
 |cons r t ih=>
  cases t with
  |nil=>exact .nil
  |cons q t'=>exact .cons r ih
theorem bf.rep(h:bf xs us):∀k:Nat,bf (List.replicate k xs).flatten (List.replicate k us).flatten
 |0=>.nil
 |k+1=>by
  rw[List.replicate_succ,List.replicate_succ,List.flatten_cons,List.flatten_cons]
  exact bf.append h (bf.rep h k)
theorem oy{α:Type}(l:List α):l.eraseIdx (l.length - 1)=l.dropLast:=by
 induction l with
 |nil=>rfl
 |cons a r ih=>
  cases r with
  |nil=>rfl
  |cons b r=>
   have e:(a::b::r).length - 1=((b::r).length - 1)+1:=by
    have h1:(a::b::r).length=r.length+2:=rfl
    have h2:(b::r).length=r.length+1:=rfl
    omega
   rw[e,List.eraseIdx_cons_succ,ih]
   all_goals rfl
theorem foldl_rep(its:List Value):∀(k:Nat)(acc:List Value),
  List.foldl (fun x1 x2=>x1++x2) acc.toArray (List.replicate k its.toArray)=(acc++(List.replicate k its).flatten).toArray
 |0,acc=>by simp
 |k+1,acc=>by
  have e:acc.toArray++its.toArray=(acc++its).toArray:=by simp
  have e2:(acc++its)++(List.replicate k its).flatten=acc++(List.replicate (k+1) its).flatten:=by
   rw[List.replicate_succ,List.flatten_cons,List.append_assoc]
  rw[←e2,←foldl_rep its k (acc++its),←e,List.replicate_succ,List.foldl_cons]
section
variable{X:Cx}{pins:List (Addr×Obj)}{σ:St}{H:Hp}{s:Shared}{l:Addr}{xs ys:List V}
theorem Inv.lset{f:Array Value→Array Value}(I:Inv X pins σ H s)(hH:H l=some (.lst xs))
  (e:s.heap.get? l=some {cls:= .type "list",data:= .seq its.toArray n}) (hf:f its.toArray=its'.toArray)(hv:bf ys its')(hz:ys.length≤sizeLine):
  Inv X pins σ (bj H l (.lst ys)) {s with heap:=s.heap.update l (Obj.mapSeq f),toks:=t'}:=by
 have q:=PySem.IsL.update e f
 rw[hf] at q
 refine I.write (x:=l) (e:=l) (by rw[hH];exact trivial) (.inl rfl) (fun b' u hb hu=>(Heap.get?_update_other s.heap (Obj.mapSeq f) (Ne.symm hb)).trans hu) ⟨_,q⟩ ?_
 exact⟨hz,its',_,hv,q⟩
theorem Inv.lnew(I:Inv X pins σ H s)(hv:bf ys its)(hz:ys.length≤sizeLine):
  Inv X pins σ (bj H s.heap.objs.size (.lst ys)) {s with heap:=s.heap.push {cls:= .type "list",data:= .seq its.toArray},toks:=t'}:=
 I.laid (fun _ _ q=>ac _ q) (af _) ⟨hz,its,0,hv,ak _ rfl⟩
theorem Inv.fresh(I:Inv X pins σ H s):H s.heap.objs.size=none:=I.hok.fresh (af _)
theorem Inv.lstM(I:Inv X pins σ H s)(hH:H l=some (.lst xs)):xs.length≤sizeLine∧∃(its:List Value)(n:Nat),bf xs its∧xs.length=its.length∧s.heap.get? l=some {cls:= .type "list",data:= .seq its.toArray n}:=by
 obtain⟨z,its,n,r,e⟩:=I.hok l _ hH
 exact⟨z,its,n,r,r.length,e⟩
theorem jg(h:n≤sizeLine):Builtin.List.listTooLong n=false:=by
 unfold Builtin.List.listTooLong
 exact decide_eq_false (by omega)
end
section
variable{X:Cx}
noncomputable def vf:V→List V→Hp→VK→Prop:=fun x vs H Q=>∃l xs y,x=.ref l∧vs=[y]∧H l=some (.lst xs)∧xs.length<sizeLine∧Q .non (bj H l (.lst (xs++[y])))
theorem hV:A5 X "list.append" vf:=by
 intro pins s σ H x vs v us Q I rx rv h
 obtain⟨l,xs,y,rfl,rfl,hH,hz,q⟩:=h
 cases rx
 obtain⟨u,rfl,ru⟩:=rv.one
 obtain⟨z,its,n,r,hl,e⟩:=I.lstM hH
 refine call_meets F.slot_list_append ⟨_,e,rfl⟩ F.entry_list_append (F.args_list_append_2 _ _) (PySem.list_append l its.toArray n u (by rw[List.size_toArray];omega)) ⟨e,?_⟩
 refine⟨.non,_,I.lset (its':=its++[u]) hH e (by simp) (r.append (.cons ru .nil)) ?_,rfl,q⟩
 rw[aC,List.length_singleton]
 omega
noncomputable def ve:V→List V→Hp→VK→Prop:=fun x vs H Q=>∃l b xs zs,x=.ref l∧vs=[.ref b]∧H l=some (.lst xs)∧H b=some (.lst zs)∧xs.length+zs.length≤sizeLine∧Q .non (bj H l (.lst (xs++zs)))
theorem qe:A5 X "list.extend" ve:=by
 intro pins s σ H x vs v us Q I rx rv h
 obtain⟨l,b,xs,zs,rfl,rfl,hH,hB,hz,q⟩:=h
 cases rx
 obtain⟨u,rfl,ru⟩:=rv.one
 cases ru
 obtain⟨z,its,n,r,hl,e⟩:=I.lstM hH
 obtain⟨z2,its2,n2,r2,hl2,e2⟩:=I.lstM hB
 have hsz:its.toArray.size+its2.toArray.size≤sizeLine:=by rw[List.size_toArray,List.size_toArray];omega
 have hlong:¬(!its.toArray.isEmpty&&Builtin.List.listTooLong (its.toArray.size+its2.toArray.size))=true:=by
  rw[jg hsz,Bool.and_false]
  exact aq
 refine call_meets F.slot_list_extend ⟨_,e,rfl⟩ F.entry_list_extend (F.args_list_extend_2 _ _)
  (AutoSeq1.list_extend_list_list_0 l its.toArray n b its2.toArray n2 hlong (by rw[List.size_toArray];omega) (by omega)) ⟨e,e2,?_⟩
 refine⟨.non,_,I.lset (its':=its++its2) hH e (by simp) (r.append r2) ?_,rfl,q⟩
 rw[aC]
 omega
noncomputable def BE:V→List V→Hp→VK→Prop:=fun x vs H Q=>∃l xs y,x=.ref l∧vs=[]∧H l=some (.lst xs)∧xs[xs.length - 1]? =some y∧Q y (bj H l (.lst xs.dropLast))
theorem x8:A5 X "list.pop" BE:=by
 intro pins s σ H x vs v us Q I rx rv h
 obtain⟨l,xs,y,rfl,rfl,hH,hy,q⟩:=h
 cases rx
 have hus:=rv.zero
 subst hus
 obtain⟨z,its,n,r,hl,e⟩:=I.lstM hH
 obtain⟨u,hu,ru⟩:=r.get hy
 have hy':its.toArray[its.toArray.size - 1]? =some u:=by
  show its.toArray[its.length - 1]? =some u
  rw[←Array.getElem?_toList,←hl]
  exact hu
 refine call_meets F.slot_list_pop ⟨_,e,rfl⟩ F.entry_list_pop (F.args_list_pop_1 _) (MeetsSeq.list_pop_last l its.toArray n u hy' (by rw[List.size_toArray];omega)) ⟨e,?_⟩
 refine⟨y,_,I.lset (its':=its.dropLast) hH e ?_ r.dropLast ?_,ru,q⟩
 ·show its.toArray.eraseIdxIfInBounds (its.toArray.size - 1)=its.dropLast.toArray
  rw[List.size_toArray,List.eraseIdxIfInBounds_toArray,oy]
 ·rw[List.length_dropLast]
  omega
noncomputable def BH:R2:=fun x y H Q=>∃l b xs zs,x=.ref l∧y=.ref b∧H l=some (.lst xs)∧H b=some (.lst zs)∧xs.length+zs.length≤sizeLine∧∀p,H p=none→Q (.ref p) (bj H p (.lst (xs++zs)))
theorem xZ:iA X (binaryOp .Add) BH:=by
 intro pins s σ H x y v u Q I rx ry h
 obtain⟨l,b,xs,zs,rfl,rfl,hH,hB,hz,q⟩:=h
 cases rx
 cases ry
 obtain⟨z,its,n,r,hl,e⟩:=I.lstM hH
 obtain⟨z2,its2,n2,r2,hl2,e2⟩:=I.lstM hB
 refine PySem.P.add_list e e2 ?_ (by rw[List.size_toArray,List.size_toArray];omega)
 have ea:its.toArray++its2.toArray=(its++its2).toArray:=by simp
 rw[ea]
 exact⟨.ref _,_,I.lnew (t':=s.toks) (r.append r2) (by rw[aC];omega),rfl,q _ I.fresh⟩
noncomputable def BD:R2:=fun x y H Q=>∃l k xs,x=.ref l∧y=.int k∧H l=some (.lst xs)∧ -(2^63)≤k∧k<2^63∧xs.length*k.toNat≤sizeLine∧
 ∀p,H p=none→Q (.ref p) (bj H p (.lst (List.replicate k.toNat xs).flatten))
theorem len_rep{α:Type}(xs:List α)(k:Nat):(List.replicate k xs).flatten.length=k*xs.length:=by
 induction k with
 |zero=>simp
 |succ k ih=>rw[List.replicate_succ,List.flatten_cons,aC,ih,Nat.succ_mul,Nat.add_comm]
theorem xX:iA X (binaryOp .Mult) BD:=by
 intro pins s σ H x y v u Q I rx ry h
 obtain⟨l,k,xs,rfl,rfl,hH,h1,h2,hz,q⟩:=h
 cases rx
 obtain⟨t,rfl⟩:=ry
 obtain⟨z,its,n,r,hl,e⟩:=I.lstM hH
 have hlen:its.toArray.size*k.toNat≤sizeLine:=by rw[List.size_toArray,←hl];exact hz
 have hcap:¬its.toArray.size*k.toNat>(2^63 - 1) / 8:=by
  have:(sizeLine:Nat)≤(2^63 - 1) / 8:=by decide
  omega
 have hfit:¬(!Builtin.List.listFitsIndex k)=true:=by
  rw[fitsIndex_both h1 h2]
  exact aq
 have hlong:¬Builtin.List.listTooLong (its.toArray.size*k.toNat)=true:=by
  rw[jg hlen]
  exact aq
 have hnew:List.foldl (fun x1 x2=>x1++x2) #[] (List.replicate (if its.toArray.isEmpty=true then 0 else k.toNat) its.toArray)=(List.replicate k.toNat its).flatten.toArray:=by
  have f0:∀m:Nat,List.foldl (fun x1 x2=>x1++x2) #[] (List.replicate m its.toArray)=(List.replicate m its).flatten.toArray:=fun m=>by
   have:=foldl_rep its m []
   rw[List.nil_append] at this
   exact this
  rw[f0]
  cases its with
  |nil=>simp
  |cons a r'=>rw[if_neg (by simp)]
 refine wpAny_binaryOp_repeat_ref (T:= "list") (U:= "int") (by decide) ⟨_,e,rfl⟩ (fun s'=>typeIs_int s' k t) noFill_list_mul F.fills_int_mul F.slot_int_rmul repeat_list F.slot_int_index.lookup
  (call_meets F.slot_int_rmul (typeIs_int s k t) F.entry_int_rmul (F.args_int_rmul_2 _ _) (int___rmul___int_list k t l its.toArray n)
   ⟨e,rfl,⟨_,e,rfl⟩,call_meets F.slot_list_mul ⟨_,e,rfl⟩ F.entry_list_mul (F.args_list_mul_2 _ _) (AutoListH.list___mul___list_int_3 l its.toArray n k t hfit hcap hlong) ⟨e,?_⟩⟩)
 rw[hnew]
 exact⟨.ref _,_,I.lnew (t':=s.toks) (r.rep k.toNat) (by rw[len_rep,Nat.mul_comm];exact hz),rfl,q _ I.fresh⟩
end
section
end
section
end
end L2
namespace Att
open PySem PySem.W PySem.Calls PyProof.Rows
theorem iC{P:Params}{h:Heap}:∀(ns:List Int)(vs:List Value),WellAll P h vs (ns.map WData.int)→IntsAre vs ns:=by
 intro ns
 induction ns with
 |nil=>
  intro vs w
  rw[List.map_nil] at w
  cases w
  exact .nil
 |cons n ns ih=>
  intro vs w
  rw[List.map_cons] at w
  cases w with
  |cons a b=>
   cases a
   exact .cons _ _ (ih _ b)
theorem pX{l:OpenLaw}{n:Nat}(hn:l.most=some n){P:Params}{h:Heap}{args:List WData}{vals:List Value}
  (hpre:l.row.toRowW.claim.pre args=true)(hwl:WellAll P h vals args):
  ∃a vs ns,vals=[Value.ref a]∧args=[WData.list (ns.map WData.int)]∧h.get? a=some {cls:= .type "list",data:= .seq vs.toArray}∧IntsAre vs ns∧ns.length≤n:=by
 have hsh:WShape.hasAll [] args [.list .int]=true:=(pre_splitW hpre).1
 have hc:l.pre.holds [] {args:=args}=true:=(pre_splitW hpre).2
 obtain⟨d,r,rfl,h1,h2⟩:=hasAllW_cons hsh
 obtain rfl:=hasAllW_nil h2
 obtain⟨xs,rfl,h3⟩:=hasW_list h1
 obtain⟨ns,rfl⟩:=items_int h3
 have hlen:ns.length≤n:=by
  unfold OpenLaw.pre at hc
  have h4:(WTm.not (.lt (.lit (.int (n:Int))) (.len (.arg 0)))).holds [] {args:=[.list (ns.map .int)]}=true:=by
   have h4:=(holds_andW hc).1
   rw[hn] at h4
   exact h4
  have h5:=condW_of h4 (w_not (w_lt w_lit (w_len_list (w_arg rfl))))
  rw[List.length_map] at h5
  refine Nat.le_of_not_lt fun q=>?_
  have q':(n:Int)<((ns.length:Nat):Int):=by omega
  first
   |(rw[decide_eq_true q'] at h5;exact absurd h5 (by decide))
   |(simp at h5;omega)
 cases hwl with
 |cons w1 w2=>
  cases w2
  cases w1 with
  |list ho hall=>exact⟨_,_,ns,rfl,rfl,ho,iC ns _ hall,hlen⟩
theorem p8(l:OpenLaw)(args:List WData):l.row.toRowW.claim.post args (.bool true) args=true:=
 postW_of (r:=l.row.toRowW) (X:=(true==true))
  (show WShape.has [] (.bool true) .bool=true by first|rfl|decide|simp[WShape.has,WShape.arms,WShape.armsAll])
  (show(WTm.eq .res (.lit (.bool true))).value [] {args:=args,res:=some (.bool true),after:=args}=some (.bool (true==true)) from w_eq_bool (w_res rfl) w_lit) rfl
theorem nv{l:OpenLaw}{n:Nat}{q:Program}{loose:List Str}{XP:(Str→Option Value)→Heap→Prop}{YP:World→Heap→Prop}{d:DefRec}
  (hn:l.most=some n)(hdf:d.params.defaults=[])
  (call:∀(w:World)(s₀ s₁:Shared)(mg mb:Str→Option Value)(fa:Addr)(o:Obj)(pm cd doc:Value)(a:Addr)(vs:List Value) (ns:List Int),
   Ground q loose [] XP w s₀ mg mb s₁.heap→YP w s₁.heap→
   s₁.heap.get? fa=some o→o.data=.func (docDef d.name d.params d.body d.scope pm cd doc)→s₁.heap.CodeRec cd d.name→mg d.name=some (.ref fa)→
   s₁.heap.get? a=some {cls:= .type "list",data:= .seq vs.toArray}→IntsAre vs ns→ns.length≤n→s₁.gens= #[]→
   codeAny (model l.prog w) callerA (.call (.ref fa) ⟨[.ref a],[]⟩) (fun r s'=>r=.ok (.ret (.bool true))∧OldK s₁.heap s'.heap∧s'.os=s₁.os∧AllBare s'.gens) s₁):
  WalkO q loose XP YP l.row.toRowW d [] (fun f vs=>PySem.call f vs):=by
 intro w s₀ s₁ mg mb G Y fa o pm cd doc dV kV ho hd hcd hD hmg hg args vals as hpre hlay hrd hwl hlo
 obtain rfl:dV=.none:=Dflts.none hD hdf
 obtain rfl:kV=.none:=Dflts.noKw hD
 obtain⟨a,vs,ns,rfl,rfl,hobj,hints,hlen⟩:=pX hn hpre hwl
 refine enter_call (codeAny_mono (call w s₀ s₁ mg mb fa o pm cd doc a vs ns G Y ho (fd_plain hd) hcd hmg hobj hints hlen hg) fun r s' hq=>?_)
 obtain⟨rfl,h2,h3,h4⟩:=hq
 exact⟨.inl ⟨.bool true,.bool true,[],rfl,fun _=>rfl,.bool true,p8 l _,fun _=>⟨List.Pairwise.nil,fun _ hm=>(nomatch hm)⟩⟩,h2,h3,h4⟩
section
end
end Att
namespace L2
open PySem PySem.Spec PyProof.Rows
variable{qual x:Str}{a f:Addr}{w:World}{P:Program}{u:Value}{y:V}{xs:List (List Key×Addr×Value)}{kvs:List (List Key×V)}{H H':Hp}{Q:Value→Shared→Prop}
theorem kf:∀{vs:List Value}{ns:List Int},IntsAre vs ns→bf (ns.map V.int) vs
 |_,_,.nil=>.nil
 |_,_,.cons n t h=>.cons ⟨t,rfl⟩ (kf h)
noncomputable def wo(H:Hp):Prop:=∀b,H b=none∨∃o xs,H b=some (.frz o (.lst xs))
theorem sE{K:al}{mg mb:Str→Option Value}{CX:t4}{k:Nat}{fa:Addr}{fd:FuncData}{sp:Sp}{s₁:Shared}{vs:List Value}{ns:List Int}
  (KX:K.In s₁.heap)(hns:s₁.heap.Ns mainGlobals mg)(hb:s₁.heap.Ns builtinsNs mb)(hbb:∀x:Str,x≠ "__name__" →mb x=bootBuiltins x) (hlim:s₁.heap.NoLimit)(hg:s₁.gens= #[])
  (ha:s₁.heap.get? a=some {cls:= .type "list",data:= .seq vs.toArray}) (hi:IntsAre vs ns)(hl:ns.length≤sizeLine)(hr:Room k callerA)
  (F:∀base:Heap,K.In base→base.Ns mainGlobals mg→FnOk P w K mg base CX k fa fd [x] sp)(hbind:∀(s:Shared)(u:Value),BindsTo s fd ⟨[u],[]⟩ [(x,u)])
  (hsp:∀H:Hp,wo H→du K H a (ns.map V.int)→sp [.ref a] H (fun v _=>v=.bl true) fun _ _ _=>False)
  (hCX:∀H e s',CX [] H s₁ (fun _ _ _=>False) e s'→False):
  codeAny (model P w) callerA (.call (.ref fa) ⟨[.ref a],[]⟩) (fun r s'=>r=.ok (.ret (.bool true))∧OldK s₁.heap s'.heap∧s'.os=s₁.os∧AllBare s'.gens) s₁:=by
 have rv:=kf hi
 have lenV:=hi.length
 have core:∀H:Hp,wo H→du K H a (ns.map V.int)→fS P w H s₁.heap→(∀b,H b≠none→b=a)→(H a≠none→K.lookup a=none)→
   codeAny (model P w) callerA (.call (.ref fa) ⟨[.ref a],[]⟩) (fun r s'=>r=.ok (.ret (.bool true))∧OldK s₁.heap s'.heap∧s'.os=s₁.os∧AllBare s'.gens) s₁:=by
  intro H hO hS hok hA hK
  have base_of:∀{b:Addr}{o:Obj},s₁.heap.get? b=some o→H b=none→(l3 s₁.heap H).get? b=some o:=fun e n=>sQ e n
  have noA:∀{b:Addr}{o:Obj}{es:Array DictEntry}{ep:Nat},s₁.heap.get? b=some o→o.data=.dict es ep→H b=none:=fun{b o es ep} e d=>by
   cases q:H b with
   |none=>rfl
   |some u=>
    have e':b=a:=hA b (by rw[q];simp)
    subst e'
    rw[ha] at e;cases e
    have d':Data.seq vs.toArray _=Data.dict es ep:=d
    cases d'
  have nsK:∀{b:Addr}{m:Str→Option Value},s₁.heap.Ns b m→(l3 s₁.heap H).Ns b m:=fun{b m} ⟨o,es,ep,e,d,r⟩=>⟨o,es,ep,base_of e (noA e d),d,r⟩
  have hKb:K.In (l3 s₁.heap H):=fun b o e=>base_of (KX b o e) (by
   cases q:H b with
   |none=>rfl
   |some u=>
    have e':b=a:=hA b (by rw[q];simp)
    subst e'
    rw[hK (by rw[q];simp)] at e;cases e)
  have hM:Mod K mg (l3 s₁.heap H):=⟨hKb,nsK hns,⟨mb,nsK hb,hbb⟩,let⟨mc,h1,h2⟩:=hlim;⟨mc,nsK h1,h2⟩⟩
  have e0:Env0 P w K mg (l3 s₁.heap H) callerA [] s₁ H:=⟨rfl,hM,fun b o e=>vG e,Nat.le_of_eq (qj _ _),trivial,fun b hb=>absurd (show b∈([]:List Addr) from hb) (by simp),hok,.of_eq hg⟩
  refine codeAny_mono ((F _ hKb (nsK hns)).run callerA [] s₁ H ⟨[.ref a],[]⟩ [.ref a] [.ref a] _ _ hr e0 (hbind s₁ (.ref a)) (.cons rfl .nil) (hsp H hO hS)) fun r s' h=>?_
  cases r with
  |error e=>exact(hCX H e s' h).elim
  |ok fl=>
   cases fl with
   |next=>exact False.elim h
   |brk=>exact False.elim h
   |cont=>exact False.elim h
   |ret u=>
    obtain⟨v,H',os,bare,un,hok',r',q⟩:=h
    have q':v=.bl true:=q
    subst q'
    obtain rfl:u=Value.bool true:=r'
    refine⟨rfl,OldK.of_keep fun b o e=>?_,os,bare⟩
    cases q:H b with
    |none=>exact un.keep b o e q (by intro z;exact absurd (show b∈([]:List Addr) from z) (by simp)) (by simp)
    |some u=>
     rcases hO b with z|⟨ob,xs,z⟩
     ·rw[q] at z;cases z
     ·have z2:=un.frzs b ob _ z
      obtain⟨e1,_⟩:=hok b _ z
      obtain⟨e2,_⟩:=hok' b _ z2
      rw[e] at e1;cases e1
      exact e2
 cases hk:K.lookup a with
 |some o=>
  have e:=KX a o hk
  rw[ha] at e
  cases e
  refine core (fun _=>none) (fun _=>.inl rfl) (.inr ⟨_,vs.toArray,_,hk,rfl,rfl,rfl,by rw[List.size_toArray,lenV];exact hl,by simpa using rv⟩) (fun b u z=>by have z':(none:Option HO)=some u:=z;cases z') (fun b z=>absurd rfl z) fun z=>absurd rfl z
 |none=>
  refine core (fun b=>if b=a then some (.frz {cls:= .type "list",data:= .seq vs.toArray} (.lst (ns.map V.int))) else none) (fun b=>?_) (.inl (.inr ⟨{cls:= .type "list",data:= .seq vs.toArray},if_pos rfl⟩)) (fun b u z=>?_) (fun b z=>?_) fun _=>hk
  ·by_cases hb:b=a
   ·exact .inr ⟨_,_,if_pos hb⟩
   ·exact .inl (if_neg hb)
  ·by_cases hb:b=a
   ·have z':=(if_pos hb).symm.trans z
    cases z'
    subst hb
    exact⟨ha,by rw[List.length_map];exact hl,vs,_,rv,ha⟩
   ·have z':=(if_neg hb).symm.trans z
    cases z'
  ·by_cases hb:b=a
   ·exact hb
   ·exact absurd (if_neg hb) z
theorem ud{l:PySem.W.OpenLaw}{n k:Nat}{q:Program}{loose:List Str}{XP:(Str→Option Value)→Heap→Prop}{YP:World→Heap→Prop}{d:DefRec}{K:Params→al}{CX:World→t4}{sp:World→Sp}
  (hn:l.most=some n)(hn2:n≤sizeLine)(hdf:d.params.defaults=[])(hr:Room k callerA)
  (hY:∀(w:World)(h:Heap),YP w h→(K w.params).In h)
  (F:∀(w:World)(mg:Str→Option Value)(fa:Addr)(h:Heap),(K w.params).In h→h.Ns mainGlobals mg→mg d.name=some (.ref fa)→
   ∃fd:FuncData,(∀(s:Shared)(u:Value),BindsTo s fd ⟨[u],[]⟩ [(x,u)])∧
    ∀base:Heap,(K w.params).In base→base.Ns mainGlobals mg→FnOk l.prog w (K w.params) mg base (CX w) k fa fd [x] (sp w))
  (hsp:∀(w:World)(H:Hp)(a:Addr)(ns:List Int),ns.length≤n→wo H→du (K w.params) H a (ns.map V.int)→sp w [.ref a] H (fun v _=>v=.bl true) fun _ _ _=>False)
  (hCX:∀(w:World)(H:Hp)(s:Shared)(e:Value)(s':Shared),CX w [] H s (fun _ _ _=>False) e s'→False):
  PySem.W.WalkO q loose XP YP l.row.toRowW d [] (fun f vs=>PySem.call f vs):=by
 refine Att.nv hn hdf fun w s₀ s₁ mg mb fa o pm cd doc a vs ns G Y ho hd hcd hmg hobj hints hlen hg=>?_
 have KX:=hY w _ Y
 obtain⟨fd,hb,hF⟩:=F w mg fa _ KX G.T.g hmg
 exact sE KX G.T.g G.T.b G.T.builtins G.T.nolimit hg hobj hints (aI hlen hn2) hr hF hb (fun H hO hS=>hsp w H a ns hlen hO hS) fun H e s'=>hCX w H s₁ e s'
noncomputable def e8(s:Stmt):Arguments:=match s with
 | .FunctionDef _ a _ _ _ _ _ _ _ _=>a
 |_=>{posonlyargs:=[],args:=[],vararg:=none,kwonlyargs:=[],kw_defaults:=[],kwarg:=none,defaults:=[]}
noncomputable def dM(s:Stmt):List Stmt:=match s with
 | .FunctionDef _ _ b _ _ _ _ _ _ _=>b
 |_=>[]
noncomputable def bG(s:Stmt):Scope:=match s with
 | .FunctionDef _ _ _ _ _ _ sc _ _ _=>sc
 |_=>{kind:= .function,names:=[],isGenerator:=false,isCoroutine:=false}
noncomputable abbrev E0:XK:=fun _ _ _=>False
structure Fun(K:al)(x qual:Str)(st:Stmt)(f:Addr)(fd:FuncData):Prop where
 ex:∃(oc:Value)(od:Option Addr)(kV doc pm:Value)(an:Option Addr)(cdv ct:Value)(osl:Array (Option Value)),
  fd=PySem.W.fnOf x qual (e8 st) (dM st) (bG st) .none kV doc pm an cdv ct∧K.lookup f=some ⟨oc,od,.func fd,osl⟩∧PySem.W.codeIn K cdv qual=true
 kp:PySem.W.keepIn K (.ref f)=true
section
variable{K:al}
theorem Fun.binds{st:Stmt}{fd:FuncData}{ps:List Str}(F:Fun K x qual st f fd)
  (h:∀(kV doc pm:Value)(an:Option Addr)(cdv ct:Value)(us:List Value),us.length=ps.length→bindArgs (PySem.W.fnOf x qual (e8 st) (dM st) (bG st) .none kV doc pm an cdv ct) ⟨us,[]⟩=pure (ps.zip us)):Binds K fd ps []:=by
 obtain⟨oc,od,kV,doc,pm,an,cdv,ct,osl,rfl,lk,hcd⟩:=F.ex
 exact .all (h kV doc pm an cdv ct)
theorem yo{st:Stmt}{oc:Value}{od an:Option Addr}{osl:Array (Option Value)}{kV doc pm cdv ct:Value}(l:K.lookup f=some ⟨oc,od,.func (PySem.W.fnOf x qual (e8 st) (dM st) (bG st) .none kV doc pm an cdv ct),osl⟩)
  (c:PySem.W.codeIn K cdv qual=true)(k:PySem.W.keepIn K (.ref f)=true):Fun K x qual st f (PySem.W.fnOf x qual (e8 st) (dM st) (bG st) .none kV doc pm an cdv ct):=⟨⟨oc,od,kV,doc,pm,an,cdv,ct,osl,rfl,l,c⟩,k⟩
end
section
end
theorem BL{A B:Prop}(h:A):if true=true then A else B:=by
 rw[if_pos rfl]
 exact h
set_option maxHeartbeats 4000000
set_option linter.unusedVariables false
section
variable{κ:Type}[DecidableEq κ]
noncomputable def eG(kvs:List (κ×V))(k:κ):Option V:=(kvs.find? fun kv=>decide (kv.1=k)).map (·.2)
noncomputable def putK(kvs:List (κ×V))(k:κ)(v:V):List (κ×V):=
 if(kvs.any fun kv=>decide (kv.1=k))=true then kvs.map (fun kv=>if kv.1=k then(kv.1,v) else kv) else kvs++[(k,v)]
theorem qY{k:κ}:eG ([]:List (κ×V)) k=none:=rfl
theorem fC{p:κ×V}{r:List (κ×V)}{k:κ}(e:p.1=k):eG (p::r) k=some p.2:=by simp[eG,List.find?_cons,e]
theorem dQ{p:κ×V}{r:List (κ×V)}{k:κ}(e:¬p.1=k):eG (p::r) k=eG r k:=by simp[eG,List.find?_cons,e]
theorem i5(k:κ):∀kvs:List (κ×V),(kvs.any fun kv=>decide (kv.1=k))=(eG kvs k).isSome
 |[]=>rfl
 |p::r=>by
  rw[List.any_cons]
  by_cases e:p.1=k
  ·simp only[fC e,decide_eq_true e,Bool.true_or,Option.isSome_some]
  ·rw[dQ e,decide_eq_false e,Bool.false_or];exact i5 k r
theorem dY(kvs:List (κ×V))(k:κ)(v:V):(putK kvs k v).length≤kvs.length+1:=by
 unfold putK
 split
 ·rw[List.length_map];omega
 ·rw[aC,List.length_cons,List.length_nil];omega
theorem rS{kvs:List (κ×V)}{k:κ}(v:V)(h:eG kvs k=none):putK kvs k v=kvs++[(k,v)]:=by
 unfold putK
 rw[i5,h]
 exact if_neg (by decide)
theorem et.isSome_eq{o:Option V}{u:Option Value}(r:et o u):o.isSome=u.isSome:=by
 cases o with
 |none=>cases u with
  |none=>rfl
  |some _=>exact(show False from r).elim
 |some _=>cases u with
  |none=>exact(show False from r).elim
  |some _=>rfl
theorem KV.val{kvs:List (κ×V)}{vs:List (κ×Value)}(r:KV kvs vs)(k:κ):et (eG kvs k) (valueAt vs k):=by
 unfold KV at r
 induction r with
 |nil=>exact True.intro
 | @cons p q ps qs h t ih=>
  obtain⟨h1,h2⟩:=h
  by_cases e:p.1=k
  ·have e':q.1=k:=h1.symm.trans e
   have b:valueAt (q::qs) k=some q.2:=by simp[valueAt,List.find?_cons,e']
   rw[fC e,b];exact h2
  ·have e':¬q.1=k:=fun z=>e (h1.trans z)
   have b:valueAt (q::qs) k=valueAt qs k:=by simp[valueAt,List.find?_cons,e']
   rw[dQ e,b];exact ih
theorem KV.any{kvs:List (κ×V)}{vs:List (κ×Value)}(r:KV kvs vs)(k:κ):(kvs.any fun kv=>decide (kv.1=k))=vs.any fun kv=>decide (kv.1=k):=by
 unfold KV at r
 induction r with
 |nil=>rfl
 |cons h t ih=>rw[List.any_cons,List.any_cons,ih,h.1]
theorem KV.repl{kvs:List (κ×V)}{vs:List (κ×Value)}(r:KV kvs vs)(k:κ)(ry:RelV y u):
  KV (kvs.map fun kv=>if kv.1=k then(kv.1,y) else kv) (vs.map fun kv=>if kv.1=k then(kv.1,u) else kv):=by
 unfold KV at r ⊢
 induction r with
 |nil=>exact .nil
 | @cons p q ps qs h t ih=>
  rw[List.map_cons,List.map_cons]
  refine .cons ?_ ih
  obtain⟨h1,h2⟩:=h
  by_cases e:p.1=k
  ·rw[if_pos e,if_pos (h1.symm.trans e)];exact⟨h1,ry⟩
  ·rw[if_neg e,if_neg (fun z=>e (h1.trans z))];exact⟨h1,h2⟩
theorem KV.put{kvs:List (κ×V)}{vs:List (κ×Value)}(r:KV kvs vs)(k:κ)(ry:RelV y u):KV (putK kvs k y) (stored vs k u):=by
 unfold putK stored
 rw[r.any k]
 by_cases e:(vs.any fun kv=>decide (kv.1=k))=true
 ·rw[if_pos e,if_pos e];exact r.repl k ry
 ·rw[if_neg e,if_neg e];exact Paired.snoc r ⟨rfl,ry⟩
theorem KV.length{kvs:List (κ×V)}{vs:List (κ×Value)}(r:KV kvs vs):kvs.length=vs.length:=Paired.length r
end
theorem im{k:Key}(r:RelV (kV k) u):(bD P w).is k u=true:=by
 cases k with
 |inl i=>obtain⟨t,e⟩:=(show ∃t,u=Value.int i t from r);subst e;exact mM P w i t
 |inr x=>obtain⟨t,e⟩:=(show ∃t,u=Value.str x t from r);subst e;exact mL P w x t
theorem kz{P:Program}{w:World}:∀{ks:List Key}{us:List Value},bf (ks.map kV) us→ItemsAre (bD P w) ks us
 |[],_,r=>by rw[List.map_nil] at r;cases r;exact .nil
 |k::ks,_,r=>by
  rw[List.map_cons] at r
  cases r with
  |cons h t=>exact .cons (im h) (kz t)
noncomputable abbrev KT(H:Hp):List (List Key×V)→List (List Key×Addr×Value)→Prop:=Paired fun p q=>p.1=q.1∧H q.2.1=some (.tup (p.1.map kV))∧RelV p.2 q.2.2
theorem KT.val(r:KT H kvs xs)(k:List Key):et (eG kvs k) ((atKey xs k).map (·.2)):=by
 induction r with
 |nil=>exact True.intro
 | @cons p q ps qs h t ih=>
  obtain⟨h1,_,h2⟩:=h
  by_cases e:p.1=k
  ·have e':q.1=k:=h1.symm.trans e
   have b:atKey (q::qs) k=some q.2:=by simp[atKey,List.find?_cons,e']
   rw[fC e,b];exact h2
  ·have e':¬q.1=k:=fun z=>e (h1.trans z)
   have b:atKey (q::qs) k=atKey qs k:=by simp[atKey,List.find?_cons,e']
   rw[dQ e,b];exact ih
theorem KT.repl(r:KT H kvs xs)(k:List Key)(ry:RelV y u):
  KT H (kvs.map fun kv=>if kv.1=k then(kv.1,y) else kv) (xs.map (putAt k u)):=by
 induction r with
 |nil=>exact .nil
 | @cons p q ps qs h t ih=>
  rw[List.map_cons,List.map_cons]
  refine .cons ?_ ih
  obtain⟨h1,h2,h3⟩:=h
  unfold putAt
  by_cases e:p.1=k
  ·rw[if_pos e,if_pos (h1.symm.trans e)];exact⟨h1,h2,ry⟩
  ·rw[if_neg e,if_neg (fun z=>e (h1.trans z))];exact⟨h1,h2,h3⟩
theorem KT.put(r:KT H kvs xs)(k:List Key){b:Addr}(hb:H b=some (.tup (k.map kV)))(ry:RelV y u):
  KT H (putK kvs k y) (storedH xs k b u):=by
 have e:(kvs.any fun kv=>decide (kv.1=k))=(atKey xs k).isSome:=by
  rw[i5,(r.val k).isSome_eq,Option.isSome_map]
 unfold putK storedH
 rw[e]
 by_cases q:(atKey xs k).isSome=true
 ·rw[if_pos q,if_pos q];exact r.repl k ry
 ·rw[if_neg q,if_neg q];exact Paired.snoc r ⟨rfl,hb,ry⟩
theorem KT.keeps(r:KT H kvs xs)(ht:∀b ys,H b=some (.tup ys)→H' b=some (.tup ys)):KT H' kvs xs:=
 Paired.mapP r fun _ _ z=>⟨z.1,ht _ _ z.2.1,z.2.2⟩
section
variable{P:Program}{w:World}{H:Hp}{h:Heap}{a:Addr}
theorem wB{u:HO}(ok:fS P w H h)(e:Rd H a u):bI P w H h a u:=e.ok ok
theorem kM{kvs:List (Key×V)}(ok:fS P w H h)(e:Rd H a (.dK kvs)):kvs.length≤sizeLine∧(a==sysModules)=false∧∃vs,KV kvs vs∧h.DictOf (bD P w) a vs:=
 show bI P w H h a (.dK kvs) from wB ok e
theorem wK{kvs:List (Key×V)}(ok:fS P w H h)(e:H a=some (.dK kvs)):kvs.length≤sizeLine∧(a==sysModules)=false∧∃vs,KV kvs vs∧h.DictOf (bD P w) a vs:=kM ok (.inl e)
theorem jn{ks:List Key}(ok:fS P w H h)(e:H a=some (.tup (ks.map kV))):(tupleKind (bD P w)).is h ks a:=by
 obtain⟨_,its,r,o,h1,h2,n,h3⟩:=(show bI P w H h a (.tup (ks.map kV)) from ok a _ e)
 exact⟨o,its.toArray,n,h1,h2,h3,by simpa using kz r⟩
theorem m8(ok:fS P w H h)(e:Rd H a (.dT kvs)):kvs.length≤sizeLine∧(a==sysModules)=false∧
  ∃xs,KT H kvs xs∧h.DictOfH (tupleKind (bD P w)) a xs:=by
 obtain⟨z,y,xs,r,o,es,ep,h1,h2,h3,h4,h5⟩:=(show bI P w H h a (.dT kvs) from wB ok e)
 refine⟨z,y,xs,r,o,es,ep,h1,h2,h3,h4,fun x hx=>?_,h5⟩
 have all:∀{l:List (List Key×V)}{m:List (List Key×Addr×Value)},KT H l m→∀x∈m,(tupleKind (bD P w)).is h x.1 x.2.1:=by
  intro l m q
  induction q with
  |nil=>intro x hx;exact nomatch hx
  | @cons p q ps qs hq t ih=>
   intro x hx
   rcases List.mem_cons.mp hx with e|hx
   ·subst e
    exact jn ok (by rw[←hq.1];exact hq.2.1)
   ·exact ih x hx
 exact all r x hx
theorem AK(ok:fS P w H h)(e:H a=some (.dT kvs)):kvs.length≤sizeLine∧(a==sysModules)=false∧
  ∃xs,KT H kvs xs∧h.DictOfH (tupleKind (bD P w)) a xs:=m8 ok (.inl e)
end
noncomputable def ka(H:Hp)(a:Addr)(y:V)(r:Option V):Prop:=
 (∃kvs k,Rd H a (.dK kvs)∧y=kV k∧r=eG kvs k)∨∃kvs k b,Rd H a (.dT kvs)∧y=.ref b∧H b=some (.tup (k.map kV))∧r=eG kvs k
noncomputable def tZ(H:Hp)(a:Addr)(y v:V)(H':Hp):Prop:=
 (∃kvs k,H a=some (.dK kvs)∧y=kV k∧kvs.length<sizeLine∧H'=bj H a (.dK (putK kvs k v)))∨
 ∃kvs k b,H a=some (.dT kvs)∧y=.ref b∧H b=some (.tup (k.map kV))∧kvs.length<sizeLine∧H'=bj H a (.dT (putK kvs k v))
theorem ka.k{H:Hp}{a:Addr}{kvs:List (Key×V)}{k:Key}(e:H a=some (.dK kvs)):ka H a (kV k) (eG kvs k):= .inl ⟨kvs,k,.inl e,rfl,rfl⟩
theorem tZ.k{H:Hp}{a:Addr}{kvs:List (Key×V)}{k:Key}{v:V}(e:H a=some (.dK kvs))(hl:kvs.length<sizeLine):tZ H a (kV k) v (bj H a (.dK (putK kvs k v))):= .inl ⟨kvs,k,e,rfl,hl,rfl⟩
section
variable{X:Cx}{pins:List (Addr×Obj)}{σ:St}{H:Hp}{s:Shared}{a:Addr}{y v:V}{u r:Value}{o:Option V}{A:Around}{E:Value→Shared→Prop}
theorem Inv.big(I:Inv X pins σ H s):sysModules<s.heap.objs.size:=by
 have h:mainGlobals<s.heap.objs.size:=(I.mod.glob.keeps I.bk).lt
 exact Nat.lt_trans (by decide) h
theorem qw(hu:A.units+1<cLine)(I:Inv X pins σ H s)(g:ka H a y (some v))(ry:RelV y u)(h:∀w' s',Inv X pins σ H s'→RelV v w'→Q w' s'):
  wpAny (model X.prog X.w) A (getItem (.ref a) u) Q E s:=by
 rcases g with⟨kvs,k,e,ey,l⟩|⟨kvs,k,b,e,ey,eb,l⟩
 ·subst ey
  obtain⟨z,hd,vs,rel,dd⟩:=kM I.hok e
  obtain⟨w',hw,rw'⟩:=et.some_of (v:=v) (o:=valueAt vs k) (by rw[l];exact rel.val k)
  exact wpAny_getItem_of (im ry) dd.mapOf hw (h w' _ (I.tok _) rw')
 ·subst ey
  cases(show u=Value.ref b from ry)
  obtain⟨z,hd,xs,rel,dd⟩:=m8 I.hok e
  obtain⟨w',hw,rw'⟩:=et.some_of (v:=v) (o:=(atKey xs k).map (·.2)) (by rw[l];exact rel.val k)
  obtain⟨p,hp,hp2⟩:=Option.map_eq_some_iff.mp hw
  refine wpAny_getItem_heap (tupleKind_room_in1 hu) (jn I.hok eb) dd hp ?_
  rw[hp2]
  exact h w' _ (I.tok _) rw'
theorem B0(hu:A.units+1<cLine)(I:Inv X pins σ H s)(g:ka H a y o)(ry:RelV y u)(h:∀s',Inv X pins σ H s'→Q (.bool o.isSome) s'):
  wpAny (model X.prog X.w) A (compareOp .In u (.ref a)) Q E s:=by
 rcases g with⟨kvs,k,e,ey,l⟩|⟨kvs,k,b,e,ey,eb,l⟩
 ·subst ey
  obtain⟨z,hd,vs,rel,dd⟩:=kM I.hok e
  refine wpAny_in_of (im ry) hd dd.mapOf ?_
  rw[←(rel.val k).isSome_eq,←l]
  exact h _ (I.tok _)
 ·subst ey
  cases(show u=Value.ref b from ry)
  obtain⟨z,hd,xs,rel,dd⟩:=m8 I.hok e
  refine wpAny_in_heap (tupleKind_room_in1 hu) (jn I.hok eb) hd dd ?_
  have q:=(rel.val k).isSome_eq
  rw[Option.isSome_map] at q
  rw[←q,←l]
  exact h _ (I.tok _)
theorem wd(hu:A.units+1<cLine)(I:Inv X pins σ H s)(g:ka H a y o)(ry:RelV y u)(h:∀s',Inv X pins σ H s'→Q (.bool (!o.isSome)) s'):
  wpAny (model X.prog X.w) A (compareOp .NotIn u (.ref a)) Q E s:=by
 rcases g with⟨kvs,k,e,ey,l⟩|⟨kvs,k,b,e,ey,eb,l⟩
 ·subst ey
  obtain⟨z,hd,vs,rel,dd⟩:=kM I.hok e
  refine wpAny_notIn_of (im ry) hd dd.mapOf ?_
  rw[←(rel.val k).isSome_eq,←l]
  exact h _ (I.tok _)
 ·subst ey
  cases(show u=Value.ref b from ry)
  obtain⟨z,hd,xs,rel,dd⟩:=m8 I.hok e
  refine wpAny_notIn_heap (tupleKind_room_in1 hu) (jn I.hok eb) hd dd ?_
  have q:=(rel.val k).isSome_eq
  rw[Option.isSome_map] at q
  rw[←q,←l]
  exact h _ (I.tok _)
theorem l_{h':Heap}{t':Nat}{ob:HO}(I:Inv X pins σ H s)(mu:AW (H a))(hs:Heap.SameBut a s.heap h')(he:∃q,h'.get? a=some q)(new:bI X.prog X.w (bj H a ob) h' a ob):
  Inv X pins σ (bj H a ob) {s with heap:=h',toks:=t'}:=
 I.write (x:=a) (e:=a) mu (.inl rfl) (fun b q hb z=>(hs.2 b hb).trans z) he new
theorem l8{h':Heap}{kvs:List (Key×V)}{vs:List (Key×Value)}(z:kvs.length≤sizeLine)(hd:(a==sysModules)=false)(rel:KV kvs vs)(dd:h'.DictOf (bD P w) a vs):
  bI P w H' h' a (.dK kvs):=⟨z,hd,vs,rel,dd⟩
theorem qv{Q:Unit→Shared→Prop}(hu:A.units+1<cLine)(I:Inv X pins σ H s)(g:tZ H a y v H')(ry:RelV y u)(rv:RelV v r)(h:∀s',Inv X pins σ H' s'→Q () s'):
  wpAny (model X.prog X.w) A (setItem (.ref a) u r) Q E s:=by
 rcases g with⟨kvs,k,e,ey,l,eH⟩|⟨kvs,k,b,e,ey,eb,l,eH⟩
 ·subst ey eH
  obtain⟨z,hd,vs,rel,dd⟩:=wK I.hok e
  have hz:vs.length≤sizeLine:=by rw[←rel.length];exact z
  have hl:(putK kvs k v).length≤sizeLine:=by have:=dY kvs k v;omega
  refine wpAny_setItem_pairs (hsz:=hz) (im ry) dd fun h' dd' hs=>h _ ?_
  have he:∃q,h'.get? a=some q:=let⟨q,_,_,hq,_⟩:=dd';⟨q,hq⟩
  exact l_ I (by rw[e];exact True.intro) hs he (l8 hl hd (rel.put k rv) dd')
 ·subst ey eH
  cases(show u=Value.ref b from ry)
  obtain⟨z,hd,xs,rel,dd⟩:=AK I.hok e
  have hz:xs.length≤sizeLine:=by rw[←Paired.length rel];exact z
  have hl:(putK kvs k v).length≤sizeLine:=by have:=dY kvs k v;omega
  refine wpAny_setItem_heap (hsz:=hz) (tupleKind_room_in1 hu) (jn I.hok eb) dd fun h' dd' hs=>h _ ?_
  obtain⟨q,es,ep,hq,h2,h3,h4,_,h5⟩:=dd'
  refine l_ I (by rw[e];exact True.intro) hs ⟨q,hq⟩ ⟨hl,hd,_,(rel.put k eb rv).keeps fun c ys ec=>?_,q,es,ep,hq,h2,h3,h4,h5⟩
  rw[av (dR ec e (fun z=>nomatch z))]
  exact ec
end
section
end
theorem m9{X:Cx}{pins:List (Addr×Obj)}{σ:St}{s:Shared}{o:Option V}(I:Inv X pins σ H s)(g:ka H a y o):s.TypeIs (.ref a) "dict":=by
 rcases g with⟨kvs,k,e,_,_⟩|⟨kvs,k,b,e,_,_,_⟩
 ·obtain⟨_,_,vs,_,dd⟩:=kM I.hok e
  exact dd.typeIs
 ·obtain⟨_,_,xs,_,dd⟩:=m8 I.hok e
  exact dd.typeIs
noncomputable def zP(td ty tv:TE):TS:=fun D σ H=>tv σ H fun v H1=>td σ H1 fun x H2=>ty σ H2 fun y H3=>∃a H4,x=.ref a∧tZ H3 a y v H4∧D.nx σ H4
section
variable{X:Cx}{o i value:Expr}{pos pos':Pos}{td ty tv:TE}
theorem vo(hu:X.A.units+1<cLine)(ho:PE X o td)(hi:PE X i ty)(hv:PE X value tv)(hs:swapsWith value (some (.Subscript o i pos')) pos.line X.env=pure false):
  PS X (.Assign [.Subscript o i pos'] value pos) (zP td ty tv):=by
 intro pins s σ H D I h
 refine wpAny_Assign_Subscript (bz (hv pins s σ H _ I h) fun r s1 ⟨v,H1,I1,rv,q1⟩=>bz (ho pins s1 σ H1 _ I1 q1) fun u s2 ⟨x,H2,I2,rx,q2⟩=>bz (hi pins s2 σ H2 _ I2 q2) fun iv s3 ⟨y,H3,I3,ry,a,H4,ex,g,q3⟩=>?_) hs
 subst ex
 obtain rfl:u=Value.ref a:=rx
 exact qv hu I3 g ry rv fun s4 I4=>⟨σ,H4,I4,q3⟩
end
theorem tG(h:Heap)(hb:sysModules<h.objs.size):bI P w H (h.push {cls:= .type "dict",data:= .dict #[]}) h.objs.size (.dK []):=
 ⟨Nat.zero_le _,beq_eq_false_iff_ne.mpr (Ne.symm (ai hb)),[],.nil,Heap.DictOf.new h⟩
section
end
noncomputable def lA:List (TE×TE)→St→Hp→(List (V×V)→Hp→Prop)→Prop
 |[],_,H,Q=>Q [] H
 |(tk,tv)::r,σ,H,Q=>tk σ H fun x H1=>tv σ H1 fun y H2=>lA r σ H2 fun ps H3=>Q ((x,y)::ps) H3
noncomputable abbrev VV:List (V×V)→List (Value×Value)→Prop:=Paired fun p q=>RelV p.1 q.1∧RelV p.2 q.2
noncomputable def AV(X:Cx)(pos:Pos)(keys:List (Option Expr))(values:List Expr)(trs:List (TE×TE)):Prop:=
 ∀(pins:List (Addr×Obj))(s:Shared)(σ:St)(H:Hp)(Q:List (V×V)→Hp→Prop),Inv X pins σ H s→lA trs σ H Q→
  wpAny (model X.prog X.w) X.A (evalPairs (pairTrees keys values X.env pos)) (fun vs s'=>∃ps H',Inv X pins σ H' s'∧VV ps vs∧Q ps H') X.xe s
theorem vq{X:Cx}{pos:Pos}:AV X pos [] [] []:=fun pins s σ H Q I h=>pairTrees_nil_walk ⟨[],H,I,.nil,h⟩
theorem rZ{X:Cx}{pos:Pos}{k v:Expr}{ks:List (Option Expr)}{vs:List Expr}{tk tv:TE}{trs:List (TE×TE)}(hk:PE X k tk)(hv:PE X v tv)(hr:AV X pos ks vs trs):
  AV X pos (some k::ks) (v::vs) ((tk,tv)::trs):=fun pins s σ H Q I h=>
 pairTrees_cons_walk (bz (hk pins s σ H _ I h) fun u s1 ⟨x,H1,I1,rx,q1⟩=>bz (hv pins s1 σ H1 _ I1 q1) fun w2 s2 ⟨y,H2,I2,ry,q2⟩=>
  bz (hr pins s2 σ H2 _ I2 q2) fun ws s3 ⟨ps,H3,I3,rel,q3⟩=>⟨(x,y)::ps,H3,I3,.cons ⟨rx,ry⟩ rel,q3⟩)
noncomputable def fH(kvs more:List (Key×V)):List (Key×V):=more.foldl (fun acc kv=>putK acc kv.1 kv.2) kvs
theorem KV.merge:∀{more:List (Key×V)}{rs:List (Key×Value)}{kvs:List (Key×V)}{vs:List (Key×Value)},KV more rs→KV kvs vs→KV (fH kvs more) (merged vs rs):=by
 intro more rs kvs vs r
 unfold KV at r
 induction r generalizing kvs vs with
 |nil=>intro q;exact q
 | @cons p q ps qs h t ih=>
  intro r0
  have e:KV (putK kvs p.1 p.2) (stored vs q.1 q.2):=by
   have:=r0.put p.1 h.2
   rw[←h.1];exact this
  exact ih e
theorem gc:∀(more kvs:List (Key×V)),(fH kvs more).length≤kvs.length+more.length
 |[],kvs=>by show kvs.length≤kvs.length+0;omega
 |p::r,kvs=>by
  have h1:=gc r (putK kvs p.1 p.2)
  have h2:=dY kvs p.1 p.2
  show(fH (putK kvs p.1 p.2) r).length≤_
  rw[List.length_cons];omega
theorem jM{P:Program}{w:World}:∀{kvs:List (Key×V)}{ws:List (Value×Value)},VV (kvs.map fun kv=>(kV kv.1,kv.2)) ws→∃rs,Carries (bD P w) ws rs∧KV kvs rs
 |[],_,r=>by rw[List.map_nil] at r;cases r;exact⟨[],True.intro,.nil⟩
 |p::kvs,_,r=>by
  rw[List.map_cons] at r
  cases r with
  | @cons a b as bs h t=>
   obtain⟨rs,c,q⟩:=jM (P:=P) (w:=w) t
   obtain⟨b1,b2⟩:=b
   exact⟨(p.1,b2)::rs,⟨im h.1,rfl,c⟩,.cons ⟨rfl,h.2⟩ q⟩
noncomputable def zn(trs:List (TE×TE)):TE:=fun σ H Q=>∀p,H p=none→lA trs σ (bj H p (.dK [])) fun ps H2=>H2 p=some (.dK [])∧∃kvs:List (Key×V),ps=kvs.map (fun kv=>(kV kv.1,kv.2))∧kvs.length≤15∧Q (.ref p) (bj H2 p (.dK (fH [] kvs)))
theorem vA{X:Cx}{pos:Pos}{keys:List (Option Expr)}{values:List Expr}{trs:List (TE×TE)}(h:AV X pos keys values trs)(hall:keys.all (·.isSome)=true)(hl:keys.length=values.length)(h0:keys≠[])
  (h15:keys.length≤15):PE X (.Dict keys values pos) (zn trs):=by
 intro pins s σ H Q I q
 have hn:=I.hok.fresh (af s.heap.objs.size)
 have I1:=I.laid (a:=s.heap.objs.size) (o:= .dK []) (h':=s.heap.push {cls:= .type "dict",data:= .dict #[]}) (t':=s.toks) (fun _ _ q=>ac _ q) (af _) (tG s.heap I.big)
 refine wpAny_Dict_walk (knd:=bD X.prog X.w) hall hl h0 h15 (bz (h pins _ σ _ _ I1 (q _ hn)) fun ws s2 hp=>?_)
 obtain⟨ps,H2,I2,rel,e,kvs,ep,lk,q2⟩:=hp
 subst ep
 obtain⟨rs,c,rk⟩:=jM (P:=X.prog) (w:=X.w) rel
 obtain⟨z,hd,vs0,r0,dd⟩:=wK I2.hok e
 cases r0
 refine⟨rs,c,dd,fun h' dd' hs=>⟨.ref s.heap.objs.size,_,?_,rfl,q2⟩⟩
 have hz:(fH [] kvs).length≤sizeLine:=by
  have h1:=gc kvs []
  rw[List.length_nil] at h1
  rw[sizeLine_eq];omega
 have he:∃q,h'.get? s.heap.objs.size=some q:=let⟨q,_,_,hq,_⟩:=dd';⟨q,hq⟩
 exact l_ I2 (by rw[e];exact True.intro) hs he (l8 hz hd (rk.merge .nil) dd')
section
end
section
end
section
variable{X:Cx}{pins:List (Addr×Obj)}{σ:St}{H:Hp}{s:Shared}{a:Addr}{kvs:List (Key×V)}{A:Around}{E:Value→Shared→Prop}
theorem tI(I:Inv X pins σ H s)(e:Rd H a (.dK kvs))(h:∀p s',H p=none→Inv X pins σ (bj H p (.dK kvs)) s'→Q (.ref p) s'):wpAny (model X.prog X.w) A (call (.type "dict") [.ref a]) Q E s:=by
 obtain⟨z,hd,vs,rel,dd⟩:=kM I.hok e
 refine kt_call_dict hd dd (by rw[←rel.length];exact z) fun h' dd' hs=>?_
 refine h _ _ (I.hok.fresh (af _)) (I.laid (a:=s.heap.objs.size) (o:= .dK kvs) (t':=s.toks) (fun b q hq=>?_) (af _) (l8 z (beq_eq_false_iff_ne.mpr (Ne.symm (ai I.big))) rel dd'))
 exact(hs.2 b (ai (ah hq))).trans (ac _ hq)
end
section
end
end L2
namespace PySem.SeqAt
open AutoSeq1 (wpAny_loadPart')
open MeetsSeq
variable{b l:Addr}
noncomputable def tW(h:Heap)(d:Addr):Prop:=∃es ep,h.get? d=some {cls:= .type "dict",dict:=none,data:= .dict es ep,slots:= #[]}
theorem ft(l b:Addr)(es:Array DictEntry)(ep:Nat)(items:Array Value)(n:Nat)(dd:Option Addr)(sl:Array (Option Value)):
  Meets (Builtin.«dict.__eq__» ⟨[.ref l,.ref b],[]⟩) (fun _ R s=>s.heap.get? l=some {cls:= .type "dict",dict:=none,data:= .dict es ep,slots:= #[]}∧s.heap.get? b=some {cls:= .type "list",dict:=dd,data:= .seq items n,slots:=sl}∧R (.ok (.ret .notImplemented)) s):=
 .of_wp fun prog w A R s h=>by obtain⟨hp,g,d,tk,os⟩:=s;obtain⟨hl,hb,h⟩:=h;have f1:=F.sub_list_dict;wp_walk using wpAny_loadPart' hl,wpAny_loadPart' hb;exact⟨_,rfl,h⟩
theorem fo(b l:Addr)(es:Array DictEntry)(ep:Nat)(items:Array Value)(n:Nat)(dd:Option Addr)(sl:Array (Option Value)):
  Meets (Builtin.«list.__eq__» ⟨[.ref b,.ref l],[]⟩) (fun _ R s=>s.heap.get? b=some {cls:= .type "list",dict:=dd,data:= .seq items n,slots:=sl}∧s.heap.get? l=some {cls:= .type "dict",dict:=none,data:= .dict es ep,slots:= #[]}∧R (.ok (.ret .notImplemented)) s):=
 .of_wp fun prog w A R s h=>by obtain⟨hp,g,d,tk,os⟩:=s;obtain⟨hb,hl,h⟩:=h;have f1:=F.sub_dict_list;wp_walk using wpAny_loadPart' hl,wpAny_loadPart' hb;exact⟨_,rfl,h⟩
theorem fq(l b:Addr)(es:Array DictEntry)(ep:Nat)(items:Array Value)(n:Nat)(dd:Option Addr)(sl:Array (Option Value)):
  Meets (Builtin.«dict.__ne__» ⟨[.ref l,.ref b],[]⟩) (fun _ R s=>s.heap.get? l=some {cls:= .type "dict",dict:=none,data:= .dict es ep,slots:= #[]}∧s.heap.get? b=some {cls:= .type "list",dict:=dd,data:= .seq items n,slots:=sl}∧R (.ok (.ret .notImplemented)) s):=
 .of_wp fun prog w A R s h=>by obtain⟨hp,g,d,tk,os⟩:=s;obtain⟨hl,hb,h⟩:=h;have f1:=F.sub_list_dict;wp_walk using wpAny_loadPart' hl,wpAny_loadPart' hb;exact⟨_,rfl,h⟩
theorem fk(b l:Addr)(es:Array DictEntry)(ep:Nat)(items:Array Value)(n:Nat)(dd:Option Addr)(sl:Array (Option Value)):
  Meets (Builtin.«list.__ne__» ⟨[.ref b,.ref l],[]⟩) (fun _ R s=>s.heap.get? b=some {cls:= .type "list",dict:=dd,data:= .seq items n,slots:=sl}∧s.heap.get? l=some {cls:= .type "dict",dict:=none,data:= .dict es ep,slots:= #[]}∧R (.ok (.ret .notImplemented)) s):=
 .of_wp fun prog w A R s h=>by obtain⟨hp,g,d,tk,os⟩:=s;obtain⟨hb,hl,h⟩:=h;have f1:=F.sub_dict_list;wp_walk using wpAny_loadPart' hl,wpAny_loadPart' hb;exact⟨_,rfl,h⟩
section
variable{A:Around}{s:Shared}
theorem RcAt.dict_list{items:Array Value}(hl:tW s.heap l)(hb:s.heap.IsList b items)(hu:A.units<cLine):RcAt A s (.ref l) (.ref b) false:=fun prog w E Q h=>by
 obtain⟨es,ep,ho⟩:=hl
 obtain⟨⟨cls,dd,data,sl⟩,ho2,hc,n,hd⟩:=id hb
 simp only at hc hd
 subst hc hd
 have hne:l≠b:=fun e=>by subst e;rw[ho] at ho2;exact absurd ho2 (by simp)
 exact rc_eq_decline_or (k:=false) ⟨_,ho,rfl⟩ ⟨_,ho2,rfl⟩ (by decide) F.sub_list_dict F.slot_dict_eq F.slot_list_eq_refl
  (fun _ hq=>call_meets F.slot_dict_eq ⟨_,ho,rfl⟩ F.entry_dict_eq (F.args_dict_eq_2 _ _) (ft l b es ep items n dd sl) ⟨ho,ho2,hq⟩)
  (fun _ hq=>call_meets F.slot_list_eq_refl ⟨_,ho2,rfl⟩ F.entry_list_eq (F.args_list_eq_2 _ _) (fo b l es ep items n dd sl) ⟨ho2,ho,hq⟩)
  (fun _ hq=>wpAny_isSame_ref_other hne ho ho2 (by simp) hq) (.inr hu) h
theorem RcNeAt.dict_list{items:Array Value}(hl:tW s.heap l)(hb:s.heap.IsList b items)(hu:A.units<cLine):RcNeAt A s (.ref l) (.ref b) true:=fun prog w E Q h=>by
 obtain⟨es,ep,ho⟩:=hl
 obtain⟨⟨cls,dd,data,sl⟩,ho2,hc,n,hd⟩:=id hb
 simp only at hc hd
 subst hc hd
 have hne:l≠b:=fun e=>by subst e;rw[ho] at ho2;exact absurd ho2 (by simp)
 exact rc_ne_decline_or (k:=false) ⟨_,ho,rfl⟩ ⟨_,ho2,rfl⟩ (by decide) F.sub_list_dict F.slot_dict_ne F.slot_list_ne_refl
  (fun _ hq=>call_meets F.slot_dict_ne ⟨_,ho,rfl⟩ F.entry_dict_ne (F.args_dict_ne_2 _ _) (fq l b es ep items n dd sl) ⟨ho,ho2,hq⟩)
  (fun _ hq=>call_meets F.slot_list_ne_refl ⟨_,ho2,rfl⟩ F.entry_list_ne (F.args_list_ne_2 _ _) (fk b l es ep items n dd sl) ⟨ho2,ho,hq⟩)
  (fun _ hq=>wpAny_isSame_ref_other hne ho ho2 (by simp) hq) (.inr hu) h
end
end PySem.SeqAt
namespace L2
open PySem PySem.Spec PyProof.Rows
variable{scope:Scope}{x y:Str}{pos ppos px spos:Pos}{ifs:List Expr}{elt iter tg:Expr}{s s':Shared}{X:Cx}{H H':Hp}{σ σ':St}{pins:List (Addr×Obj)}{fp:List Addr}{h':Heap}{use:Option (Value→Sem Unit)}{te:TE}{tc:TT}{wi:TI}
noncomputable def ig(cells:List (Str×Addr)):List (Str×NameKind)→List (Str×Addr)→List (Str×Addr)
 |[],cs=>cs
 |(n,k)::r,cs=>if k== .free then ig cells r ((n,(cells.lookup n).getD 0)::cs) else ig cells r cs
theorem gP{env:Env}:∀(names:List (Str×NameKind))(cs:List (Str×Addr)),(∀x∈names,x.2=.free→∃c,env.cells.lookup x.1=some c)→
  (forIn names cs fun(x:Str×NameKind)(r:List (Str×Addr))=>(do
   if x.2==NameKind.free then
    let a ←cellOf env x.1
    pure (ForInStep.yield ((x.1,a)::r))
   else pure (ForInStep.yield r):Sem (ForInStep (List (Str×Addr)))))=(pure (ig env.cells names cs):Sem (List (Str×Addr)))
 |[],cs,_=>rfl
 |(n,k)::r,cs,h=>by
  have ih:=fun cs=>gP (env:=env) r cs fun x hx=>h x (List.mem_cons_of_mem _ hx)
  rw[List.forIn_cons]
  cases hk:(k==NameKind.free) with
  |true=>
   obtain⟨c,hc⟩:=h (n,k) List.mem_cons_self (by simpa using hk)
   have hc':env.cells.lookup n=some c:=hc
   simp only[ig,hk,if_true,cellOf,hc',Option.getD_some,pure_bind]
   exact ih _
  |false=>
   simp only[ig,hk,Bool.false_eq_true,if_false,pure_bind]
   exact ih _
theorem fg{env:Env}(h:∀x∈scope.names,x.2=.free→∃c,env.cells.lookup x.1=some c):closureFor scope env=pure (ig env.cells scope.names []):=by
 rw[←gP scope.names [] h]
 unfold closureFor
 simp only[bind_pure]
theorem ma{cells:List (Str×Addr)}{y:Str}{c:Addr}:∀{names:List (Str×NameKind)}{cs:List (Str×Addr)},(ig cells names cs).lookup y=some c→((y,NameKind.free)∈names∧c=(cells.lookup y).getD 0)∨cs.lookup y=some c
 |[],cs,h=>.inr h
 |(n,k)::r,cs,h=>by
  unfold ig at h
  cases hk:(k==NameKind.free) with
  |true=>
   have hk':k=.free:=by simpa using hk
   subst hk'
   rw[if_pos (by rfl)] at h
   rcases ma h with⟨a,b⟩|q
   ·exact .inl ⟨List.mem_cons_of_mem _ a,b⟩
   ·cases hy:y==n with
    |true=>
     rw[List.lookup_cons,hy] at q
     have:y=n:=by simpa using hy
     subst this
     exact .inl ⟨List.mem_cons_self,(ag q).symm⟩
    |false=>rw[List.lookup_cons,hy] at q;exact .inr q
  |false=>
   rw[hk] at h
   rcases ma (by simpa using h) with⟨a,b⟩|q
   ·exact .inl ⟨List.mem_cons_of_mem _ a,b⟩
   ·exact .inr q
theorem fQ{cells:List (Str×Addr)}{y:Str}:∀{names:List (Str×NameKind)}{cs:List (Str×Addr)},(∀c,cs.lookup y=some c→c=(cells.lookup y).getD 0)→((y,NameKind.free)∈names∨cs.lookup y=some ((cells.lookup y).getD 0))→
  (ig cells names cs).lookup y=some ((cells.lookup y).getD 0)
 |[],cs,_,h=>by
  rcases h with h|h
  ·simp at h
  ·exact h
 |(n,k)::r,cs,hc,h=>by
  unfold ig
  cases hk:(k==NameKind.free) with
  |true=>
   have hk':k=.free:=by simpa using hk
   subst hk'
   rw[if_pos (by rfl)]
   cases hy:y==n with
   |true=>
    have:y=n:=by simpa using hy
    subst this
    refine fQ (fun c e=>?_) (.inr ?_)
    ·rw[List.lookup_cons,hy] at e;exact(ag e).symm
    ·rw[List.lookup_cons,hy]
   |false=>
    refine fQ (fun c e=>?_) ?_
    ·rw[List.lookup_cons,hy] at e;exact hc c e
    ·rcases h with h|h
     ·rcases List.mem_cons.mp h with e|e
      ·injection e with e1 _
       rw[e1] at hy;simp at hy
      ·exact .inl e
     ·right;rw[List.lookup_cons,hy];exact h
  |false=>
   have h':(y,NameKind.free)∈r∨List.lookup y cs=some ((List.lookup y cells).getD 0):=by
    rcases h with h|h
    ·rcases List.mem_cons.mp h with e|e
     ·injection e with _ e2
      rw[←e2] at hk;simp at hk
     ·exact .inl e
    ·exact .inr h
   have q:=fQ (names:=r) (cs:=cs) hc h'
   simpa using q
theorem bR{env:Env}{names:List (Str×NameKind)}{k:NameKind}:(names.map fun(n,k)=>if(k==NameKind.free&&env.scope.kind== .function&&env.kindOf n==some .cell) then(n,NameKind.cell) else(n,k)).lookup x=some k→
  names.lookup x=some k∨(k=.cell∧names.lookup x=some .free):=by
 induction names with
 |nil=>intro h;simp at h
 |cons p r ih=>
  obtain⟨n,k'⟩:=p
  intro h
  have h:List.lookup x ((if(k'==NameKind.free&&env.scope.kind== .function&&env.kindOf n==some .cell)=true then(n,NameKind.cell) else(n,k'))::_)=some k:=h
  cases hx:x==n with
  |true=>
   by_cases hc:(k'==NameKind.free&&env.scope.kind== .function&&env.kindOf n==some .cell)=true
   ·rw[if_pos hc] at h
    simp only[List.lookup_cons,hx] at h
    cases h
    refine .inr ⟨rfl,?_⟩
    simp only[List.lookup_cons,hx]
    simp only[Bool.and_eq_true] at hc
    have:k'=.free:=by simpa using hc.1.1
    rw[this]
   ·rw[if_neg hc] at h
    simp only[List.lookup_cons,hx] at h ⊢
    exact .inl h
  |false=>
   have h':List.lookup x (r.map fun(n,k)=>if(k==NameKind.free&&env.scope.kind== .function&&env.kindOf n==some .cell) then(n,NameKind.cell) else(n,k))=some k:=by
    by_cases hc:(k'==NameKind.free&&env.scope.kind== .function&&env.kindOf n==some .cell)=true
    ·rw[if_pos hc] at h;simpa only[List.lookup_cons,hx] using h
    ·rw[if_neg hc] at h;simpa only[List.lookup_cons,hx] using h
   simp only[List.lookup_cons,hx]
   exact ih h'
theorem ir{prog:Program}{w:World}{A:Around}{R:Result→Shared→Prop}{target:Expr}{it acc:Value}{env:Env}(I:Nat→Shared→Prop)
  (turn:∀n s,I n s→wpAny (model prog w) A (pyNext it) (fun r s₁=>match r with
   |none=>R (.ok .next) s₁
   |some v=>wpAny (model prog w) A (letOwnedTupleGo target it v) (fun _ s₁'=>wpAny (model prog w) A (assign target env v) (fun _ s₂=>
     wpAny (model prog w) A (forIn ifs true fun c r=>if r=true then do let ok ←isTrue c env (eval c env);pure (ForInStep.yield ok) else pure (ForInStep.yield r)) (fun ok s₃=>
      if ok=true then wpAny (model prog w) A (eval elt env) (fun x s₄=>
       wpAny (model prog w) A (call (.builtin "list.append") [acc,x]) (fun _ s₅=>∃m,m<n∧I m s₅) (notedBy (model prog w) A env fun e s'=>R (.error e) s') s₄) (notedBy (model prog w) A env fun e s'=>R (.error e) s') s₃
      else ∃m,m<n∧I m s₃) (notedBy (model prog w) A env fun e s'=>R (.error e) s') s₂) (notedBy (model prog w) A env fun e s'=>R (.error e) s') s₁') (notedBy (model prog w) A env fun e s'=>R (.error e) s') s₁) (notedBy (model prog w) A env fun e s'=>R (.error e) s') s)
  (n:Nat)(h:I n s):
  codeAny (model prog w) A (.compLoop (.ListComp elt [⟨target,iter,ifs,0⟩] scope pos) 0 it acc env) R s:=by
 refine codeAny_loop rfl I (fun n s hI=>?_) n h
 show wpAny _ A ((compTurn (.ListComp elt [⟨target,iter,ifs,0⟩] scope pos) 0 it acc env).onRaise (fun x=>do noteFrame x env;theTreesLotGoes x)) _ _ s
 refine wpAny_noted ?_
 rw[compTurn_list]
 refine aa (wpAny_standAt (aa (aA (turn n s hI) (fun r s₁ h₁=>?_) fun _ _ h'=>h')))
 cases r with
 |none=>exact ae h₁
 |some v=>
  refine aa (aA h₁ (fun _ s₁' h₁'=>?_) fun _ _ h'=>h')
  refine aa (aA h₁' (fun _ s₂ h₂=>aa (aA h₂ (fun ok s₃ h₃=>?_) fun _ _ h'=>h')) fun _ _ h'=>h')
  cases ok with
  |false=>exact ae ⟨rfl,h₃⟩
  |true=>
   exact aa (aa (aA h₃ (fun x s₄ h₄=>aa (aA h₄ (fun _ s₅ h₅=>ae (ae ⟨rfl,h₅⟩)) fun _ _ h'=>h')) fun _ _ h'=>h'))
noncomputable def bv(X:Cx)(x:Str)(scope:Scope)(fp:List Addr)(s:Shared)(H:Hp):Cx where
 prog:=X.prog
 w:=X.w
 K:=X.K
 mg:=X.mg
 base:=X.base
 A:=X.A
 N:=x::X.N
 s₀:=s
 H₀:=H
 env:=compEnvC scope (ig X.env.cells scope.names []) s.heap.objs.size X.env
 outer:=X.stack
 stack:=X.stack
 ex:=fp
 calm:=X.calm
 fn:=fun _=>false
 pn:=X.pn
 xe:=fun _ _=>False
structure CompScope(X:Cx)(x:Str)(scope:Scope):Prop where
 kind:scope.kind=.function
 nocell:∀y∈scope.names,y.2≠ .cell
 locs:∀y∈scope.names,y.2=.local→scope.names.lookup y.1=some .local
 own:scope.names.lookup x=some .local
 frees:∀y∈scope.names,y.2=.free→X.env.kindOf y.1=some .cell∨X.env.kindOf y.1=some .free
 apart:∀y∈scope.names,y.2=.local→y.1∉X.N
theorem CompScope.cells(C:CompScope X x scope)(ok:X.Ok):∀y∈scope.names,y.2=.free→∃c,X.env.cells.lookup y.1=some c:=fun y hy hf=>ok.has y.1 (C.frees y hy hf)
theorem CompScope.cell_of{c:Addr}(C:CompScope X x scope)(ok:X.Ok)(h:(ig X.env.cells scope.names []).lookup y=some c):(y,NameKind.free)∈scope.names∧X.env.cells.lookup y=some c:=by
 rcases ma h with⟨a,b⟩|q
 ·obtain⟨c',e⟩:=C.cells ok _ a rfl
  have e':X.env.cells.lookup y=some c':=e
  rw[e',Option.getD_some] at b
  exact⟨a,by rw[b];exact e'⟩
 ·simp at q
theorem gN(I:Inv X pins σ H s)(C:CompScope X x scope)(hf:∀b∈fp,eA X pins H b)(ho:∀b∈fp,∃o,s.heap.get? b=some o):
  (bv X x scope fp s H).Ok where
 mod:=I.ok.mod
 kind:=C.kind
 glob:=I.ok.glob
 blt:=I.ok.blt
 above:=af _
 inj:=fun y z c h1 h2=>I.ok.inj y z c (C.cell_of I.ok h1).2 (C.cell_of I.ok h2).2
 has:=fun y hy=>by
  have hy:(relabel scope X.env).names.lookup y=some .cell∨(relabel scope X.env).names.lookup y=some .free:=hy
  have hfr:scope.names.lookup y=some .free:=by
   rcases hy with hy|hy
   ·rcases bR hy with q|⟨_,q⟩
    ·exact absurd rfl (C.nocell _ (aw q))
    ·exact q
   ·rcases bR hy with q|⟨z,_⟩
    ·exact q
    ·cases z
  exact⟨_,fQ (fun c e=>by simp at e) (.inl (aw hfr))⟩
 cab:=fun y c h _=>nomatch h
 hd:=I.ok.hd
 frames:=I.ok.frames
 stk:= .inl rfl
 exf:=fun b hb=>by
  obtain⟨o,e⟩:=ho b hb
  obtain⟨f0,f1,f2,f3,f4,f5⟩:=hf b hb
  exact⟨ai (ah e),fun y c h=>f4 y c (C.cell_of I.ok h).2⟩
 bs:=I.bs
 bsz:=aI I.ok.bsz I.sz
 noex:=fun b o e hb=>by
  obtain⟨f0,f1,f2,f3,f4,f5⟩:=hf b hb
  rcases f3 with z|z
  ·exact I.ok.noex b o e z
  ·exact absurd (ao (ah (I.ok.bs b o e).1) z) (bg _)
 exfs:=fun b hb hs=>by
  obtain⟨f0,f1,f2,f3,f4,f5⟩:=hf b hb
  rcases List.mem_cons.mp (I.stkSub b hs) with z|z
  ·exact f1 z
  ·exact f2 z
 funs:=I.stack
 frf:=I.stkFree
theorem nh{tk:Nat}{m:Str→Option Value}(I:Inv X pins σ H s)(C:CompScope X x scope)(hf:∀b∈fp,eA X pins H b)(ho:∀b∈fp,∃o,s.heap.get? b=some o)
  (hx:x∉X.N)(hn:h'.Ns s.heap.objs.size m)(k:∀b o,s.heap.get? b=some o→h'.get? b=some o):Inv (bv X x scope fp s H) pins (none::σ) H {s with heap:=h',toks:=tk}:=by
 refine⟨gN I C hf ho,rfl,I.bare,Un.kept k,⟨m,hn,fun i y v h1 h2 h3=>?_⟩,fun y c h=>?_,I.hok.fresh (af _),fun y c h=>I.freeC y c (C.cell_of I.ok h).2,fun p hp=>?_,I.hok.kept k,?_⟩
 ·cases i with
  |zero=>simp at h2
  |succ i=>
   have h1:X.N[i]? =some y:=by simpa[bv] using h1
   have h2:σ[i]? =some (some v):=by simpa using h2
   have h3:(relabel scope X.env).names.lookup y=some .local∨(relabel scope X.env).names.lookup y=some .cell∨(relabel scope X.env).names.lookup y=some .free:=h3
   have hfr:scope.names.lookup y=some .free:=by
    rcases h3 with q|q|q
    ·rcases bR q with q|⟨z,_⟩
     ·exact absurd (am h1) (C.apart _ (aw q) rfl)
     ·cases z
    ·rcases bR q with q|⟨_,q⟩
     ·exact absurd rfl (C.nocell _ (aw q))
     ·exact q
    ·rcases bR q with q|⟨z,_⟩
     ·exact q
     ·cases z
   have hmem:=aw hfr
   obtain⟨m0,hn0,hl0⟩:=I.loc
   have hvis:AR X.env.scope y:=by
    rcases C.frees _ hmem rfl with q|q
    ·exact .inr (.inl q)
    ·exact .inr (.inr q)
   obtain⟨u,r,l⟩:=hl0 i y v h1 h2 hvis
   refine⟨u,r,.inr ⟨?_,?_⟩⟩
   ·rcases h3 with q|q|q
    ·rcases bR q with q|⟨z,_⟩
     ·rw[hfr] at q;cases q
     ·cases z
    ·exact .inl q
    ·exact .inr q
   ·rcases l with⟨lk,_⟩|⟨_,c,hc,hcell⟩
    ·rcases C.frees _ hmem rfl with q|q
     ·rw[lk] at q;cases q
     ·rw[lk] at q;cases q
    ·refine⟨c,?_,?_⟩
     ·show(ig X.env.cells scope.names []).lookup y=some c
      have q:=fQ (cells:=X.env.cells) (y:=y) (names:=scope.names) (cs:=[]) (fun c e=>by simp at e) (.inl hmem)
      rw[hc,Option.getD_some] at q
      exact q
     ·obtain⟨o,e,d⟩:=hcell
      exact⟨o,k _ _ e,d⟩
 ·obtain⟨v,o,e,d⟩:=I.cell y c (C.cell_of I.ok h).2
  exact⟨v,o,k _ _ e,d⟩
 ·obtain⟨e,n,ne,nf,d⟩:=I.pin p hp
  refine⟨k _ _ e,n,ai (ah e),fun z=>?_,d⟩
  rcases List.mem_cons.mp (I.stkSub _ z) with q|q
  ·exact ne q
  ·exact nf q
 ·show(none::σ).length=(x::X.N).length
  rw[List.length_cons,List.length_cons,I.len]
noncomputable def uD:TT:=fun _ H Q=>Q true H
noncomputable def t_(X:Cx)(ifs:List Expr)(t:TT):Prop:=
 ∀(pins:List (Addr×Obj))(s:Shared)(σ:St)(H:Hp)(Q:Bool→Hp→Prop),Inv X pins σ H s→t σ H Q→
  wpAny (model X.prog X.w) X.A (forIn ifs true fun c r=>if r=true then do let ok ←isTrue c X.env (eval c X.env);pure (ForInStep.yield ok) else pure (ForInStep.yield r)) (TP X pins σ Q) X.xe s
theorem gB:t_ X [] uD:=fun _ _ _ H _ I h=>wpAny_tests_nil ⟨H,I,h⟩
noncomputable def oX(wi:TI)(tc:TT)(te:TE):TE:=fun σ H Q=>wi σ H fun J H1=>∀D,H1 D=none→∃W:Nat→Nat→List V→Hp→Prop,(∃m,W 0 m [] (bj H1 D (.lst [])))∧∀i m ys H2,W i m ys H2→
 (J.stop i H2∧Q (.ref D) H2)∨(J.go i H2∧∃N:List V→Hp→Prop,(∀ys' H',N ys' H'→∃m',m'<m∧W (i+1) m' ys' H')∧
  ∀x H',J.yld i H2 x H'→tc (some x::σ) H' fun b H3=>if b=true then te (some x::σ) H3 fun y H4=>H4 D=some (.lst ys)∧ys.length<sizeLine∧N (ys++[y]) (bj H4 D (.lst (ys++[y]))) else N ys H3)
theorem ng(I:Inv X pins σ H s)(hf:∀b∈fp,eA X pins H b)(J:Inv (bv X x scope fp s H) pins σ' H' s')
  (sb:Heap.SameBut s.heap.objs.size s'.heap h'):Inv X pins σ H' {s' with heap:=h'}:=by
 have hC:H' s.heap.objs.size=none:=J.free
 have ne:∀b o,s.heap.get? b=some o→b≠s.heap.objs.size:=fun b o e=>ai (ah e)
 have u:Un (eE X.stack) fp H H' s.heap h':=
  ⟨fun b o e n hb hx=>(sb.2 b (ne b o e)).trans (J.base.keep b o e n hb hx),fun b o e n hb hx=>by
    obtain⟨sl,q⟩:=J.base.slot b o e n hb hx
    exact⟨sl,(sb.2 b (ne b o e)).trans q⟩,J.base.free,fun b o e hx=>by
    obtain⟨o',q⟩:=J.base.there b o e hx
    exact⟨o',(sb.2 b (ne b o e)).trans q⟩,J.base.tups,J.base.frzs,J.base.tbls⟩
 have hok:fS X.prog X.w H' h':=fun b ob e=>by
  refine(J.hok b ob e).stay (fun c w' hc q=>(sb.2 c ?_).trans q) (fun _ q=>q) fun _ _ q=>q
  intro z
  rcases hc with y|y
  ·rw[z] at y;rw[←y,hC] at e;cases e
  ·rw[z,hC] at y;cases y
 exact I.call' (s':={s' with heap:=h'}) J.os u hok J.bare fun b hb=>⟨(hf b hb).2.2.2.1,(hf b hb).2.1,(hf b hb).2.2.2.2.1,(hf b hb).2.2.2.2.2⟩
theorem kP(hc:X.calm=true)(C:CompScope X x scope)(hx:x∉X.N)(hN:X.N.Nodup)
  (hi:PI X (.Name x px) iter wi)(ht:∀fp s H,t_ (bv X x scope fp s H) ifs tc)(he:∀fp s H,PE (bv X x scope fp s H) elt te)
  (hs:∀x,foldedSetIterable iter X.env x=pure x){Q:VK}(I:Inv X pins σ H s)(h:oX wi tc te σ H Q){QQ:Value→Shared→Prop}
  (fin:∀{fp:List Addr}{s3 s5:Shared}{H3 H4:Hp}{D:Addr}{o:Option V},Inv X pins σ H3 s3→(∀b∈fp,eA X pins H3 b)→Inv (bv X x scope fp s3 H3) pins (o::σ) H4 s5→Q (.ref D) H4→compPost (model X.prog X.w) X.A X.xe use QQ (.ref D) s3.heap.objs.size (.ok .next) s5):
  wpAny (model X.prog X.w) X.A (comprehension (.ListComp elt [⟨.Name x px,iter,ifs,0⟩] scope pos) scope X.env ppos (newList []) false (eval iter X.env) use) QQ X.xe s:=by
 refine wpAny_comprehension_free rfl hs (fg (C.cells I.ok)) C.kind C.locs (bz (hi pins s σ H _ I h) fun v s1 h1=>bz h1 fun itv s2 h2=>?_)
 obtain⟨it,fp,tn,J,H2,e,I2,T,st2,f2,R⟩:=h2
 subst e
 have hD:H2 s2.heap.objs.size=none:=I2.hok.fresh (af _)
 obtain⟨W,⟨m0,w0⟩,turn⟩:=R _ hD
 refine wpAny_newObj_type (wpAny_newFunctionEnv C.nocell (by intro y hy;simp at hy) (fun h₁ hns₁ hsb₁=>?_) C.kind)
 dsimp only at hns₁ hsb₁ ⊢
 have I3:Inv X pins σ (bj H2 s2.heap.objs.size (.lst [])) {s2 with heap:=s2.heap.push {cls:= .type "list",dict:=none,data:= .seq ([]:List Value).toArray}}:=
  I2.laid (t':=s2.toks) (o:= .lst []) (fun b ob q=>ac _ q) (af _) ⟨Nat.zero_le _,[],0,.nil,ak _ rfl⟩
 have f3:∀b∈fp,eA X pins (bj H2 s2.heap.objs.size (.lst [])) b:=fun b hb=>by
  obtain⟨o,e,_⟩:=T.obj _ _ st2 b hb
  obtain⟨g0,g⟩:=f2 b hb
  exact⟨by rw[av (ai (ah e))];exact g0,g⟩
 have o3:∀b∈fp,∃o,(s2.heap.push {cls:= .type "list",dict:=none,data:= .seq ([]:List Value).toArray}).get? b=some o:=fun b hb=>by
  obtain⟨o,e,_⟩:=T.obj _ _ st2 b hb
  exact⟨o,ac _ e⟩
 have old:∀b o,(s2.heap.push {cls:= .type "list",dict:=none,data:= .seq ([]:List Value).toArray}).get? b=some o→h₁.get? b=some o:=fun b o e=>
  hsb₁.extBut b o (ai (ah e)) (ac _ e)
 have K0:=nh (x:=x) (scope:=scope) (fp:=fp) (h':=h₁) (tk:=s2.toks) I3 C f3 o3 hx hns₁ old
 have st3:tn 0 h₁:=T.keep _ _ _ st2 fun b _ o e=>old b o (ac _ e)
 generalize hs3:({s2 with heap:=s2.heap.push {cls:= .type "list",dict:=none,data:= .seq ([]:List Value).toArray}}:Shared)=s3 at I3 K0
 have es3:s2.heap.push {cls:= .type "list",dict:=none,data:= .seq ([]:List Value).toArray}=s3.heap:=by rw[←hs3]
 generalize hH3:bj H2 s2.heap.objs.size (.lst [])=H3 at I3 K0 f3 w0
 have stat:∀{H':Hp},(∀b∈fp,H' b=none)→∀b∈fp,eA (bv X x scope fp s3 H3) pins H' b:=fun{H'} hn b hb=>by
  obtain⟨o,e⟩:=o3 b hb
  rw[es3] at e
  obtain⟨g0,g1,g2,g3,g4,g5⟩:=f3 b hb
  refine⟨hn b hb,ai (ah e),fun z=>?_,.inl hb,fun y c h=>g4 y c (C.cell_of I.ok h).2,g5⟩
  rcases List.mem_cons.mp (I3.stkSub _ z) with q|q
  ·exact g1 q
  ·exact g2 q
 have nd':(x::X.N).Nodup:=List.nodup_cons.mpr ⟨hx,hN⟩
 have lx:(relabel scope X.env).names.lookup x=some .local:=lookup_relabel_local C.own
 have loop:codeAny (model X.prog X.w) X.A (.compLoop (.ListComp elt [⟨.Name x px,iter,ifs,0⟩] scope pos) 0 (.ref it) (.ref s2.heap.objs.size) (bv X x scope fp s3 H3).env)
   (compPost (model X.prog X.w) X.A X.xe use QQ (Value.ref s2.heap.objs.size) s3.heap.objs.size) {s3 with heap:=h₁,toks:=s2.toks}:=by
  refine ir (fun n s'=>∃i o ys H',Inv (bv X x scope fp s3 H3) pins (o::σ) H' s'∧tn i s'.heap∧(∀b∈fp,H' b=none)∧W i n ys H') ?_ m0 ⟨0,none,[],H3,K0,st3,fun b hb=>(f3 b hb).1,w0⟩
  rintro n s4 ⟨i,o,ys,H4,I4,st4,fr4,w4⟩
  rcases turn i n ys H4 w4 with⟨stop,qn⟩|⟨go,N,hNN,step⟩
  ·refine bz (T.done (bv X x scope fp s3 H3) rfl rfl rfl hc i pins s4 (o::σ) H4 _ I4 (stat fr4) st4 stop) fun r s5 ⟨hr,I5⟩=>?_
   subst hr
   exact fin I3 f3 I5 qn
  ·refine bz (T.item (bv X x scope fp s3 H3) rfl rfl rfl hc i pins s4 (o::σ) H4 _ I4 (stat fr4) st4 go) fun r s5 hp=>?_
   obtain⟨u,hr,h5⟩:=hp
   subst hr
   refine bz h5 fun _ s6 hp=>?_
   obtain⟨y,H6,I6,r6,y6,st6,fr6⟩:=hp
   have I6':=I6.pinned (stat fr6) (T.obj _ _ st6)
   refine wpAny_assign_Name (fD (i:=0) I6' nd' rfl (.inl lx) r6 (fun s7 I7=>?_) (.inr lx))
   have keepS:∀{o':Option V}{H':Hp}{s':Shared},Inv (bv X x scope fp s3 H3) (pins++hG fp s6.heap) (o'::σ) H' s'→tn (i+1) s'.heap∧∀b∈fp,H' b=none:=fun{o' H' s'} I'=>by
    refine⟨T.keep _ _ _ st6 fun b hb o e=>(I'.pin (b,o) (aD _ (aD _ (da hb e)))).1,fun b hb=>?_⟩
    obtain⟨o,e,d⟩:=T.obj _ _ st6 b hb
    exact(I'.pin (b,o) (aD _ (aD _ (da hb e)))).2.1
   refine aA (ht fp s3 H3 _ s7 (some y::σ) H6 _ I7 (step y H6 y6)) (fun b s8 ⟨H8,I8,q8⟩=>?_) fun _ _ z=>False.elim z
   cases b with
   |false=>
    rw[if_neg aq] at q8 ⊢
    obtain⟨m',hm,w8⟩:=hNN ys H8 q8
    obtain⟨a1,a2⟩:=keepS I8
    exact⟨m',hm,i+1,some y,ys,H8,I8.unpinned,a1,a2,w8⟩
   |true=>
    rw[if_pos rfl] at q8 ⊢
    refine aA (he fp s3 H3 _ s8 (some y::σ) H8 _ I8 q8) (fun v9 s9 ⟨y9,H9,I9,r9,hacc,hsz,q9⟩=>?_) fun _ _ z=>False.elim z
    refine aA (hV (X:=bv X x scope fp s3 H3) _ s9 (some y::σ) H9 (.ref s2.heap.objs.size) [y9] _ [v9] (fun _ H'=>N (ys++[y9]) H') I9 rfl (.cons r9 .nil) ⟨_,_,_,rfl,rfl,hacc,hsz,q9⟩) (fun _ s10 ⟨_,H10,I10,_,q10⟩=>?_) fun _ _ z=>False.elim z
    obtain⟨m',hm,w10⟩:=hNN _ H10 q10
    obtain⟨a1,a2⟩:=keepS I10
    exact⟨m',hm,i+1,some y,_,H10,I10.unpinned,a1,a2,w10⟩
 have eC:(s2.heap.push {cls:= .type "list",dict:=none,data:= .seq ([]:List Value).toArray}).objs.size=s3.heap.objs.size:=by rw[es3]
 rw[eC]
 have es4:({heap:=h₁,gens:=s2.gens,drawn:=s2.drawn,toks:=s2.toks+([]:List (Str×Value)).length,os:=s2.os}:Shared)={s3 with heap:=h₁,toks:=s2.toks}:=by rw[←hs3];rfl
 rw[es4]
 exact codeAny_compStart_list loop (T.self _ 0 _ _ _ st3 loop)
theorem ph(hc:X.calm=true)(C:CompScope X x scope)(hx:x∉X.N)(hN:X.N.Nodup)
  (hi:PI X (.Name x px) iter wi)(ht:∀fp s H,t_ (bv X x scope fp s H) ifs tc)(he:∀fp s H,PE (bv X x scope fp s H) elt te)
  (hs:∀x,foldedSetIterable iter X.env x=pure x:=by intro _;rfl):PE X (.ListComp elt [⟨.Name x px,iter,ifs,0⟩] scope pos) (oX wi tc te):=by
 intro pins s σ H Q I h
 rw[eval_ListComp]
 refine kP (use:=none) hc C hx hN hi ht he hs I h fun I3 f3 I5 qn=>?_
 obtain⟨m5,hn5,_⟩:=id I5.loc
 exact⟨m5,hn5,fun h' sb=>⟨.ref _,_,ng I3 f3 I5 sb,rfl,qn⟩⟩
theorem nV{py:Pos}{i:Nat}(hc:X.calm=true)(C:CompScope X x scope)(hx:x∉X.N)(hN:X.N.Nodup)
  (hi:PI X (.Name x px) iter wi)(ht:∀fp s H,t_ (bv X x scope fp s H) ifs tc)(he:∀fp s H,PE (bv X x scope fp s H) elt te)
  (hs:∀x,foldedSetIterable iter X.env x=pure x)(hy:X.N[i]? =some y)(hl:Loc X.env.scope y)(hf:X.fn y=true∨X.env.scope.names.lookup y=some .local):
  PS X (.Assign [.Name y py] (.ListComp elt [⟨.Name x px,iter,ifs,0⟩] scope pos) spos) (nM (oX wi tc te) (dm i)):=by
 have hb:∃b,swapsWith (.ListComp elt [⟨.Name x px,iter,ifs,0⟩] scope pos) (some (.Name y py)) spos.line X.env=pure b:=⟨_,rfl⟩
 obtain⟨b,hb⟩:=hb
 cases b with
 |false=>exact lH hN hy hl (ph hc C hx hN hi ht he hs) hb hf
 |true=>
  intro pins s σ H D I h
  rw[exec_Assign_Name_used _ _ _ _ hb]
  refine aa (wpAny_standAt (aa ?_))
  show wpAny _ X.A (do let _ ←comprehension (.ListComp elt [⟨.Name x px,iter,ifs,0⟩] scope pos) scope X.env _ (newList []) false (eval iter X.env) (some (assign (.Name y py) X.env))) _ _ s
  refine aa (aA (kP (use:=some (assign (.Name y py) X.env)) (QQ:=fun _ s'=>SP X pins D .next s') hc C hx hN hi ht he hs I h fun{fp s3 s5 H3 H4 Dd o} I3 f3 I5 qn=>?_) (fun _ s' hq=>ae (ae hq)) fun _ _ e=>e)
  have I6:Inv X pins σ H4 s5:=by
   have:=ng I3 f3 I5 (Heap.SameBut.refl _ _)
   exact this
  obtain⟨m5,hn5,_⟩:=id I5.loc
  have hC0:H4 s3.heap.objs.size=none:=I5.free
  have hCL:X.env.locals≠s3.heap.objs.size:=ai I3.lt
  show wpAny _ X.A (assign (.Name y py) X.env (.ref Dd)) _ _ _
  refine wpAny_assign_Name (gZ (v:= .ref Dd) I6 hN hy hl rfl (fun s7 I7 hch=>?_) hf)
  obtain⟨a,sb,ha⟩:=hch
  have hCa:s3.heap.objs.size≠a:=by
   rcases ha with rfl|ha
   ·exact hCL.symm
   ·obtain⟨v,q⟩:=I3.cell y a ha
    exact(ai q.lt).symm
  refine⟨m5,hn5.sameBut sb hCa,fun h' sb'=>⟨_,H4,?_,qn⟩⟩
  refine I7.turned (t':=s7.toks) (it:=s3.heap.objs.size) (fun b o hb e=>(sb'.2 b hb).trans e) hC0 hCL.symm (.inr I3.sz) (fun z c e=>?_) fun p hp=>?_
  ·obtain⟨v,q⟩:=I3.cell z c e
   exact ai q.lt
  ·exact ai (ah (I3.pin p hp).1)
theorem Inv.turnLaid{t':Nat}{p:Addr}{xs:List V}(I:Inv X pins σ H s)(hf:∀b∈fp,eA X pins H b)
  (k:∀b o,b∉fp→s.heap.get? b=some o→h'.get? b=some o)(hp:s.heap.objs.size≤p)(new:bI X.prog X.w (bj H p (.tup xs)) h' p (.tup xs)):Inv X pins σ (bj H p (.tup xs)) {s with heap:=h',toks:=t'}:=by
 have hn:H p=none:=I.hok.fresh hp
 have nit:∀b u,H b=some u→b∉fp:=fun b u e z=>by rw[(hf b z).1] at e;cases e
 have nep:∀{b:Addr}{o:Obj},s.heap.get? b=some o→b≠p:=fun e=>ai (ao (ah e) hp)
 refine I.step (g':=s.gens) (d':=s.drawn) (ch:=fp) (fun b hb=>?_) (fun b o _ _ hc e _=>k b o hc e) (fun b o _ _ hc e _=>⟨o.slots,k b o hc e⟩) (fun b o _ e n=>by rw[av (nep e)];exact n)
  (fun b o hc e=>⟨o,k b o hc e⟩) (fun b ys e=>by rw[av (au e hn)];exact e) (fun b o u e=>by rw[av (au e hn)];exact e) (fun b ps e=>⟨#[],by rw[av (au e hn),e];simp⟩) (fun m hm=>?_) (fun b u e=>?_) I.bare
 ·obtain⟨f0,f1,f2,f3,f4,f5⟩:=hf b hb
  exact⟨f3,f1,f4,f5⟩
 ·obtain⟨o,es,ep,ho,r⟩:=hm
  exact⟨o,es,ep,k _ o (fun z=>(hf _ z).2.1 rfl) ho,r⟩
 ·by_cases hb:b=p
  ·subst hb;rw[ba] at e;cases e;exact new
  ·rw[av hb] at e
   refine(I.hok b u e).stay (fun c v hc q=>k c v ?_ q) (fun c q=>by rw[av (au q hn)];exact q) fun c ys q=>by rw[av (au q hn)];exact q
   rcases hc with z|z
   ·rw[z];exact nit b u e
   ·exact nit c _ z
noncomputable def B9(K:al)(a:Addr):It:=
 ⟨fun i H=>∃xs x,du K H a xs∧xs[i]? =some x,
  fun i H v H'=>∃p x,v=.ref p∧H p=none∧H'=bj H p (.tup [.int (i:Int),x])∧∀xs,du K H a xs→xs[i]? =some x,
  fun i H=>∃xs,du K H a xs∧xs.length≤i⟩
noncomputable def BU(e it a:Addr)(i:Nat)(h:Heap):Prop:=(∃old,IsEnum h e it (i:Int) old)∧h.IsListIter it a i
theorem pU{P:Program}{w:World}{K:al}{elts:List Expr}{k:Nat}(a e it:Addr)(hne:e≠it):Turn P w K (.Tuple elts k pos) (B9 K a) [e,it] e (BU e it a) where
 mem:=by simp
 obj:=fun i h st b hb=>by
  obtain⟨⟨old,he⟩,o,ho,c,d⟩:=st
  rcases List.mem_cons.mp hb with rfl|hb
  ·exact⟨_,he,fun v z=>by
    have z':Data.fields _=Data.cell v:=z
    cases z'⟩
  ·have:b=it:=by simpa using hb
   subst this
   exact⟨o,ho,fun v z=>by rw[d] at z;cases z⟩
 keep:=fun i h h' ⟨⟨old,he⟩,st⟩ kk=>⟨⟨old,kk e (by simp) _ he⟩,st.at fun o q=>kk it (by simp) o q⟩
 item:=by
  intro X hP hw hK hc i pins s σ H E I hf st hg
  subst hP hw hK
  obtain⟨⟨old,he⟩,hit⟩:=st
  obtain⟨xs,x,hq,hx⟩:=hg
  obtain⟨its,rv,p,hz⟩:=I.list hq
  obtain⟨u,hu,ru⟩:=rv.get hx
  refine wpAny_pyNext_enum_item he hit p.isList (x:=u) (by simpa using hu) hne fun h1 heo hit1 ht1 hz1 hk1=>?_
  refine⟨_,rfl,wpAny_letOwnedTupleGo_enum heo fun h2 he2 hs2=>?_⟩
  replace hs2:Heap.SameBut e h1 h2:=hs2
  have lt:=ah he
  have ht2:h2.get? s.heap.objs.size=some {cls:= .type "tuple",data:= .seq #[.int i s.toks,u]}:=(hs2.2 _ (bi lt)).trans ht1
  have hn:H s.heap.objs.size=none:=I.hok.fresh (af _)
  have I2:Inv X pins σ (bj H s.heap.objs.size (.tup [.int (i:Int),x])) {s with heap:=h2,toks:=s.toks+1}:=by
   refine I.turnLaid (fp:=[e,it]) hf (fun b o hb q=>?_) (af _) ⟨(by show 2≤sizeLine;decide),[.int i s.toks,u],.cons ⟨_,rfl⟩ (.cons ru .nil),?_⟩
   ·have hbe:b≠e:=fun z=>hb (by simp[z])
    have hbi:b≠it:=fun z=>hb (by simp[z])
    exact(hs2.2 b hbe).trans (hk1 b o hbe hbi q)
   ·exact⟨_,ht2,rfl,_,rfl⟩
  refine⟨.ref s.heap.objs.size,_,I2,rfl,⟨_,x,rfl,hn,rfl,fun ys hy=>by rw[I.list_inj hy hq];exact hx⟩,⟨⟨u,?_⟩,?_⟩,fun b hb=>?_⟩
  ·have:((i+1:Nat):Int)=(i:Int)+1:=by omega
   rw[this]
   exact he2
  ·exact hit1.at fun o q=>(hs2.2 it (Ne.symm hne)).trans q
  ·obtain⟨f0,_⟩:=hf b hb
   have:b≠s.heap.objs.size:=by
    rcases List.mem_cons.mp hb with rfl|hb
    ·exact ai lt
    ·have:b=it:=by simpa using hb
     subst this
     obtain⟨o,ho,_⟩:=hit
     exact ai (ah ho)
   rw[av this];exact f0
 done:=by
  intro X hP hw hK hc i pins s σ H E I hf st hg
  subst hP hw hK
  obtain⟨⟨old,he⟩,hit⟩:=st
  obtain⟨xs,hq,hx⟩:=hg
  obtain⟨its,rv,p,hz⟩:=I.list hq
  obtain⟨f0,f1,f2,f3,f4,f5⟩:=hf it (by simp)
  have hl:=rv.length
  exact wpAny_pyNext_enum_end (I.ok.hd hc) he hit p.isList (by simp;omega) fun h' eb=>⟨rfl,I.turned (t':=s.toks) (fun b o hb e=>eb b o hb e) f0 f1 f3 f4 f5⟩
 self:=fun _ _ _ _ _ st h=>wpAny_pyIter_enum st.1.choose_spec h
noncomputable def be(X:Cx)(x y:Str)(scope:Scope)(fp:List Addr)(s:Shared)(H:Hp):Cx:={bv X x scope fp s H with N:=x::y::X.N}
theorem tK(I:Inv X pins σ H s)(C:CompScope X x scope)(hf:∀b∈fp,eA X pins H b)(ho:∀b∈fp,∃o,s.heap.get? b=some o):
  (be X x y scope fp s H).Ok:=by
 have h:=gN I C hf ho
 exact⟨h.mod,h.kind,h.glob,h.blt,h.above,h.inj,h.has,h.cab,h.hd,h.frames,h.stk,h.exf,h.bs,h.bsz,h.noex,h.exfs,h.funs,h.frf⟩
theorem qy{tk:Nat}{m:Str→Option Value}(I:Inv X pins σ H s)(C:CompScope X x scope)(hf:∀b∈fp,eA X pins H b)(ho:∀b∈fp,∃o,s.heap.get? b=some o)
  (hx:x∉X.N)(hn:h'.Ns s.heap.objs.size m)(k:∀b o,s.heap.get? b=some o→h'.get? b=some o):Inv (be X x y scope fp s H) pins (none::none::σ) H {s with heap:=h',toks:=tk}:=by
 have J:=nh (x:=x) (scope:=scope) (fp:=fp) (h':=h') (tk:=tk) I C hf ho hx hn k
 refine⟨tK I C hf ho,J.os,J.bare,J.base,?_,J.cell,J.free,J.freeC,J.pin,J.hok,?_⟩
 ·obtain⟨m',hn',hl⟩:=J.loc
  refine⟨m',hn',fun i z v h1 h2 h3=>?_⟩
  cases i with
  |zero=>simp at h2
  |succ i=>
   cases i with
   |zero=>simp at h2
   |succ i=>exact hl (i+1) z v (by simpa[bv,be] using h1) (by simpa using h2) h3
 ·show(none::none::σ).length=(x::y::X.N).length
  rw[List.length_cons,List.length_cons,List.length_cons,List.length_cons,I.len]
theorem kO(I:Inv X pins σ H s)(hf:∀b∈fp,eA X pins H b)(J:Inv (be X x y scope fp s H) pins σ' H' s')
  (sb:Heap.SameBut s.heap.objs.size s'.heap h'):Inv X pins σ H' {s' with heap:=h'}:=by
 have hC:H' s.heap.objs.size=none:=J.free
 have ne:∀b o,s.heap.get? b=some o→b≠s.heap.objs.size:=fun b o e=>ai (ah e)
 have u:Un (eE X.stack) fp H H' s.heap h':=
  ⟨fun b o e n hb hx=>(sb.2 b (ne b o e)).trans (J.base.keep b o e n hb hx),fun b o e n hb hx=>by
    obtain⟨sl,q⟩:=J.base.slot b o e n hb hx
    exact⟨sl,(sb.2 b (ne b o e)).trans q⟩,J.base.free,fun b o e hx=>by
    obtain⟨o',q⟩:=J.base.there b o e hx
    exact⟨o',(sb.2 b (ne b o e)).trans q⟩,J.base.tups,J.base.frzs,J.base.tbls⟩
 have hok:fS X.prog X.w H' h':=fun b ob e=>by
  refine(J.hok b ob e).stay (fun c w' hc q=>(sb.2 c ?_).trans q) (fun _ q=>q) fun _ _ q=>q
  intro z
  rcases hc with y|y
  ·rw[z] at y;rw[←y,hC] at e;cases e
  ·rw[z,hC] at y;cases y
 exact I.call' (s':={s' with heap:=h'}) J.os u hok J.bare fun b hb=>⟨(hf b hb).2.2.2.1,(hf b hb).2.1,(hf b hb).2.2.2.2.1,(hf b hb).2.2.2.2.2⟩
noncomputable def iI(wi:TI)(g:TG)(tc:TT)(te:TE):TE:=fun σ H Q=>wi σ H fun J H1=>∀D,H1 D=none→∃W:Nat→Nat→List V→Hp→Prop,(∃m,W 0 m [] (bj H1 D (.lst [])))∧∀i m ys H2,W i m ys H2→
 (J.stop i H2∧Q (.ref D) H2)∨(J.go i H2∧∃N:List V→Hp→Prop,(∀ys' H',N ys' H'→∃m',m'<m∧W (i+1) m' ys' H')∧
  ∀x H',J.yld i H2 x H'→∀o1 o2,g x (o1::o2::σ) H' fun σ2 H3=>(∃p1 p2,σ2=p1::p2::σ)∧tc σ2 H3 fun b H5=>if b=true then te σ2 H5 fun y H4=>H4 D=some (.lst ys)∧ys.length<sizeLine∧N (ys++[y]) (bj H4 D (.lst (ys++[y]))) else N ys H5)
theorem jL{g:TG}(hc:X.calm=true)(C:CompScope X x scope)(hx:x∉X.N)
  (hi:PI X tg iter wi)(hg:∀fp s H,PG (be X x y scope fp s H) tg g)(ht:∀fp s H,t_ (be X x y scope fp s H) ifs tc)(he:∀fp s H,PE (be X x y scope fp s H) elt te)
  (hs:∀x,foldedSetIterable iter X.env x=pure x){Q:VK}(I:Inv X pins σ H s)(h:iI wi g tc te σ H Q){QQ:Value→Shared→Prop}
  (fin:∀{fp:List Addr}{s3 s5:Shared}{H3 H4:Hp}{D:Addr}{o1 o2:Option V},Inv X pins σ H3 s3→(∀b∈fp,eA X pins H3 b)→Inv (be X x y scope fp s3 H3) pins (o1::o2::σ) H4 s5→Q (.ref D) H4→compPost (model X.prog X.w) X.A X.xe use QQ (.ref D) s3.heap.objs.size (.ok .next) s5):
  wpAny (model X.prog X.w) X.A (comprehension (.ListComp elt [⟨tg,iter,ifs,0⟩] scope pos) scope X.env ppos (newList []) false (eval iter X.env) use) QQ X.xe s:=by
 refine wpAny_comprehension_free rfl hs (fg (C.cells I.ok)) C.kind C.locs (bz (hi pins s σ H _ I h) fun v s1 h1=>bz h1 fun itv s2 h2=>?_)
 obtain⟨it,fp,tn,J,H2,e,I2,T,st2,f2,R⟩:=h2
 subst e
 have hD:H2 s2.heap.objs.size=none:=I2.hok.fresh (af _)
 obtain⟨W,⟨m0,w0⟩,turn⟩:=R _ hD
 refine wpAny_newObj_type (wpAny_newFunctionEnv C.nocell (by intro y hy;simp at hy) (fun h₁ hns₁ hsb₁=>?_) C.kind)
 dsimp only at hns₁ hsb₁ ⊢
 have I3:Inv X pins σ (bj H2 s2.heap.objs.size (.lst [])) {s2 with heap:=s2.heap.push {cls:= .type "list",dict:=none,data:= .seq ([]:List Value).toArray}}:=
  I2.laid (t':=s2.toks) (o:= .lst []) (fun b ob q=>ac _ q) (af _) ⟨Nat.zero_le _,[],0,.nil,ak _ rfl⟩
 have f3:∀b∈fp,eA X pins (bj H2 s2.heap.objs.size (.lst [])) b:=fun b hb=>by
  obtain⟨o,e,_⟩:=T.obj _ _ st2 b hb
  obtain⟨g0,g⟩:=f2 b hb
  exact⟨by rw[av (ai (ah e))];exact g0,g⟩
 have o3:∀b∈fp,∃o,(s2.heap.push {cls:= .type "list",dict:=none,data:= .seq ([]:List Value).toArray}).get? b=some o:=fun b hb=>by
  obtain⟨o,e,_⟩:=T.obj _ _ st2 b hb
  exact⟨o,ac _ e⟩
 have old:∀b o,(s2.heap.push {cls:= .type "list",dict:=none,data:= .seq ([]:List Value).toArray}).get? b=some o→h₁.get? b=some o:=fun b o e=>
  hsb₁.extBut b o (ai (ah e)) (ac _ e)
 have K0:=qy (x:=x) (y:=y) (scope:=scope) (fp:=fp) (h':=h₁) (tk:=s2.toks) I3 C f3 o3 hx hns₁ old
 have st3:tn 0 h₁:=T.keep _ _ _ st2 fun b _ o e=>old b o (ac _ e)
 generalize hs3:({s2 with heap:=s2.heap.push {cls:= .type "list",dict:=none,data:= .seq ([]:List Value).toArray}}:Shared)=s3 at I3 K0
 have es3:s2.heap.push {cls:= .type "list",dict:=none,data:= .seq ([]:List Value).toArray}=s3.heap:=by rw[←hs3]
 generalize hH3:bj H2 s2.heap.objs.size (.lst [])=H3 at I3 K0 f3 w0
 have stat:∀{H':Hp},(∀b∈fp,H' b=none)→∀b∈fp,eA (be X x y scope fp s3 H3) pins H' b:=fun{H'} hn b hb=>by
  obtain⟨o,e⟩:=o3 b hb
  rw[es3] at e
  obtain⟨g0,g1,g2,g3,g4,g5⟩:=f3 b hb
  refine⟨hn b hb,ai (ah e),fun z=>?_,.inl hb,fun y c h=>g4 y c (C.cell_of I.ok h).2,g5⟩
  rcases List.mem_cons.mp (I3.stkSub _ z) with q|q
  ·exact g1 q
  ·exact g2 q
 have loop:codeAny (model X.prog X.w) X.A (.compLoop (.ListComp elt [⟨tg,iter,ifs,0⟩] scope pos) 0 (.ref it) (.ref s2.heap.objs.size) (be X x y scope fp s3 H3).env)
   (compPost (model X.prog X.w) X.A X.xe use QQ (Value.ref s2.heap.objs.size) s3.heap.objs.size) {s3 with heap:=h₁,toks:=s2.toks}:=by
  refine ir (fun n s'=>∃i o1 o2 ys H',Inv (be X x y scope fp s3 H3) pins (o1::o2::σ) H' s'∧tn i s'.heap∧(∀b∈fp,H' b=none)∧W i n ys H') ?_ m0 ⟨0,none,none,[],H3,K0,st3,fun b hb=>(f3 b hb).1,w0⟩
  rintro n s4 ⟨i,o1,o2,ys,H4,I4,st4,fr4,w4⟩
  rcases turn i n ys H4 w4 with⟨stop,qn⟩|⟨go,N,hNN,step⟩
  ·refine bz (T.done (be X x y scope fp s3 H3) rfl rfl rfl hc i pins s4 (o1::o2::σ) H4 _ I4 (stat fr4) st4 stop) fun r s5 ⟨hr,I5⟩=>?_
   subst hr
   exact fin I3 f3 I5 qn
  ·refine bz (T.item (be X x y scope fp s3 H3) rfl rfl rfl hc i pins s4 (o1::o2::σ) H4 _ I4 (stat fr4) st4 go) fun r s5 hp=>?_
   obtain⟨u,hr,h5⟩:=hp
   subst hr
   refine bz h5 fun _ s6 hp=>?_
   obtain⟨yv,H6,I6,r6,y6,st6,fr6⟩:=hp
   have I6':=I6.pinned (stat fr6) (T.obj _ _ st6)
   have keepS:∀{q1 q2:Option V}{H':Hp}{s':Shared},Inv (be X x y scope fp s3 H3) (pins++hG fp s6.heap) (q1::q2::σ) H' s'→tn (i+1) s'.heap∧∀b∈fp,H' b=none:=fun{q1 q2 H' s'} I'=>by
    refine⟨T.keep _ _ _ st6 fun b hb o e=>(I'.pin (b,o) (aD _ (aD _ (da hb e)))).1,fun b hb=>?_⟩
    obtain⟨o,e,d⟩:=T.obj _ _ st6 b hb
    exact(I'.pin (b,o) (aD _ (aD _ (da hb e)))).2.1
   refine aA (hg fp s3 H3 _ s6 (o1::o2::σ) H6 yv u _ I6' r6 (step yv H6 y6 o1 o2)) (fun _ s7 ⟨σ7,H7,I7,⟨p1,p2,hσ⟩,q7⟩=>?_) fun _ _ z=>False.elim z
   subst hσ
   refine aA (ht fp s3 H3 _ s7 (p1::p2::σ) H7 _ I7 q7) (fun bb s8 ⟨H8,I8,q8⟩=>?_) fun _ _ z=>False.elim z
   cases bb with
   |false=>
    rw[if_neg aq] at q8 ⊢
    obtain⟨m',hm,w8⟩:=hNN ys H8 q8
    obtain⟨a1,a2⟩:=keepS I8
    exact⟨m',hm,i+1,p1,p2,ys,H8,I8.unpinned,a1,a2,w8⟩
   |true=>
   rw[if_pos rfl] at q8 ⊢
   refine aA (he fp s3 H3 _ s8 (p1::p2::σ) H8 _ I8 q8) (fun v9 s9 ⟨y9,H9,I9,r9,hacc,hsz,q9⟩=>?_) fun _ _ z=>False.elim z
   refine aA (hV (X:=be X x y scope fp s3 H3) _ s9 (p1::p2::σ) H9 (.ref s2.heap.objs.size) [y9] _ [v9] (fun _ H'=>N (ys++[y9]) H') I9 rfl (.cons r9 .nil) ⟨_,_,_,rfl,rfl,hacc,hsz,q9⟩) (fun _ s10 ⟨_,H10,I10,_,q10⟩=>?_) fun _ _ z=>False.elim z
   obtain⟨m',hm,w10⟩:=hNN _ H10 q10
   obtain⟨a1,a2⟩:=keepS I10
   exact⟨m',hm,i+1,p1,p2,_,H10,I10.unpinned,a1,a2,w10⟩
 have eC:(s2.heap.push {cls:= .type "list",dict:=none,data:= .seq ([]:List Value).toArray}).objs.size=s3.heap.objs.size:=by rw[es3]
 rw[eC]
 have es4:({heap:=h₁,gens:=s2.gens,drawn:=s2.drawn,toks:=s2.toks+([]:List (Str×Value)).length,os:=s2.os}:Shared)={s3 with heap:=h₁,toks:=s2.toks}:=by rw[←hs3];rfl
 rw[es4]
 exact codeAny_compStart_list loop (T.self _ 0 _ _ _ st3 loop)
theorem kr{g:TG}(hc:X.calm=true)(C:CompScope X x scope)(hx:x∉X.N)
  (hi:PI X tg iter wi)(hg:∀fp s H,PG (be X x y scope fp s H) tg g)(ht:∀fp s H,t_ (be X x y scope fp s H) ifs tc)(he:∀fp s H,PE (be X x y scope fp s H) elt te)
  (hs:∀x,foldedSetIterable iter X.env x=pure x):PE X (.ListComp elt [⟨tg,iter,ifs,0⟩] scope pos) (iI wi g tc te):=by
 intro pins s σ H Q I h
 rw[eval_ListComp]
 refine jL (use:=none) hc C hx hi hg ht he hs I h fun I3 f3 I5 qn=>?_
 obtain⟨m5,hn5,_⟩:=id I5.loc
 exact⟨m5,hn5,fun h' sb=>⟨.ref _,_,kO I3 f3 I5 sb,rfl,qn⟩⟩
theorem mE{z:Str}{p1 p2 p3 pz:Pos}{k:Nat}{g:TG}{i:Nat}(hc:X.calm=true)(C:CompScope X x scope)(hx:x∉X.N)(hN:X.N.Nodup)
  (hi:PI X (.Tuple [.Name x p1,.Name y p2] k p3) iter wi)(hg:∀fp s H,PG (be X x y scope fp s H) (.Tuple [.Name x p1,.Name y p2] k p3) g)(ht:∀fp s H,t_ (be X x y scope fp s H) ifs tc)(he:∀fp s H,PE (be X x y scope fp s H) elt te)
  (hs:∀x,foldedSetIterable iter X.env x=pure x)(hy:X.N[i]? =some z)(hl:Loc X.env.scope z)(hf:X.fn z=true∨X.env.scope.names.lookup z=some .local):
  PS X (.Assign [.Name z pz] (.ListComp elt [⟨.Tuple [.Name x p1,.Name y p2] k p3,iter,ifs,0⟩] scope pos) spos) (nM (iI wi g tc te) (dm i)):=by
 have hb:∃b,swapsWith (.ListComp elt [⟨.Tuple [.Name x p1,.Name y p2] k p3,iter,ifs,0⟩] scope pos) (some (.Name z pz)) spos.line X.env=pure b:=⟨_,rfl⟩
 obtain⟨b,hb⟩:=hb
 cases b with
 |false=>exact lH hN hy hl (kr hc C hx hi hg ht he hs) hb hf
 |true=>
  intro pins s σ H D I h
  rw[exec_Assign_Name_used _ _ _ _ hb]
  refine aa (wpAny_standAt (aa ?_))
  show wpAny _ X.A (do let _ ←comprehension (.ListComp elt [⟨.Tuple [.Name x p1,.Name y p2] k p3,iter,ifs,0⟩] scope pos) scope X.env _ (newList []) false (eval iter X.env) (some (assign (.Name z pz) X.env))) _ _ s
  refine aa (aA (jL (use:=some (assign (.Name z pz) X.env)) (QQ:=fun _ s'=>SP X pins D .next s') hc C hx hi hg ht he hs I h fun{fp s3 s5 H3 H4 Dd o1 o2} I3 f3 I5 qn=>?_) (fun _ s' hq=>ae (ae hq)) fun _ _ e=>e)
  have I6:Inv X pins σ H4 s5:=by
   have:=kO I3 f3 I5 (Heap.SameBut.refl _ _)
   exact this
  obtain⟨m5,hn5,_⟩:=id I5.loc
  have hC0:H4 s3.heap.objs.size=none:=I5.free
  have hCL:X.env.locals≠s3.heap.objs.size:=ai I3.lt
  show wpAny _ X.A (assign (.Name z pz) X.env (.ref Dd)) _ _ _
  refine wpAny_assign_Name (gZ (v:= .ref Dd) I6 hN hy hl rfl (fun s7 I7 hch=>?_) hf)
  obtain⟨a,sb,ha⟩:=hch
  have hCa:s3.heap.objs.size≠a:=by
   rcases ha with rfl|ha
   ·exact hCL.symm
   ·obtain⟨v,q⟩:=I3.cell z a ha
    exact(ai q.lt).symm
  refine⟨m5,hn5.sameBut sb hCa,fun h' sb'=>⟨_,H4,?_,qn⟩⟩
  refine I7.turned (t':=s7.toks) (it:=s3.heap.objs.size) (fun b o hb e=>(sb'.2 b hb).trans e) hC0 hCL.symm (.inr I3.sz) (fun z c e=>?_) fun p hp=>?_
  ·obtain⟨v,q⟩:=I3.cell z c e
   exact ai q.lt
  ·exact ai (ah (I3.pin p hp).1)
end L2
namespace PySem
open Sem (wp)
open AutoSeq1 (wpAny_loadPart')
variable{a t:Addr}{h h':Heap}{prog:Program}
section
variable{prog:Program}{w:World}{A:Around}{E:Value→Shared→Prop}{s:Shared}{it t:Addr}{i:Nat}{items:Array Value}{Q:Value→Shared→Prop}
theorem i8{x:Value}(hit:s.heap.IsTupleIter it t i)(ht:s.heap.IsTuple t items)(hx:items[i]? =some x)(hQ:∀h',h'.IsTupleIter it t (i+1)→Heap.SameBut it s.heap h'→Q x {s with heap:=h'}):
  wpAny (model prog w) A (Builtin.SmallTypes.nextOf (.ref it)) Q E s:=by
 obtain⟨o,ho,hc,hd⟩:=id hit
 obtain⟨ol,hol,_,nl,hdl⟩:=ht
 unfold Builtin.SmallTypes.nextOf
 refine aa (wpAny_callSpecial?_slot (name:=Str.ofString "__next__") hit.typeIs F.slot_tuple_iterator_next (wpAny_call_entry F.slot_tuple_iterator_next hit.typeIs F.entry_tuple_iterator_next ?_ (F.args_tuple_iterator_next_1 _)))
 refine aa (m:=field (.ref it) 0) (az ho hd (x:= .ref t) rfl ?_)
 refine aa (m:=field (.ref it) 1) (az ho hd (x:= .int i 0) rfl ?_)
 refine aa (m:=seqItems? (.ref t)) (wpAny_seqItems hol hdl ?_)
 simp only[Int.toNat_natCast,hx]
 refine aa (wpAny_setField ho hd (by simp) (ae ⟨x,rfl,ae (hQ _ ⟨_,Heap.get?_update_self _ ho (Obj.isFreed_of_fields (Obj.data_mapFields hd _)),(Obj.cls_mapFields ..).trans hc,?_⟩ (Heap.SameBut.update ..))⟩))
 rw[Obj.data_mapFields hd]
 simp[rawInt]
theorem ls(hh:A.handled=none)(hit:s.heap.IsTupleIter it t i)(ht:s.heap.IsTuple t items)(hx:items[i]? =none)
  (hE:∀h' e,Heap.ExtBut it s.heap h'→(∃o,h'.get? e=some o∧o.cls=.type "StopIteration")→E (.ref e) {s with heap:=h'}):wpAny (model prog w) A (Builtin.SmallTypes.nextOf (.ref it)) Q E s:=by
 obtain⟨o,ho,hc,hd⟩:=id hit
 obtain⟨ol,hol,_,nl,hdl⟩:=ht
 unfold Builtin.SmallTypes.nextOf
 refine aa (wpAny_callSpecial?_slot (name:=Str.ofString "__next__") hit.typeIs F.slot_tuple_iterator_next (wpAny_call_entry F.slot_tuple_iterator_next hit.typeIs F.entry_tuple_iterator_next ?_ (F.args_tuple_iterator_next_1 _)))
 refine aa (m:=field (.ref it) 0) (az ho hd (x:= .ref t) rfl ?_)
 refine aa (m:=field (.ref it) 1) (az ho hd (x:= .int i 0) rfl ?_)
 refine aa (m:=seqItems? (.ref t)) (wpAny_seqItems hol hdl ?_)
 simp only[Int.toNat_natCast,hx]
 refine aa (wpAny_rule (aa (wpAny_setField ho hd (by simp) (aa (m:=newExc (.type "StopIteration") []) ?_))))
 unfold newExc newTuple
 refine aa (wpAny_newObj_type (aa (m:=firstArgMember _ _) (wpAny_of_eq (a:=Value.none) (by first|rfl|(simp only[firstArgMember];rfl)) (wpAny_newObj_type ?_ (by size_fits)))) (by size_fits))
 unfold raiseNew
 refine aa (wpAny_handled ?_)
 rw[show A.in1.handled=none from hh]
 exact aa (ae (wpAny_throw (hE _ _ (((Heap.SameBut.update ..).extBut.push _).push _) ⟨_,ak _ rfl,rfl⟩)))
theorem e_(x:h.IsTuple a items)(k:∀o,h.get? a=some o→h'.get? a=some o):h'.IsTuple a items:=let⟨o,ho,r⟩:=x;⟨o,k o ho,r⟩
theorem bn{b:Addr}(x:h.IsTupleIter a b i)(k:∀o,h.get? a=some o→h'.get? a=some o):h'.IsTupleIter a b i:=let⟨o,ho,r⟩:=x;⟨o,k o ho,r⟩
end
theorem Draws.tup{w:World}{A:Around}(hh:A.handled=none)(it t:Addr)(hne:t≠it)(items:Array Value):
  Draws prog w A it [it,t] items.size (fun i v=>items[i]? =some v) (fun i h=>h.IsTupleIter it t i∧h.IsTuple t items) where
 live:=fun _ _ st=>let⟨o,ho,_⟩:=st.1;⟨o,ho⟩
 frame:=fun _ _ _ st hk=>⟨bn st.1 fun o e=>hk it (by simp) o e,e_ st.2 fun o e=>hk t (by simp) o e⟩
 item:=fun i s Q E hi st hQ=>i8 st.1 st.2 (x:=items[i]) (by simp[hi]) fun h' hit' hs'=>hQ _ h' s.toks (by simp[hi]) ⟨hit',st.2.extBut hs'.extBut hne⟩ hs'
 done:=fun s Q E st hE=>ls hh st.1 st.2 (by simp) hE
noncomputable def eL(h:Heap)(t:Addr):Heap:=(h.push {cls:= .type "tuple_iterator",data:= .fields #[.ref t,.int 0 0]}).push {cls:= .type "enumerate",data:= .fields #[.none,.bool false,.ref h.objs.size,rawInt 0,.none,.none]}
set_option maxHeartbeats 4000000 in
theorem mN(t:Addr)(items:Array Value)(n:Nat)(dct:Option Addr)(sl:Array (Option Value)):
  Meets (Builtin.«enumerate.__new__» ⟨[.type "enumerate",.ref t],[]⟩) (fun _ R s=>s.heap.get? t=some {cls:= .type "tuple",dict:=dct,data:= .seq items n,slots:=sl}∧
   R (.ok (.ret (.ref (s.heap.push {cls:= .type "tuple_iterator",data:= .fields #[.ref t,.int 0 0]}).objs.size))) {s with heap:=eL s.heap t}):=
 .of_wp fun prog w A R s h=>by
  obtain⟨hp,g,d,tk,os⟩:=s
  obtain⟨hl,h⟩:=h
  have hsub:=sub_enumerate
  have hT:Heap.IsTuple (Shared.heap ⟨hp,g,d,tk,os⟩) t items:=⟨_,hl,rfl,n,rfl⟩
  wp_walk using wpAny_loadPart' hl
  refine wpAny_stack_any fun st=>ae ?_
  split
  ·rename_i c _ _ _ _ _
   cases(c==Value.type "enumerate")<;>(wp_walk using wpAny_loadPart' hl,wpAny_pyIter_tuple hT;exact⟨_,rfl,h⟩)
  ·wp_walk using wpAny_loadPart' hl,wpAny_pyIter_tuple hT
   exact⟨_,rfl,h⟩
theorem oC{w:World}{A:Around}{E:Value→Shared→Prop}{s:Shared}{items:Array Value}{Q:Value→Shared→Prop}(hT:s.heap.IsTuple t items)
  (h:IsEnum (eL s.heap t) (s.heap.objs.size+1) s.heap.objs.size 0 .none→(eL s.heap t).IsTupleIter s.heap.objs.size t 0→(∀b o,s.heap.get? b=some o→(eL s.heap t).get? b=some o)→Q (.ref (s.heap.objs.size+1)) {s with heap:=eL s.heap t}):
  wpAny (model prog w) A (call (.type "enumerate") [.ref t]) Q E s:=by
 obtain⟨⟨c,dct,dt,sl⟩,hl,hc,n,hd⟩:=hT
 replace hc:c=.type "tuple":=hc
 replace hd:dt=.seq items n:=hd
 subst hc hd
 refine callType_new F.called_enumerate (by decide) (F.typeCall_enumerate_1 _) (F.newCall_enumerate_1 _) (fun obj=>F.args_object_init_2 obj _) F.entry_enumerate_new (mN t items n dct sl) ⟨hl,?_⟩
 have hz:(s.heap.push {cls:= .type "tuple_iterator",data:= .fields #[.ref t,.int 0 0]}).objs.size=s.heap.objs.size+1:=Heap.size_push ..
 have he:IsEnum (eL s.heap t) (s.heap.objs.size+1) s.heap.objs.size 0 .none:=by
  rw[←hz]
  exact ak _ rfl
 show _∧_
 rw[hz]
 exact⟨⟨_,he,rfl⟩,h he ⟨_,ac _ (ak _ rfl),rfl,rfl⟩ fun b o x=>ac _ (ac _ x)⟩
theorem qt{w:World}{A:Around}{E:Value→Shared→Prop}{s:Shared}{e it:Addr}{i:Nat}{items:Array Value}{old:Value}{Q:Option Value→Shared→Prop}(hh:A.handled=none)
  (he:IsEnum s.heap e it i old)(hit:s.heap.IsTupleIter it t i)(ht:s.heap.IsTuple t items)(hx:items[i]? =none)(hQ:∀h',Heap.ExtBut it s.heap h'→Q none {s with heap:=h'}):wpAny (model prog w) A (pyNext (.ref e)) Q E s:=by
 have D:Draws prog w A.in1 it [it,t] 0 (fun _ _=>True) (fun _ h=>h.IsTupleIter it t i∧h.IsTuple t items):=by
  refine⟨fun _ _ st=>?_,fun _ h h' st hk=>?_,fun j s' Q' E' hj=>absurd hj (Nat.not_lt_zero _),fun s' Q' E' st hE=>ls hh st.1 st.2 hx hE⟩
  ·obtain⟨o,ho,_⟩:=st.1
   exact⟨o,ho⟩
  ·exact⟨bn st.1 fun o e=>hk it (by simp) o e,e_ st.2 fun o e=>hk t (by simp) o e⟩
 exact wpAny_pyNext_enum_endD D he ⟨hit,ht⟩ hQ
end PySem
namespace L2
open PySem PySem.Spec PyProof.Rows
noncomputable def yN(K:al)(a:Addr):It:=
 ⟨fun i H=>∃xs x,eN K H a xs∧xs[i]? =some x,
  fun i H v H'=>∃p x,v=.ref p∧H p=none∧H'=bj H p (.tup [.int (i:Int),x])∧∀xs,eN K H a xs→xs[i]? =some x,
  fun i H=>∃xs,eN K H a xs∧xs.length≤i⟩
noncomputable def Av(e it a:Addr)(i:Nat)(h:Heap):Prop:=(∃old,IsEnum h e it (i:Int) old)∧h.IsTupleIter it a i
theorem nK{P:Program}{w:World}{K:al}{elts:List Expr}{k:Nat}{pos:Pos}(a e it:Addr)(hne:e≠it):Turn P w K (.Tuple elts k pos) (yN K a) [e,it] e (Av e it a) where
 mem:=by simp
 obj:=fun i h st b hb=>by
  obtain⟨⟨old,he⟩,o,ho,c,d⟩:=st
  rcases List.mem_cons.mp hb with rfl|hb
  ·exact⟨_,he,fun v z=>by
    have z':Data.fields _=Data.cell v:=z
    cases z'⟩
  ·have:b=it:=by simpa using hb
   subst this
   exact⟨o,ho,fun v z=>by rw[d] at z;cases z⟩
 keep:=fun i h h' ⟨⟨old,he⟩,st⟩ kk=>⟨⟨old,kk e (by simp) _ he⟩,bn st fun o q=>kk it (by simp) o q⟩
 item:=by
  intro X hP hw hK hc i pins s σ H E I hf st hg
  subst hP hw hK
  obtain⟨⟨old,he⟩,hit⟩:=st
  obtain⟨xs,x,hq,hx⟩:=hg
  obtain⟨its,rv,p,hz⟩:=I.tuple hq
  obtain⟨u,hu,ru⟩:=rv.get hx
  have pt:s.heap.IsTuple a its.toArray:=p
  have nea:e≠a:=by
   obtain⟨o,ho,hc,_⟩:=pt
   intro z
   rw[←z,he] at ho
   cases ho
   have hc:Value.type "enumerate"=Value.type "tuple":=hc
   exact absurd hc (by decide)
  have nia:a≠it:=by
   obtain⟨o,ho,hc,_⟩:=pt
   obtain⟨o2,ho2,hc2,_⟩:=hit
   intro z
   rw[←z,ho] at ho2
   cases ho2
   rw[hc] at hc2
   exact absurd hc2 (by decide)
  refine wpAny_pyNext_enum_itemD (Draws.tup (A:=X.A.in1) (I.ok.hd hc) it a nia its.toArray) he ⟨hit,pt⟩ (by have:=(aH hu).1;simpa using this) hne (by simp[hne,nea]) fun u' h1 tk hP heo hst ht1 hz1 hk1=>?_
  have eu:u'=u:=by
   have:its[i]? =some u':=by simpa using hP
   rw[hu] at this
   exact(ag this).symm
  subst eu
  refine⟨_,rfl,wpAny_letOwnedTupleGo_enum heo fun h2 he2 hs2=>?_⟩
  replace hs2:Heap.SameBut e h1 h2:=hs2
  have lt:=ah he
  have ht2:h2.get? s.heap.objs.size=some {cls:= .type "tuple",data:= .seq #[.int i tk,u']}:=(hs2.2 _ (bi lt)).trans ht1
  have hn:H s.heap.objs.size=none:=I.hok.fresh (af _)
  have I2:Inv X pins σ (bj H s.heap.objs.size (.tup [.int (i:Int),x])) {s with heap:=h2,toks:=tk+1}:=by
   refine I.turnLaid (fp:=[e,it]) hf (fun b o hb q=>?_) (af _) ⟨(by show 2≤sizeLine;decide),[.int i tk,u'],.cons ⟨_,rfl⟩ (.cons ru .nil),?_⟩
   ·have hbe:b≠e:=fun z=>hb (by simp[z])
    have hbi:b≠it:=fun z=>hb (by simp[z])
    exact(hs2.2 b hbe).trans (hk1 b o hbe hbi q)
   ·exact⟨_,ht2,rfl,_,rfl⟩
  refine⟨.ref s.heap.objs.size,_,I2,rfl,⟨_,x,rfl,hn,rfl,fun ys hy=>by rw[I.tuple_inj hy hq];exact hx⟩,⟨⟨u',?_⟩,?_⟩,fun b hb=>?_⟩
  ·have:((i+1:Nat):Int)=(i:Int)+1:=by omega
   rw[this]
   exact he2
  ·exact bn hst.1 fun o q=>(hs2.2 it (Ne.symm hne)).trans q
  ·obtain⟨f0,_⟩:=hf b hb
   have:b≠s.heap.objs.size:=by
    rcases List.mem_cons.mp hb with rfl|hb
    ·exact ai lt
    ·have:b=it:=by simpa using hb
     subst this
     obtain⟨o,ho,_⟩:=hit
     exact ai (ah ho)
   rw[av this];exact f0
 done:=by
  intro X hP hw hK hc i pins s σ H E I hf st hg
  subst hP hw hK
  obtain⟨⟨old,he⟩,hit⟩:=st
  obtain⟨xs,hq,hx⟩:=hg
  obtain⟨its,rv,p,hz⟩:=I.tuple hq
  obtain⟨f0,f1,f2,f3,f4,f5⟩:=hf it (by simp)
  have hl:=rv.length
  exact qt (I.ok.hd hc) he hit (show s.heap.IsTuple a its.toArray from p) (by simp;omega) fun h' eb=>⟨rfl,I.turned (t':=s.toks) (fun b o hb e=>eb b o hb e) f0 f1 f3 f4 f5⟩
 self:=fun _ _ _ _ _ st h=>wpAny_pyIter_enum st.1.choose_spec h
noncomputable def sP(K:al)(tl:TA):TI:=fun σ H R=>tl σ H fun vs H1=>∃a,vs=[.ref a]∧(((∃xs,du K H1 a xs)∧R (B9 K a) H1)∨((∃xs,eN K H1 a xs)∧R (yN K a) H1))
theorem mF{X:Cx}{elts:List Expr}{k:Nat}{tp:Pos}{a:Expr}{ta:TA}{p pos:Pos}(hg:Gl X "enumerate")(hm:X.mg "enumerate"=none)(ha:PA X [a] ta)(hs:starEach [a] X.env=[(false,eval a X.env)]):
  PI X (.Tuple elts k tp) (.Call (.Name "enumerate" p) [a] [] pos) (sP X.K ta):=by
 intro pins s σ H R I h
 refine Call_ (fL I hg hm boot_enumerate (aX (bz (ha pos pins s σ H _ I h) fun us s1 ⟨vs,H1,I1,r1,q1⟩=>?_) hs rfl))
 obtain⟨a,e,q⟩:=q1
 subst e
 cases r1 with
 |cons r rr=>
  cases rr
  cases r
  have new:∀b∈[s1.heap.objs.size+1,s1.heap.objs.size],eA X pins H1 b:=fun b hb=>by
   have hb':s1.heap.objs.size≤b:=by
    rcases List.mem_cons.mp hb with rfl|hb
    ·exact Nat.le_succ _
    ·have:b=s1.heap.objs.size:=by simpa using hb
     rw[this];exact af _
   exact I1.fpOk hb' (I1.hok.fresh hb')
  rcases q with⟨⟨xs,hq⟩,q⟩|⟨⟨xs,hq⟩,q⟩
  ·obtain⟨its,rv,pl,hz⟩:=I1.list hq
   refine call_enumerate_list pl.isList fun h' he hit hsz hk=>?_
   refine wpAny_pyIter_enum he ?_
   exact⟨_,[s1.heap.objs.size+1,s1.heap.objs.size],_,_,H1,rfl,I1.kept (t':=s1.toks) hk,pU a _ _ (bi (aB _)),⟨⟨_,he⟩,hit⟩,new,q⟩
  ·obtain⟨its,rv,pl,hz⟩:=I1.tuple hq
   refine oC (show s1.heap.IsTuple a its.toArray from pl) fun he hit hk=>?_
   refine wpAny_pyIter_enum he ?_
   exact⟨_,[s1.heap.objs.size+1,s1.heap.objs.size],_,_,H1,rfl,I1.kept (t':=s1.toks) hk,nK a _ _ (bi (aB _)),⟨⟨_,he⟩,hit⟩,new,q⟩
end L2
namespace PySem
open Sem (wp)
open AutoSeq1 (wpAny_loadPart')
variable{c x y:Value}{qs:Array Value}{i1 i2 l t z:Addr}
section
variable{prog:Program}{w:World}{A:Around}{E:Value→Shared→Prop}{s:Shared}
theorem qJ{TI TO:Addr}{k:Nat}{ps:Array Value}{d:Value}{Q:Value→Shared→Prop}(Z:ZipApart z TI TO i1 i2 t l)
  (gz:IsZip s.heap z TI TO .none)(gI:IsPair s.heap TI (.ref i1) (.ref i2))(gO:IsPair s.heap TO c d)(j1:s.heap.IsTupleIter i1 t k)(j2:s.heap.IsListIter i2 l k)(m1:s.heap.IsTuple t ps)(m2:s.heap.IsList l qs)(hx:ps[k]? =some x)(hy:qs[k]? =some y)
  (fin:∀g,IsZip g z TI TO (rawInt s.heap.objs.size)→IsPair g TO x y→g.IsTupleIter i1 t (k+1)→g.IsListIter i2 l (k+1)→IsPair g s.heap.objs.size x y→g.objs.size=s.heap.objs.size+1→
   (∀b o,b≠z→b≠TO→b≠i1→b≠i2→s.heap.get? b=some o→g.get? b=some o)→Q (.ref s.heap.objs.size) {s with heap:=g}):
  wpAny (model prog w) A (Builtin.«zip.__next__» ⟨[.ref z],[]⟩) (fun r u=>∃v,r=.done (.ret v)∧Q v u) E s:=by
 show wpAny _ _ (field (.ref z) 2>>=_) _ _ _
 refine aa (az gz rfl (x:= .bool false) rfl ?_)
 show wpAny _ _ (field (.ref z) 3>>=_) _ _ _
 refine aa (az gz rfl (x:= .ref TI) rfl ?_)
 refine aa (wpAny_seqItems gI rfl ?_)
 show wpAny _ _ (Builtin.SmallTypes.ownedTupleIsFree (.ref z)>>=_) _ _ _
 refine aa ?_
 unfold Builtin.SmallTypes.ownedTupleIsFree
 refine aa (az gz rfl (x:= .none) rfl (ae ?_))
 simp only[if_true]
 refine aa (wpAny_rule (aa (az gz rfl (x:= .ref TO) rfl ?_)))
 refine aa (aY gz (by simp) fun g1 z1 b1=>?_)
 replace z1:IsZip g1 z TI TO .ellipsis:=z1
 refine aa ?_
 simp only[List.zipIdx_cons,List.zipIdx_nil,List.forIn_cons,List.forIn_nil]
 refine aa (aa (wpAny_onRaise ?_))
 show wpAny _ _ (Builtin.SmallTypes.nextOf (.ref i1)>>=_) _ _ _
 have j1':g1.IsTupleIter i1 t k:=bn j1 fun o e=>b1.extBut _ _ Z.i1z e
 have m1':g1.IsTuple t ps:=e_ m1 fun o e=>b1.extBut _ _ Z.l1z e
 refine aa (i8 (s:={s with heap:=g1}) j1' m1' hx fun g2 j12 b2=>ae ?_)
 replace b2:Heap.SameBut i1 g1 g2:=b2
 have o2:IsPair g2 TO c d:=b2.extBut _ _ Z.TOi1 (b1.extBut _ _ Z.TOz gO)
 refine aa (wpAny_seqItems o2 rfl ?_)
 refine aa (wpAny_updateSeq_pair o2 fun g3 o3 b3=>?_)
 replace o3:IsPair g3 TO x d:=o3
 replace b3:Heap.SameBut TO g2 g3:=b3
 refine aa (wpAny_letGo (ae (aa (aa (wpAny_onRaise ?_)))))
 show wpAny _ _ (Builtin.SmallTypes.nextOf (.ref i2)>>=_) _ _ _
 have up3:∀b o,b≠z→b≠i1→b≠TO→s.heap.get? b=some o→g3.get? b=some o:=fun b o n1 n2 n3 e=>b3.extBut _ _ n3 (b2.extBut _ _ n2 (b1.extBut _ _ n1 e))
 refine aa (wpAny_nextOf_list_item (s:={s with heap:=g3}) (j2.at fun o e=>up3 i2 o Z.i2z Z.i12.symm Z.TOi2.symm e) (m2.at fun o e=>up3 l o Z.l2z Z.l2i1 Z.l2TO e) hy fun g4 j24 b4=>ae ?_)
 replace b4:Heap.SameBut i2 g3 g4:=b4
 have o4:IsPair g4 TO x d:=b4.extBut _ _ Z.TOi2 o3
 refine aa (wpAny_seqItems o4 rfl ?_)
 refine aa (wpAny_updateSeq_pair o4 fun g5 o5 b5=>?_)
 replace o5:IsPair g5 TO x y:=o5
 replace b5:Heap.SameBut TO g4 g5:=b5
 refine aa (wpAny_letGo (ae (ae (aa (wpAny_seqItems o5 rfl (aa (wpAny_newTuple ?_)))))))
 have sz5:g5.objs.size=s.heap.objs.size:=by rw[b5.1,b4.1,b3.1,b2.1,b1.1]
 have z5:IsZip g5 z TI TO .ellipsis:=b5.extBut _ _ Z.TOz.symm (b4.extBut _ _ Z.i2z.symm (b3.extBut _ _ Z.TOz.symm (b2.extBut _ _ Z.i1z.symm z1)))
 have up5:∀b o,b≠z→b≠TO→b≠i1→b≠i2→s.heap.get? b=some o→g5.get? b=some o:=fun b o n1 n2 n3 n4 e=>b5.extBut _ _ n2 (b4.extBut _ _ n4 (up3 b o n1 n3 n2 e))
 have j15:g5.IsTupleIter i1 t (k+1):=bn j12 fun o e=>b5.extBut _ _ Z.TOi1.symm (b4.extBut _ _ Z.i12 (b3.extBut _ _ Z.TOi1.symm e))
 have j25:g5.IsListIter i2 l (k+1):=j24.at fun o e=>b5.extBut _ _ Z.TOi2.symm e
 have ltz:z<g5.objs.size:=ah z5
 show wpAny _ _ (Builtin.SmallTypes.ownedTupleHandOut (.ref z) (.ref g5.objs.size)>>=_) _ _ _
 refine aa ?_
 unfold Builtin.SmallTypes.ownedTupleHandOut
 have z6:IsZip (g5.push {cls:= .type "tuple",data:= .seq #[x,y]}) z TI TO .ellipsis:=ac _ z5
 refine aa (aY z6 (by simp) fun g7 z7 b7=>?_)
 replace z7:IsZip g7 z TI TO (rawInt g5.objs.size):=z7
 refine aY z7 (by simp) fun g8 z8 b8=>?_
 replace z8:IsZip g8 z TI TO (rawInt g5.objs.size):=z8
 have up8:∀b o,b≠z→g5.get? b=some o→g8.get? b=some o:=fun b o n e=>b8.extBut _ _ n (b7.extBut _ _ n (ac _ e))
 have t8:IsPair g8 g5.objs.size x y:=b8.extBut _ _ (bi ltz) (b7.extBut _ _ (bi ltz) (ak _ rfl))
 have sz8:g8.objs.size=g5.objs.size+1:=by rw[b8.1,b7.1,Heap.size_push]
 rw[sz5] at z8 t8 sz8
 refine ae ⟨_,rfl,?_⟩
 show Q (.ref g5.objs.size) _
 rw[sz5]
 exact fin g8 z8 (up8 _ _ Z.TOz o5) (bn j15 fun o e=>up8 _ o Z.i1z e) (j25.at fun o e=>up8 _ o Z.i2z e) t8 sz8 fun b o n1 n2 n3 n4 e=>up8 b o n1 (up5 b o n1 n2 n3 n4 e)
theorem qH{TI TO:Addr}{k:Nat}{ps:Array Value}{d:Value}{Q:Fin→Shared→Prop}(hh:A.handled=none)(Z:ZipApart z TI TO i1 i2 t l)
  (gz:IsZip s.heap z TI TO .none)(gI:IsPair s.heap TI (.ref i1) (.ref i2))(gO:IsPair s.heap TO c d)(j1:s.heap.IsTupleIter i1 t k)(j2:s.heap.IsListIter i2 l k)(m1:s.heap.IsTuple t ps)(m2:s.heap.IsList l qs)(hend:ps[k]? =none∨qs[k]? =none)
  (fin:∀g e,(∀b o,b≠z→b≠TO→b≠i1→b≠i2→s.heap.get? b=some o→g.get? b=some o)→(∃o,g.get? e=some o∧o.cls=.type "StopIteration")→E (.ref e) {s with heap:=g}):
  wpAny (model prog w) A (Builtin.«zip.__next__» ⟨[.ref z],[]⟩) Q E s:=by
 show wpAny _ _ (field (.ref z) 2>>=_) _ _ _
 refine aa (az gz rfl (x:= .bool false) rfl ?_)
 show wpAny _ _ (field (.ref z) 3>>=_) _ _ _
 refine aa (az gz rfl (x:= .ref TI) rfl ?_)
 refine aa (wpAny_seqItems gI rfl ?_)
 show wpAny _ _ (Builtin.SmallTypes.ownedTupleIsFree (.ref z)>>=_) _ _ _
 refine aa ?_
 unfold Builtin.SmallTypes.ownedTupleIsFree
 refine aa (az gz rfl (x:= .none) rfl (ae ?_))
 simp only[if_true]
 refine aa (wpAny_rule (aa (az gz rfl (x:= .ref TO) rfl ?_)))
 refine aa (aY gz (by simp) fun g1 z1 b1=>?_)
 replace z1:IsZip g1 z TI TO .ellipsis:=z1
 refine aa ?_
 simp only[List.zipIdx_cons,List.zipIdx_nil,List.forIn_cons,List.forIn_nil]
 refine aa (aa (wpAny_onRaise ?_))
 show wpAny _ _ (Builtin.SmallTypes.nextOf (.ref i1)>>=_) _ _ _
 have j1':g1.IsTupleIter i1 t k:=bn j1 fun o e=>b1.extBut _ _ Z.i1z e
 have m1':g1.IsTuple t ps:=e_ m1 fun o e=>b1.extBut _ _ Z.l1z e
 cases hx:ps[k]? with
 |none=>
  refine aa (ls (s:={s with heap:=g1}) hh j1' m1' hx fun g2 e b2 he=>?_)
  replace b2:Heap.ExtBut i1 g1 g2:=b2
  obtain⟨oe,he1,he2⟩:=he
  have z2:IsZip g2 z TI TO .ellipsis:=b2 _ _ Z.i1z.symm z1
  have ne:e≠z:=fun q=>by subst q;rw[z2] at he1;cases he1;simp at he2
  exact aY z2 (by simp) fun g3 _ b3=>fin g3 e (fun b o n1 _ n3 _ q=>b3.extBut _ _ n1 (b2 _ _ n3 (b1.extBut _ _ n1 q))) ⟨oe,b3.extBut _ _ ne he1,he2⟩
 |some x=>
  have hy:qs[k]? =none:=by
   rcases hend with q|q
   ·rw[hx] at q;cases q
   ·exact q
  refine aa (i8 (s:={s with heap:=g1}) j1' m1' hx fun g2 j12 b2=>ae ?_)
  replace b2:Heap.SameBut i1 g1 g2:=b2
  have o2:IsPair g2 TO c d:=b2.extBut _ _ Z.TOi1 (b1.extBut _ _ Z.TOz gO)
  refine aa (wpAny_seqItems o2 rfl ?_)
  refine aa (wpAny_updateSeq_pair o2 fun g3 o3 b3=>?_)
  replace b3:Heap.SameBut TO g2 g3:=b3
  refine aa (wpAny_letGo (ae (aa (aa (wpAny_onRaise ?_)))))
  show wpAny _ _ (Builtin.SmallTypes.nextOf (.ref i2)>>=_) _ _ _
  have up3:∀b o,b≠z→b≠i1→b≠TO→s.heap.get? b=some o→g3.get? b=some o:=fun b o n1 n2 n3 e=>b3.extBut _ _ n3 (b2.extBut _ _ n2 (b1.extBut _ _ n1 e))
  refine aa (wpAny_nextOf_list_end (s:={s with heap:=g3}) hh (j2.at fun o e=>up3 i2 o Z.i2z Z.i12.symm Z.TOi2.symm e) (m2.at fun o e=>up3 l o Z.l2z Z.l2i1 Z.l2TO e) hy fun g4 e b4 he=>?_)
  replace b4:Heap.ExtBut i2 g3 g4:=b4
  obtain⟨oe,he1,he2⟩:=he
  have z4:IsZip g4 z TI TO .ellipsis:=b4 _ _ Z.i2z.symm (b3.extBut _ _ Z.TOz.symm (b2.extBut _ _ Z.i1z.symm z1))
  have ne:e≠z:=fun q=>by subst q;rw[z4] at he1;cases he1;simp at he2
  exact aY z4 (by simp) fun g5 _ b5=>fin g5 e (fun b o n1 n2 n3 n4 q=>b5.extBut _ _ n1 (b4 _ _ n4 (up3 b o n1 n3 n2 q))) ⟨oe,b5.extBut _ _ ne he1,he2⟩
theorem qI{TI TO:Addr}{k:Nat}{ps:Array Value}{d:Value}{Q:Option Value→Shared→Prop}(Z:ZipApart z TI TO i1 i2 t l)
  (gz:IsZip s.heap z TI TO .none)(gI:IsPair s.heap TI (.ref i1) (.ref i2))(gO:IsPair s.heap TO c d)(j1:s.heap.IsTupleIter i1 t k)(j2:s.heap.IsListIter i2 l k)(m1:s.heap.IsTuple t ps)(m2:s.heap.IsList l qs)(hx:ps[k]? =some x)(hy:qs[k]? =some y)
  (fin:∀g,IsZip g z TI TO (rawInt s.heap.objs.size)→IsPair g TO x y→g.IsTupleIter i1 t (k+1)→g.IsListIter i2 l (k+1)→IsPair g s.heap.objs.size x y→g.objs.size=s.heap.objs.size+1→
   (∀b o,b≠z→b≠TO→b≠i1→b≠i2→s.heap.get? b=some o→g.get? b=some o)→Q (some (.ref s.heap.objs.size)) {s with heap:=g}):wpAny (model prog w) A (pyNext (.ref z)) Q E s:=by
 have ty:s.TypeIs (.ref z) "zip":=⟨_,gz,rfl⟩
 unfold pyNext
 exact aa (wpAny_attempt (wpAny_callSpecial?_slot (name:=Str.ofString "__next__") ty F.slot_zip_next (wpAny_call_entry F.slot_zip_next ty F.entry_zip_next
  (qJ Z gz gI gO j1 j2 m1 m2 hx hy fun g a1 a2 a3 a4 a5 a6 a7=>ae (fin g a1 a2 a3 a4 a5 a6 a7)) (F.args_zip_next_1 _))))
theorem qK{TI TO:Addr}{k:Nat}{ps:Array Value}{d:Value}{Q:Option Value→Shared→Prop}(hh:A.handled=none)(Z:ZipApart z TI TO i1 i2 t l)
  (gz:IsZip s.heap z TI TO .none)(gI:IsPair s.heap TI (.ref i1) (.ref i2))(gO:IsPair s.heap TO c d)(j1:s.heap.IsTupleIter i1 t k)(j2:s.heap.IsListIter i2 l k)(m1:s.heap.IsTuple t ps)(m2:s.heap.IsList l qs)(hend:ps[k]? =none∨qs[k]? =none)
  (fin:∀g,(∀b o,b≠z→b≠TO→b≠i1→b≠i2→s.heap.get? b=some o→g.get? b=some o)→Q none {s with heap:=g}):wpAny (model prog w) A (pyNext (.ref z)) Q E s:=by
 have ty:s.TypeIs (.ref z) "zip":=⟨_,gz,rfl⟩
 unfold pyNext
 refine aa (wpAny_attempt (wpAny_callSpecial?_slot (name:=Str.ofString "__next__") ty F.slot_zip_next (wpAny_call_entry F.slot_zip_next ty F.entry_zip_next (qH hh Z gz gI gO j1 j2 m1 m2 hend fun g e hk he=>?_) (F.args_zip_next_1 _))))
 obtain⟨o,h1,h2⟩:=he
 exact aa (wpAny_isInstance (T:= "StopIteration") (b:=true) ⟨o,h1,h2⟩ isSubtype_stop (ae (fin _ hk)))
end
noncomputable abbrev zA(h:Heap)(t:Addr):Heap:=h.push {cls:= .type "tuple_iterator",data:= .fields #[.ref t,.int 0 0]}
noncomputable abbrev zB(h:Heap)(t l:Addr):Heap:=(zA h t).push {cls:= .type "list_iterator",data:= .fields #[.ref l,.int 0 0]}
noncomputable abbrev zC(h:Heap)(t l:Addr):Heap:=(zB h t l).push {cls:= .type "tuple",data:= .seq #[.ref h.objs.size,.ref (zA h t).objs.size]}
noncomputable abbrev zD(h:Heap)(t l:Addr):Heap:=(zC h t l).push {cls:= .type "tuple",data:= .seq #[.none,.none]}
noncomputable abbrev zE(h:Heap)(t l:Addr):Heap:=(zD h t l).push {cls:= .type "zip",data:= .fields #[.none,.bool false,.bool false,.ref (zB h t l).objs.size,.ref (zC h t l).objs.size]}
theorem qf(t l:Addr)(ps qs:Array Value):Meets (Builtin.«zip.__new__» ⟨[.type "zip",.ref t,.ref l],[]⟩) (fun _ R s=>s.heap.IsTuple t ps∧s.heap.IsList l qs∧R (.ok (.ret (.ref (zD s.heap t l).objs.size))) {s with heap:=zE s.heap t l}):=
 .of_wp fun prog w A R s h=>by
  obtain⟨hp,g,d,tk,os⟩:=s
  obtain⟨ht,hl,h⟩:=h
  have hsub:=sub_zip
  have hT:Heap.IsTuple (Shared.heap ⟨hp,g,d,tk,os⟩) t ps:=ht
  have hL:Heap.IsList (Shared.heap ⟨hp.push {cls:= .type "tuple_iterator",data:= .fields #[.ref t,.int 0 0]},g,d,tk,os⟩) l qs:=Heap.IsList.push hl _
  wp_walk using wpAny_pyIter_tuple hT,wpAny_pyIter_list hL
  exact⟨_,rfl,h⟩
theorem tN{prog:Program}{w:World}{A:Around}{E:Value→Shared→Prop}{s:Shared}{ps:Array Value}{Q:Value→Shared→Prop}(ht:s.heap.IsTuple t ps)(hl:s.heap.IsList l qs)
  (fin:∀g,IsZip g (s.heap.objs.size+4) (s.heap.objs.size+2) (s.heap.objs.size+3) .none→IsPair g (s.heap.objs.size+2) (.ref s.heap.objs.size) (.ref (s.heap.objs.size+1))→IsPair g (s.heap.objs.size+3) .none .none→
   g.IsTupleIter s.heap.objs.size t 0→g.IsListIter (s.heap.objs.size+1) l 0→(∀b o,s.heap.get? b=some o→g.get? b=some o)→Q (.ref (s.heap.objs.size+4)) {s with heap:=g}):
  wpAny (model prog w) A (call (.type "zip") [.ref t,.ref l]) Q E s:=by
 refine callType_new F.called_zip (by decide) (F.typeCall_zip_2 _ _) (F.newCall_zip_2 _ _) (fun obj=>F.args_object_init_3 obj _ _) F.entry_zip_new (qf t l ps qs) ⟨ht,hl,?_⟩
 have n1:(zA s.heap t).objs.size=s.heap.objs.size+1:=Heap.size_push ..
 have n2:(zB s.heap t l).objs.size=s.heap.objs.size+2:=by rw[Heap.size_push,n1]
 have n3:(zC s.heap t l).objs.size=s.heap.objs.size+3:=by rw[Heap.size_push,n2]
 have n4:(zD s.heap t l).objs.size=s.heap.objs.size+4:=by rw[Heap.size_push,n3]
 have c5:(zE s.heap t l).get? (zD s.heap t l).objs.size=some _:=ak _ rfl
 have c4:(zE s.heap t l).get? (zC s.heap t l).objs.size=some _:=ac _ (ak _ rfl)
 have c3:(zE s.heap t l).get? (zB s.heap t l).objs.size=some _:=ac _ (ac _ (ak _ rfl))
 have c2:(zE s.heap t l).get? (zA s.heap t).objs.size=some _:=ac _ (ac _ (ac _ (ak _ rfl)))
 have c1:(zE s.heap t l).get? s.heap.objs.size=some _:=ac _ (ac _ (ac _ (ac _ (ak _ rfl))))
 show _∧_
 rw[n2,n3,n4] at c5
 rw[n1,n2] at c3
 rw[n3] at c4
 rw[n1] at c2
 rw[n4]
 exact⟨⟨_,c5,rfl⟩,fin _ c5 c3 c4 ⟨_,c1,rfl,rfl⟩ ⟨_,c2,rfl,rfl⟩ fun b o q=>
  ac _ (ac _ (ac _ (ac _ (ac _ q))))⟩
end PySem
namespace L2
open PySem PySem.Spec PyProof.Rows
variable{a b i1 i2 t z:Addr}{elts:List Expr}
theorem Inv.turns{X:Cx}{pins:List (Addr×Obj)}{σ:St}{H:Hp}{s:Shared}{h':Heap}{t':Nat}{fp:List Addr}(I:Inv X pins σ H s)(hf:∀b∈fp,eA X pins H b)
  (k:∀b o,b∉fp→s.heap.get? b=some o→h'.get? b=some o):Inv X pins σ H {s with heap:=h',toks:=t'}:=by
 have nit:∀b u,H b=some u→b∉fp:=fun b u e z=>by rw[(hf b z).1] at e;cases e
 refine I.step (g':=s.gens) (d':=s.drawn) (ch:=fp) (fun b hb=>?_) (fun b o _ _ hc e _=>k b o hc e) (fun b o _ _ hc e _=>⟨o.slots,k b o hc e⟩) (fun b o _ e n=>n)
  (fun b o hc e=>⟨o,k b o hc e⟩) (fun b ys e=>e) (fun b o u e=>e) (fun b ps e=>⟨#[],by rw[e];simp⟩) (fun m hm=>?_) (fun b u e=>?_) I.bare
 ·obtain⟨f0,f1,f2,f3,f4,f5⟩:=hf b hb
  exact⟨f3,f1,f4,f5⟩
 ·obtain⟨o,es,ep,ho,r⟩:=hm
  exact⟨o,es,ep,k _ o (fun z=>(hf _ z).2.1 rfl) ho,r⟩
 ·refine(I.hok b u e).stay (fun c v hc q=>k c v ?_ q) (fun c q=>q) fun c ys q=>q
  rcases hc with z|z
  ·rw[z];exact nit b u e
  ·exact nit c _ z
noncomputable def B7(K:al)(a b:Addr):It:=
 ⟨fun i H=>∃xs ys x y,eN K H a xs∧du K H b ys∧xs[i]? =some x∧ys[i]? =some y,
  fun i H v H'=>∃p x y,v=.ref p∧H p=none∧H'=bj H p (.tup [x,y])∧(∀xs,eN K H a xs→xs[i]? =some x)∧∀ys,du K H b ys→ys[i]? =some y,
  fun i H=>∃xs ys,eN K H a xs∧du K H b ys∧(xs.length≤i∨ys.length≤i)⟩
noncomputable def yU(z TI TO i1 i2 a b:Addr)(i:Nat)(h:Heap):Prop:=IsZip h z TI TO .none∧IsPair h TI (.ref i1) (.ref i2)∧(∃c d,IsPair h TO c d)∧h.IsTupleIter i1 a i∧h.IsListIter i2 b i
theorem oJ{TI TO:Addr}{i:Nat}{h:Heap}(q:yU z TI TO i1 i2 a b i h):∀x∈[z,TI,TO,i1,i2],∃o,h.get? x=some o∧∀v,o.data≠ .cell v:=by
 obtain⟨q1,q2,⟨c,d,q3⟩,⟨o4,q4,_,d4⟩,⟨o5,q5,_,d5⟩⟩:=q
 intro x hx
 simp only[List.mem_cons,List.not_mem_nil,or_false] at hx
 rcases hx with rfl|rfl|rfl|rfl|rfl
 ·exact⟨_,q1,fun v z=>by have z':Data.fields _=Data.cell v:=z;cases z'⟩
 ·exact⟨_,q2,fun v z=>by have z':Data.seq _ _=Data.cell v:=z;cases z'⟩
 ·exact⟨_,q3,fun v z=>by have z':Data.seq _ _=Data.cell v:=z;cases z'⟩
 ·exact⟨o4,q4,fun v z=>by rw[d4] at z;cases z⟩
 ·exact⟨o5,q5,fun v z=>by rw[d5] at z;cases z⟩
theorem q_{P:Program}{w:World}{K:al}{k:Nat}{pos:Pos}{TI TO:Addr}(Z:ZipApart z TI TO i1 i2 a b):Turn P w K (.Tuple elts k pos) (B7 K a b) [z,TI,TO,i1,i2] z (yU z TI TO i1 i2 a b) where
 mem:=by simp
 obj:=fun i h st x hx=>oJ st x hx
 keep:=fun i h h' ⟨q1,q2,⟨c,d,q3⟩,q4,q5⟩ kk=>⟨kk z (by simp) _ q1,kk TI (by simp) _ q2,⟨c,d,kk TO (by simp) _ q3⟩,bn q4 fun o q=>kk i1 (by simp) o q,q5.at fun o q=>kk i2 (by simp) o q⟩
 item:=by
  intro X hP hw hK hc i pins s σ H E I hf st hg
  subst hP hw hK
  have live:=oJ st
  obtain⟨q1,q2,⟨c,d,q3⟩,q4,q5⟩:=st
  obtain⟨xs,ys,x,y,hq,hr,hx,hy⟩:=hg
  obtain⟨its,rv,p,_⟩:=I.tuple hq
  obtain⟨jts,rw',p',_⟩:=I.list hr
  obtain⟨u,hu,ru⟩:=rv.get hx
  obtain⟨v,hv,rv'⟩:=rw'.get hy
  refine qI Z q1 q2 q3 q4 q5 (show s.heap.IsTuple a its.toArray from p) p'.isList (x:=u) (y:=v) (by simpa using hu) (by simpa using hv) fun g a1 a2 a3 a4 a5 a6 a7=>?_
  refine⟨_,rfl,wpAny_letOwnedTupleGo_zip a1 fun h2 b1 b2=>?_⟩
  replace b2:Heap.SameBut z g h2:=b2
  have lt:∀{x:Addr},x∈[z,TI,TO,i1,i2]→x<s.heap.objs.size:=fun hx=>by obtain⟨o,e,_⟩:=live _ hx;exact ah e
  have ltz:z<s.heap.objs.size:=lt (by simp)
  have hn:H s.heap.objs.size=none:=I.hok.fresh (af _)
  have t2:IsPair h2 s.heap.objs.size u v:=b2.extBut _ _ (bi ltz) a5
  have I2:Inv X pins σ (bj H s.heap.objs.size (.tup [x,y])) {s with heap:=h2,toks:=s.toks}:=by
   refine I.turnLaid (fp:=[z,TI,TO,i1,i2]) hf (fun e o he q=>?_) (af _) ⟨(by show 2≤sizeLine;decide),[u,v],.cons ru (.cons rv' .nil),?_⟩
   ·simp only[List.mem_cons,List.not_mem_nil,or_false,not_or] at he
    exact b2.extBut _ _ he.1 (a7 e o he.1 he.2.2.1 he.2.2.2.1 he.2.2.2.2 q)
   ·exact⟨_,t2,rfl,_,rfl⟩
  refine⟨.ref s.heap.objs.size,_,I2,rfl,⟨_,x,y,rfl,hn,rfl,fun ys hy=>by rw[I.tuple_inj hy hq];exact hx,fun ys' hy'=>by rw[I.list_inj hy' hr];exact hy⟩,⟨b1,b2.extBut _ _ Z.TIz (a7 _ _ Z.TIz Z.TITO Z.TIi1 Z.TIi2 q2),⟨u,v,b2.extBut _ _ Z.TOz a2⟩,bn a3 fun o q=>b2.extBut _ _ Z.i1z q,a4.at fun o q=>b2.extBut _ _ Z.i2z q⟩,fun e he=>?_⟩
  rw[av (ai (lt he))]
  exact(hf e he).1
 done:=by
  intro X hP hw hK hc i pins s σ H E I hf st hg
  subst hP hw hK
  obtain⟨q1,q2,⟨c,d,q3⟩,q4,q5⟩:=st
  obtain⟨xs,ys,hq,hr,hx⟩:=hg
  obtain⟨its,rv,p,_⟩:=I.tuple hq
  obtain⟨jts,rw',p',_⟩:=I.list hr
  have l1:=rv.length
  have l2:=rw'.length
  refine qK (I.ok.hd hc) Z q1 q2 q3 q4 q5 (show s.heap.IsTuple a its.toArray from p) p'.isList (hx.imp (fun q=>by simp;omega) fun q=>by simp;omega) fun g hk=>⟨rfl,I.turns (t':=s.toks) (fp:=[z,TI,TO,i1,i2]) hf fun e o he q=>?_⟩
  simp only[List.mem_cons,List.not_mem_nil,or_false,not_or] at he
  exact hk e o he.1 he.2.2.1 he.2.2.2.1 he.2.2.2.2 q
 self:=fun _ _ _ _ _ st h=>wpAny_pyIter_zip st.1 h
noncomputable def BP(K:al)(tl:TA):TI:=fun σ H R=>tl σ H fun vs H1=>∃a b,vs=[.ref a,.ref b]∧(∃xs,eN K H1 a xs)∧(∃ys,du K H1 b ys)∧R (B7 K a b) H1
theorem xK{X:Cx}{k:Nat}{tp:Pos}{a b:Expr}{ta:TA}{p pos:Pos}(hg:Gl X "zip")(hm:X.mg "zip"=none)(ha:PA X [a,b] ta)(hs:starEach [a,b] X.env=(false,eval a X.env)::starEach [b] X.env)(hs2:starEach [b] X.env=[(false,eval b X.env)]):
  PI X (.Tuple elts k tp) (.Call (.Name "zip" p) [a,b] [] pos) (BP X.K ta):=by
 intro pins s σ H R I h
 refine Call_ (fL I hg hm boot_zip (aX (bz (ha pos pins s σ H _ I h) fun us s1 ⟨vs,H1,I1,r1,q1⟩=>?_) hs (by rw[hs2];rfl)))
 obtain⟨a,b,e,⟨xs,hq⟩,⟨ys,hr⟩,q⟩:=q1
 subst e
 cases r1 with
 |cons r rr=>
  cases rr with
  |cons r' rr=>
   cases rr
   cases r
   cases r'
   obtain⟨its,rv,pt,_⟩:=I1.tuple hq
   obtain⟨jts,rw',pl,_⟩:=I1.list hr
   have pt:s1.heap.IsTuple a its.toArray:=pt
   refine tN pt pl.isList fun g c1 c2 c3 c4 c5 hk=>?_
   refine wpAny_pyIter_zip c1 ?_
   have la:a<s1.heap.objs.size:=by obtain⟨o,e,_⟩:=pt;exact ah e
   have lb:b<s1.heap.objs.size:=by obtain⟨o,e,_⟩:=pl.isList;exact ah e
   refine⟨_,[s1.heap.objs.size+4,s1.heap.objs.size+2,s1.heap.objs.size+3,s1.heap.objs.size,s1.heap.objs.size+1],_,_,H1,rfl,I1.kept (t':=s1.toks) hk,q_ (PyProof.Rows.zipApart_new la lb),⟨c1,c2,⟨_,_,c3⟩,c4,c5⟩,fun e he=>?_,q⟩
   have he':s1.heap.objs.size≤e:=by
    simp only[List.mem_cons,List.not_mem_nil,or_false] at he
    rcases he with rfl|rfl|rfl|rfl|rfl<;>omega
   exact I1.fpOk he' (I1.hok.fresh he')
section
variable{prog:Program}{w:World}{A:Around}{E:Value→Shared→Prop}{s:Shared}
theorem kL{it t:Addr}{items:Array Value}(hne:t≠it):∀(n i:Nat)(s:Shared)(Q:List Value→Shared→Prop),s.heap.IsListIter it t i→s.heap.IsList t items→i+n≤items.size→
  (∀h',h'.IsListIter it t (i+n)→Heap.SameBut it s.heap h'→Q ((items.toList.drop i).take n) {s with heap:=h'})→wpAny (model prog w) A (draw (.ref it) n) Q E s
 |0,i,s,Q,hit,_,_,hQ=>by
  show wpAny _ _ (pure []) Q E s
  exact ae (by simpa using hQ s.heap hit (Heap.SameBut.refl ..))
 |n+1,i,s,Q,hit,ht,hle,hQ=>by
  have hlt:i<items.size:=by omega
  show wpAny _ _ (pyNext (.ref it)>>=_) Q E s
  refine aa (wpAny_pyNext_list_item hit ht (x:=items[i]) (by simp[hlt]) fun h₁ hit₁ hs₁=>?_)
  replace hs₁:Heap.SameBut it s.heap h₁:=hs₁
  refine aa (wpAny_holding (kL hne n (i+1) _ _ hit₁ (ht.at fun o e=>(hs₁.2 t hne).trans e) (by omega) fun h₂ hit₂ hs₂=>ae ?_))
  have hd:items.toList.drop i=items[i]::items.toList.drop (i+1):=by simp[List.drop_eq_getElem_cons,hlt]
  have:=hQ h₂ (by rw[show i+(n+1)=i+1+n by omega];exact hit₂) (hs₁.trans hs₂)
  rw[hd,List.take_succ_cons] at this
  exact this
theorem gY{items:Array Value}{Q:List Value→Shared→Prop}(hh:A.handled=none)(ht:s.heap.IsList t items)
  (hQ:∀h',Heap.ExtBut s.heap.objs.size s.heap h'→Q items.toList {s with heap:=h'}):wpAny (model prog w) A (unpackItems (.ref t) items.size none) Q E s:=by
 have hlt:t≠s.heap.objs.size:=by obtain⟨o,ho,_⟩:=ht;exact ai (ah ho)
 unfold unpackItems
 refine aa ?_
 ·unfold notIterableAtAll
  refine aa (wpAny_specialOf ht.typeIs slot_list_iter.lookup ?_)
  refine ae ?_
  simp only[Bool.false_eq_true,if_false]
  refine aa (wpAny_holding (wpAny_pyIter_list ht ?_))
  refine aa (wpAny_holding (kL hlt items.size 0 _ _ ⟨_,ak _ rfl,rfl,rfl⟩ (ht.at fun o e=>ac _ e) (by omega) fun h₁ hit₁ hs₁=>?_))
  have hall:List.take items.size (List.drop 0 items.toList)=items.toList:=by
   rw[List.drop_zero];exact List.take_of_length_le (by simp)
  rw[hall]
  rw[if_neg (by simp)]
  have ht₁:h₁.IsList t items:=ht.at fun o e=>(hs₁.2 t hlt).trans (ac _ e)
  refine aa (wpAny_holding (wpAny_pyNext_list_end hh hit₁ ht₁ (by simp) fun h₂ he₂=>?_))
  simp only[Option.isSome_none,Bool.false_eq_true,if_false]
  refine ae (hQ h₂ fun b o hb e=>he₂ b o hb (hs₁.extBut b o hb (ac _ e)))
theorem gU{env:Env}{x1}{pos:Pos}{items:Array Value}{Q:Unit→Shared→Prop}(hh:A.handled=none)(ht:s.heap.IsList t items)
  (hn:(assignEach elts env).length=items.size)(hstar:(assignEach elts env).findIdx? (·.1)=none)
  (h:∀h',Heap.ExtBut s.heap.objs.size s.heap h'→wpAny (model prog w) A (assignInOrder ((assignEach elts env).map (·.2)) items.toList) Q E {s with heap:=h'}):
  wpAny (model prog w) A (assign (.Tuple elts x1 pos) env (.ref t)) Q E s:=by
 rw[assign_Tuple]
 refine aa (wpAny_standAt ?_)
 unfold unpack
 rw[hn,hstar]
 exact aa (wpAny_holding (gY hh ht h))
end
section
variable{X:Cx}{pos:Pos}
noncomputable def Aq(K:al)(n:Nat)(t:t7):TG:=fun v σ H Q=>∃a xs,v=.ref a∧(du K H a xs∨eN K H a xs)∧xs.length=n∧t xs σ H Q
theorem se{es:List Expr}{k:Nat}{t:t7}{n:Nat}(hc:X.calm=true)(h:yT X es t)
  (hn:(assignEach es X.env).length=n)(hst:(assignEach es X.env).findIdx? (·.1)=none):PG X (.Tuple es k pos) (Aq X.K n t):=by
 intro pins s σ H v u Q I r hw
 obtain⟨a,xs,e1,hq,hl,hw⟩:=hw
 subst e1
 cases r
 rcases hq with hq|hq
 ·obtain⟨its,rv,ht,hz⟩:=I.list hq
  refine gU (I.ok.hd hc) ht.isList (by simp[hn,←hl,rv.length]) hst fun h' hx=>?_
  have I1:Inv X pins σ H {s with heap:=h'}:=I.kept (t':=s.toks) fun b o e=>hx b o (ai (ah e)) e
  exact h pins _ σ H xs _ Q I1 (by simpa using rv) hw
 ·obtain⟨its,rv,ht,hz⟩:=I.tuple hq
  refine assign_Tuple_tuple (I.ok.hd hc) ht (by simp[hn,←hl,rv.length]) hst fun h' hx=>?_
  have I1:Inv X pins σ H {s with heap:=h'}:=I.kept (t':=s.toks) fun b o e=>hx b o (ai (ah e)) e
  exact h pins _ σ H xs _ Q I1 (by simpa using rv) hw
end
theorem mo{k:Key}:∀{xs:List (Key×V)}{p:Key×V},eG xs k=none→¬p.1=k→eG (xs++[p]) k=none
 |[],p,_,h=>by rw[List.nil_append,dQ h];rfl
 |q::xs,p,h,hp=>by
  by_cases e:q.1=k
  ·rw[fC e] at h;cases h
  ·rw[dQ e] at h
   rw[List.cons_append,dQ e]
   exact mo h hp
theorem ik:∀(more kvs:List (Key×V)),(more.map (·.1)).Nodup→(∀k∈more.map (·.1),eG kvs k=none)→fH kvs more=kvs++more
 |[],kvs,_,_=>by show kvs=kvs++[];simp
 |p::r,kvs,hn,hd=>by
  rw[List.map_cons,List.nodup_cons] at hn
  show fH (putK kvs p.1 p.2) r=_
  rw[rS p.2 (hd p.1 (by simp)),ik r (kvs++[(p.1,p.2)]) hn.2 fun k hk=>?_]
  ·simp
  ·refine mo (hd k (by simp[List.mem_map] at hk ⊢;exact .inr hk)) fun e=>hn.1 (by rw[show p.1=k from e];exact hk)
end L2
namespace PySem
open Sem (wp)
open AutoSeq1 (wpAny_loadPart')
section
end
end PySem
namespace L2
open PySem PySem.Spec PyProof.Rows
theorem pZ{items acc:Array Value}(h:ItemsOf (fun i v=>items[items.size - 1 - i]? =some v) acc items.size):acc.toList=items.toList.reverse:=by
 obtain⟨h1,h2⟩:=h
 refine List.ext_getElem? fun j=>?_
 by_cases hj:j<acc.size
 ·have e:acc[j]? =some acc[j]:=by simp[hj]
  have q:=h2 j _ e
  rw[List.getElem?_reverse (by simpa[←h1] using hj)]
  rw[Array.getElem?_toList,e,Array.getElem?_toList,Array.length_toList,q]
 ·rw[bq (by simpa using hj),bq (by simp;omega)]
theorem bf.rev:∀{xs:List V}{us:List Value},bf xs us→bf xs.reverse us.reverse
 |_,_,.nil=>.nil
 |_,_,.cons r t=>by
  rw[List.reverse_cons,List.reverse_cons]
  exact(bf.rev t).append (.cons r .nil)
end L2
namespace PySem
open Sem (wp)
open AutoSeq1 (wpAny_loadPart')
variable{Q:Value→Shared→Prop}{it l t:Addr}
namespace F
theorem slot_rvo_next:Slot "reversed" "__next__" "reversed.__next__":=
 .of (owner:= "reversed") (n:= "__next__") (by rw[typeLookup_type,builtinLookup_eq_fast];kernel_rfl) (by decide+kernel) (by decide+kernel) (by decide+kernel)
  (by first|exact .inl (by decide+kernel)|exact .inr (by decide+kernel)) (by rw[isSubtype_type];kernel_rfl)
theorem gb:Slot "reversed" "__iter__" "reversed.__iter__":=
 .of (owner:= "reversed") (n:= "__iter__") (by rw[typeLookup_type,builtinLookup_eq_fast];kernel_rfl) (by decide+kernel) (by decide+kernel) (by decide+kernel)
  (by first|exact .inl (by decide+kernel)|exact .inr (by decide+kernel)) (by rw[isSubtype_type];kernel_rfl)
theorem slot_rvo_hint:Slot "reversed" "__length_hint__" "reversed.__length_hint__":=
 .of (owner:= "reversed") (n:= "__length_hint__") (by rw[typeLookup_type,builtinLookup_eq_fast];kernel_rfl) (by decide+kernel) (by decide+kernel) (by decide+kernel)
  (by first|exact .inl (by decide+kernel)|exact .inr (by decide+kernel)) (by rw[isSubtype_type];kernel_rfl)
theorem jU:Slot "reversed" "__init__" "object.__init__":=
 .of (owner:= "object") (n:= "__init__") (by rw[typeLookup_type,builtinLookup_eq_fast];kernel_rfl) (by decide+kernel) (by decide+kernel) (by decide+kernel)
  (by first|exact .inl (by decide+kernel)|exact .inr (by decide+kernel)) (by rw[isSubtype_type];kernel_rfl)
theorem fP:entryFor table "reversed.__next__"=some Builtin.«reversed.__next__»:=entryFor_of_tree (by kernel_rfl)
theorem jH:entryFor table "reversed.__length_hint__"=some Builtin.«reversed.__length_hint__»:=entryFor_of_tree (by kernel_rfl)
theorem jG:entryFor table "reversed.__iter__"=some Builtin.«dict_keyiterator.__iter__»:=
 entryFor_alias (id':= "dict_keyiterator.__iter__") (by kernel_rfl) (by first|rfl|decide+kernel|(unfold String.splitOn;simp+decide [String.splitOnAux])) (by decide+kernel) (by kernel_rfl)
theorem fh(a:Value):argsOk "reversed.__next__" ⟨[a],[]⟩:=by unfold argsOk;kernel_rfl
theorem iG(a:Value):argsOk "reversed.__iter__" ⟨[a],[]⟩:=by unfold argsOk;kernel_rfl
theorem iH(a:Value):argsOk "reversed.__length_hint__" ⟨[a],[]⟩:=by unfold argsOk;kernel_rfl
theorem jl:typeLookup (.type "reversed") "__len__"=pure none:=by rw[typeLookup_type,builtinLookup_eq_fast];kernel_rfl
theorem hX:typeLookup (.type "tuple") "__reversed__"=pure none:=by rw[typeLookup_type,builtinLookup_eq_fast];kernel_rfl
theorem iF:TypeCalled "reversed" "reversed.__new__" "object.__init__":=
 ⟨by decide+kernel,create_reversed,⟨_,_,mro_reversed⟩,made_reversed,plain_reversed_new,sub_reversed_self,jU⟩
end F
theorem _root_.PyProof.Rows.IsTup.at_{h h':Heap}{a:Addr}{items:Array Value}(x:PyProof.Rows.IsTup h a items)(e:∀o,h.get? a=some o→h'.get? a=some o):PyProof.Rows.IsTup h' a items:=let⟨o,ho,r⟩:=x;⟨o,e o ho,r⟩
noncomputable abbrev fR(h:Heap)(a t:Addr)(i:Int):Prop:=h.get? a=some {cls:= .type "reversed",dict:=none,data:= .fields #[.ref t,rawInt i],slots:= #[]}
theorem f7(t:Addr)(items:Array Value)(hf:(items.size:Int)<2^63):
  Meets (Builtin.«reversed.__new__» ⟨[.type "reversed",.ref t],[]⟩) (fun _ R s=>PyProof.Rows.IsTup s.heap t items∧
   R (.ok (.ret (.ref s.heap.objs.size))) {s with heap:=s.heap.push {cls:= .type "reversed",data:= .fields #[.ref t,rawInt ((items.size:Int) - 1)]},toks:=s.toks+1+1}):=
 .of_wp fun prog w A R s h=>by
  obtain⟨ht,h⟩:=h
  have hT:s.TypeIs (.ref t) "tuple":=ht.typeIs
  unfold Builtin.«reversed.__new__»
  refine aa (wpAny_of_eq (newClass_reversed _) ?_)
  try dsimp only
  refine aa (wpAny_of_eq (a:=()) (by first|rfl|kernel_rfl) ?_)
  refine aa (wpAny_of_eq (a:=()) (by first|rfl|kernel_rfl) ?_)
  try dsimp only
  refine aa (wpAny_specialOf hT F.hX ?_)
  try dsimp only
  refine aa ?_
  show wpAny _ _ (isInstance (.ref t) (.type "dict")>>=_) _ _ _
  refine aa (wpAny_isInstance (T:= "tuple") (b:=false) hT (by rw[isSubtype_type];kernel_rfl) ?_)
  try dsimp only
  rw[if_neg aq]
  refine aa (wpAny_specialOf hT F.slot_tuple_getitem.lookup ?_)
  try dsimp only
  rw[if_pos (by decide+kernel)]
  refine ae ?_
  try dsimp only
  rw[if_neg (by decide)]
  refine aa (PyProof.Rows.len_tuple ht hf ?_)
  refine aa (m:=asInt? _) (ae ?_)
  try dsimp only
  show wpAny _ _ (newObj (.type "reversed") (.fields #[.ref t,rawInt ((items.size:Int) - 1)])>>=_) _ _ _
  exact aa (wpAny_newObj_type (ae ⟨_,rfl,h⟩))
section
variable{prog:Program}{w:World}{A:Around}{E:Value→Shared→Prop}{s:Shared}
theorem gQ{items:Array Value}(ht:PyProof.Rows.IsTup s.heap t items)(hf:(items.size:Int)<2^63)
  (h:Q (.ref s.heap.objs.size) {s with heap:=s.heap.push {cls:= .type "reversed",data:= .fields #[.ref t,rawInt ((items.size:Int) - 1)]},toks:=s.toks+1+1}):wpAny (model prog w) A (call (.type "reversed") [.ref t]) Q E s:=
 callType_new F.iF (by decide) (F.typeCall_reversed_1 _) (F.newCall_reversed_1 _) (fun obj=>F.args_object_init_2 obj _) F.entry_reversed_new (f7 t items hf) ⟨ht,⟨_,ak _ rfl,rfl⟩,h⟩
theorem fi{i:Nat}{items:Array Value}{x:Value}{Q:Option Value→Shared→Prop}(hit:fR s.heap it t (i:Int))(ht:PyProof.Rows.IsTup s.heap t items)(hf:(items.size:Int)<2^63)(hx:items[i]? =some x)
  (hQ:∀h' tk,fR h' it t ((i:Int) - 1)→Heap.SameBut it s.heap h'→Q (some x) {s with heap:=h',toks:=tk}):wpAny (model prog w) A (pyNext (.ref it)) Q E s:=by
 have hT:s.TypeIs (.ref it) "reversed":=⟨_,hit,rfl⟩
 have hi:i<items.size:=by
  rcases Nat.lt_or_ge i items.size with h|h
  ·exact h
  ·rw[Array.getElem?_eq_none h] at hx;cases hx
 unfold pyNext
 refine aa (wpAny_attempt (wpAny_callSpecial?_slot (name:=Str.ofString "__next__") hT F.slot_rvo_next (wpAny_call_entry F.slot_rvo_next hT F.fP ?_ (F.fh _))))
 unfold Builtin.«reversed.__next__»
 refine aa (wpAny_of_eq (a:=(Value.ref it,[])) rfl ?_)
 try dsimp only
 refine aa (az hit rfl (x:= .ref t) rfl ?_)
 refine aa (az hit rfl (x:=rawInt (i:Int)) rfl ?_)
 show wpAny _ _ (if(i:Int)<0 then _ else _) _ _ s
 rw[if_neg (by omega)]
 refine aa (wpAny_specialOf ht.typeIs F.slot_tuple_getitem.lookup ?_)
 try dsimp only
 rw[if_neg (by decide)]
 refine aa (wpAny_mkInt ?_)
 refine aa (wpAny_attempt (PyProof.Rows.getItem_tuple (s:={s with toks:=s.toks+1}) (j:=i) (x:=x) ht (by omega) (by omega) (by unfold seqIndex?;simp;omega) hx ?_))
 try dsimp only
 refine aa (az (s:={s with toks:=s.toks+1}) hit rfl (x:=rawInt (i:Int)) rfl ?_)
 refine aa (aY (s:={s with toks:=s.toks+1}) hit (by simp) fun h₂ he₂ hs₂=>?_)
 exact ae ⟨x,rfl,ae (hQ h₂ _ he₂ hs₂)⟩
theorem fu{Q:Option Value→Shared→Prop}(hh:A.handled=none)(hit:fR s.heap it t (-1))
  (hQ:∀h',Heap.ExtBut it s.heap h'→Q none {s with heap:=h'}):wpAny (model prog w) A (pyNext (.ref it)) Q E s:=by
 have hT:s.TypeIs (.ref it) "reversed":=⟨_,hit,rfl⟩
 unfold pyNext
 refine aa (wpAny_attempt (wpAny_callSpecial?_slot (name:=Str.ofString "__next__") hT F.slot_rvo_next (wpAny_call_entry F.slot_rvo_next hT F.fP ?_ (F.fh _))))
 unfold Builtin.«reversed.__next__»
 refine aa (wpAny_of_eq (a:=(Value.ref it,[])) rfl ?_)
 try dsimp only
 refine aa (az hit rfl (x:= .ref t) rfl ?_)
 refine aa (az hit rfl (x:=rawInt (-1)) rfl ?_)
 show wpAny _ _ (if(-1:Int)<0 then _ else _) _ _ s
 rw[if_pos (by decide)]
 refine aa (wpAny_rule ?_)
 refine aa ?_
 show wpAny _ _ (setField (.ref it) 1 (rawInt (-1))>>=fun _=>setField (.ref it) 0 .none) _ _ s
 refine aa (aY hit (by simp) fun h₁ he₁ hs₁=>?_)
 refine aY (s:={s with heap:=h₁}) he₁ (by simp) fun h₂ he₂ hs₂=>?_
 first
 |show wpAny _ _ (newExc (.type "StopIteration") []>>=_) _ _ _
 |(refine aa ?_;show wpAny _ _ (newExc (.type "StopIteration") []>>=_) _ _ _)
 refine aa ?_
 simp only[newExc,newTuple]
 refine aa (wpAny_newObj_type ?_ (by size_fits))
 refine aa (m:=firstArgMember _ _) (wpAny_of_eq (a:=Value.none) (by first|rfl|(simp only[firstArgMember];rfl)) ?_)
 refine wpAny_newObj_type ?_ (by size_fits)
 simp only[raiseNew]
 refine aa (wpAny_handled ?_)
 first|rw[show A.in1.handled=none from hh]|rw[hh]
 refine aa (ae (wpAny_throw ?_))
 refine aa (wpAny_isInstance (T:= "StopIteration") (b:=true) ⟨_,ak _ rfl,rfl⟩ isSubtype_stop ?_)
 refine ae (hQ _ ?_)
 have e1:Heap.ExtBut it s.heap h₂:=fun b o hb e=>hs₂.extBut b o hb (hs₁.extBut b o hb e)
 exact(e1.push _).push _
theorem eF{i:Int}(hit:fR s.heap it t i)(h:Q (.ref it) s):wpAny (model prog w) A (pyIter (.ref it)) Q E s:=by
 have hT:s.TypeIs (.ref it) "reversed":=⟨_,hit,rfl⟩
 refine wpAny_pyIter_slot hT F.gb (wpAny_call_entry F.gb hT F.jG ?_ (F.iG _))
 show wpAny _ _ (ret (.ref it)) _ _ s
 exact ae ⟨_,rfl,"reversed",_,hT,F.slot_rvo_next.lookup,h⟩
end
theorem Walks.tupRev{prog:Program}{w:World}{A:Around}(hh:A.handled=none)(I l:Addr)(hne:l≠I)(items:Array Value)(hf:(items.size:Int)<2^63):
  Walks prog w A I [I,l] [I] items.size (fun i v=>items[items.size - 1 - i]? =some v) (fun i h=>i≤items.size∧fR h I l ((items.size:Int) - 1 - (i:Int))∧PyProof.Rows.IsTup h l items) where
 sub:=fun b hb=>by simp at hb;simp[hb]
 frame:=fun _ _ _ x hk=>⟨x.1,hk I (by simp) _ x.2.1,x.2.2.at_ fun o e=>hk l (by simp) o e⟩
 item:=fun i s Q E hi x hQ=>by
  have e:(items.size:Int) - 1 - (i:Int)=((items.size - 1 - i:Nat):Int):=by omega
  have hit:=x.2.1
  rw[e] at hit
  have hx:items[items.size - 1 - i]? =some (items[items.size - 1 - i]'(by omega)):=Array.getElem?_eq_getElem (by omega)
  refine fi hit x.2.2 hf hx fun h' tk hit' hs'=>?_
  have e2:((items.size - 1 - i:Nat):Int) - 1=(items.size:Int) - 1 - ((i+1:Nat):Int):=by omega
  rw[e2] at hit'
  exact hQ _ h' tk hx ⟨hi,hit',x.2.2.at_ fun o e=>(hs'.2 l hne).trans e⟩ fun b o hb eo=>hs'.extBut b o (fun h=>hb (by simp[h])) eo
 done:=fun s Q E x hQ=>by
  have e:(items.size:Int) - 1 - (items.size:Int)= -1:=by omega
  have hit:=x.2.1
  rw[e] at hit
  exact fu hh hit fun h' he'=>hQ h' s.toks fun b o hb eo=>he' b o (fun h=>hb (by simp[h])) eo
 self:=fun _ _ _ _ x hQ=>eF x.2.1 hQ
section
variable{prog:Program}{w:World}{A:Around}{E:Value→Shared→Prop}{s:Shared}
theorem iV{items:Array Value}{Q:Bool→Shared→Prop}(hit:fR s.heap it t ((items.size:Int) - 1))(ht:PyProof.Rows.IsTup s.heap t items)(hf:items.size≤2^24)(h:∀b tk,Q b {s with toks:=tk}):wpAny (model prog w) A (Builtin.List.listLengthHint (.ref it)) Q E s:=by
 have hT:s.TypeIs (.ref it) "reversed":=⟨_,hit,rfl⟩
 have sz:=sizeLine_eq
 unfold Builtin.List.listLengthHint
 refine aa (wpAny_specialOf hT F.jl ?_)
 dsimp only
 refine wpAny_ite_split (fun hab=>absurd hab (by decide)) (fun _=>?_)
 refine wpAny_ite_split (fun hab=>absurd hab (by decide)) (fun _=>?_)
 refine aa (wpAny_specialOf hT F.slot_rvo_hint.lookup ?_)
 dsimp only
 rw[show splitId "reversed.__length_hint__"=some ("reversed","__length_hint__") from by decide+kernel]
 dsimp only
 refine aa (wpAny_isInstance (T:= "reversed") (b:=true) hT (by rw[isSubtype_type];kernel_rfl) ?_)
 refine wpAny_ite_split (fun hab=>absurd hab (by decide)) (fun _=>?_)
 refine wpAny_ite_split (fun hab=>absurd hab (by decide+kernel)) (fun _=>?_)
 refine aa (wpAny_rule ?_)
 refine aa (wpAny_of_eq (F.slot_rvo_hint.bind _) ?_)
 dsimp only
 refine aa (wpAny_attempt (wpAny_call_entry F.slot_rvo_hint hT F.jH ?_ (F.iH _)))
 unfold Builtin.«reversed.__length_hint__»
 refine aa (wpAny_of_eq (a:=Value.ref it) rfl ?_)
 refine aa (az hit rfl (x:= .ref t) rfl ?_)
 show wpAny _ _ (if(Value.ref t==Value.none)=true then _ else _) _ _ s
 rw[if_neg (show ¬((Value.ref t==Value.none)=true) from aq)]
 refine aa (PyProof.Rows.len_tuple ht (by omega) ?_)
 refine aa (m:=asInt? _) (ae ?_)
 dsimp only
 refine aa (az (s:={s with toks:=s.toks+1+1}) hit rfl (x:=rawInt ((items.size:Int) - 1)) rfl ?_)
 show wpAny _ _ (if(items.size:Int)<(items.size:Int) - 1+1 then _ else _) _ _ _
 rw[if_neg (by omega)]
 refine aa (wpAny_mkInt (ae ⟨_,rfl,?_⟩))
 dsimp only
 refine aa (m:=asInt? _) (ae ?_)
 dsimp only
 rw[if_neg (by simp[Builtin.List.listFitsIndex];omega)]
 rw[if_neg (by omega)]
 rw[if_neg (by simp[Builtin.List.listTooLong];omega)]
 exact ae (h _ _)
theorem gX{R:Result→Shared→Prop}{items:Array Value}(hh:A.handled=none)(hit:fR s.heap it l ((items.size:Int) - 1))(hl:PyProof.Rows.IsTup s.heap l items)(hne:l≠it)
  (hlen:items.size≤2^24)(S:Addr)(res:Value) (c₀:Nat)(hS:s.heap.get? S=some {cls:= .type "list",data:= .seq #[] c₀}) (hSl:S≠l)
  (hR:∀h' tk acc' c',(∀b o,b≠S→b≠it→s.heap.get? b=some o→h'.get? b=some o)→h'.get? S=some {cls:= .type "list",dict:=none,data:= .seq acc' c',slots:= #[]}→
   ItemsOf (fun i v=>items[items.size - 1 - i]? =some v) acc' items.size→R (.ok (.ret res)) {s with heap:=h',toks:=tk}):
  wpAny (model prog w) A.in1 (Builtin.List.listExtendWith (.ref S) (.ref it) res)
   (fun fin s'=>match fin with| .done f=>R (.ok f) s'| .again c'=>c'.quiet=true∧codeAny (model prog w) A c' R s') (fun e s'=>R (.error e) s') s:=by
 have hSr:S≠it:=fun e=>by
  rw[e,hit] at hS
  exact absurd (show Value.type "reversed"=Value.type "list" from congrArg Obj.cls (ag hS)) (by decide)
 have hSf:S∉[it,l]:=fun hm=>by
  rcases List.mem_cons.mp hm with e|e
  ·exact hSr e
  ·exact hSl (by simpa using e)
 have W:=(Walks.tupRev (prog:=prog) (w:=w) (A:=A.in1) hh it l hne items (by omega))
 have st0:0≤items.size∧fR s.heap it l ((items.size:Int) - 1 - ((0:Nat):Int))∧PyProof.Rows.IsTup s.heap l items:=⟨Nat.zero_le _,by simpa using hit,hl⟩
 have key:∀(h:Heap)(c₁ tk:Nat),(0≤items.size∧fR h it l ((items.size:Int) - 1 - ((0:Nat):Int))∧PyProof.Rows.IsTup h l items)→(∀b o,b≠S→s.heap.get? b=some o→h.get? b=some o)→
   h.get? S=some {cls:= .type "list",data:= .seq #[] c₁}→codeAny (model prog w) A (.builtin "list.extend.loop" ⟨[.ref S,.ref it,res],[]⟩) R {s with heap:=h,toks:=tk}:=by
  intro h c₁ tk hst hk hS₁
  refine codeAny_extend_loopS W.toS (by rw[sizeLine_eq];omega) S hSf res items.size 0 _ #[] c₁ rfl (Nat.zero_le _) hst hS₁ (ItemsOf.nil _) fun s' acc' c' hm hS' hacc=>?_
  rw[Moved.eq_with hm]
  refine hR s'.heap s'.toks acc' c' (fun b o hb hb' e=>hm.heap b o (fun hmem=>?_) (hk b o hb e)) hS' hacc
  rcases List.mem_cons.mp hmem with e'|hmem
  ·exact hb e'
  ·exact hb' (by simpa using hmem)
 unfold Builtin.List.listExtendWith
 refine aa (wpAny_typeOf (T:= "reversed") ⟨_,hit,rfl⟩ ?_)
 have h1:Builtin.List.listSameRef (.ref S) (.ref it)=false:=by simp[Builtin.List.listSameRef,hSr]
 have h2:(Value.type "reversed"==Value.type "list")=false:=by decide
 have h3:(Value.type "reversed"==Value.type "tuple")=false:=by decide
 simp only[h1,h2,h3,Bool.or_false,Bool.false_eq_true,if_false]
 refine aa (eF hit ?_)
 refine aa (wpAny_holding (iV hit hl hlen fun b tk=>?_))
 refine wpAny_ite_split (fun _=>?_) (fun _=>ae ⟨plainId_quiet F.plain_extend_loop _,key _ c₀ _ st0 (fun b o _ e=>e) hS⟩)
 refine aa (wpAny_rule ?_)
 refine aa ?_
 show wpAny _ _ (updateSeq S (·.push .none)>>=fun _=>updateSeq S (·.pop)) _ _ _
 refine aa (wpAny_updateSeq (s:={s with toks:=tk}) hS rfl ?_)
 have hS₂:=Heap.get?_update_self (Obj.mapSeq (·.push Value.none)) hS rfl
 refine wpAny_updateSeq (hz:=by seq_fits) hS₂ rfl ?_
 have hS₃:=Heap.get?_update_self (Obj.mapSeq (·.pop)) hS₂ rfl
 have oth:∀b o,b≠S→s.heap.get? b=some o→((s.heap.update S (Obj.mapSeq (·.push Value.none))).update S (Obj.mapSeq (·.pop))).get? b=some o:=fun b o hb e=>
  (Heap.get?_update_other _ _ (Ne.symm hb)).trans ((Heap.get?_update_other _ _ (Ne.symm hb)).trans e)
 exact ae ⟨plainId_quiet F.plain_extend_loop _,key _ _ _ ⟨Nat.zero_le _,oth _ _ (Ne.symm hSr) st0.2.1,hl.at_ fun o e=>oth _ _ (Ne.symm hSl) e⟩ oth hS₃⟩
theorem f6{R:Result→Shared→Prop}{items:Array Value}(hh:A.handled=none)(hit:fR s.heap it l ((items.size:Int) - 1))(hl:PyProof.Rows.IsTup s.heap l items)(hne:l≠it)(hlen:items.size≤2^24)
  (S:Addr)(hS:s.heap.get? S=some {cls:= .type "list",data:= .seq #[]}) (hSl:S≠l)(hSr:S≠it)
  (hR:∀h' tk acc' c',(∀b o,b≠S→b≠it→s.heap.get? b=some o→h'.get? b=some o)→h'.get? S=some {cls:= .type "list",dict:=none,data:= .seq acc' c',slots:= #[]}→
   ItemsOf (fun i v=>items[items.size - 1 - i]? =some v) acc' items.size→R (.ok (.ret .none)) {s with heap:=h',toks:=tk}):
  wpAny (model prog w) A.in1 (Builtin.«list.__init__» ⟨[.ref S,.ref it],[]⟩)
   (fun fin s'=>match fin with| .done f=>R (.ok f) s'| .again c'=>c'.quiet=true∧codeAny (model prog w) A c' R s') (fun e s'=>R (.error e) s') s:=by
 show wpAny _ _ (do let old ←Builtin.List.listItems (.ref S);Builtin.List.listUpdate (.ref S) (fun _=> #[]);letGo old.toList.reverse;Builtin.List.listExtendWith (.ref S) (.ref it) .none) _ _ s
 refine aa ?_
 unfold Builtin.List.listItems
 refine aa (wpAny_seqItems hS rfl (ae ?_))
 show wpAny _ _ (updateSeq S (fun _=> #[])>>=fun _=>letGo (#[]:Array Value).toList.reverse>>=fun _=>Builtin.List.listExtendWith (.ref S) (.ref it) .none) _ _ s
 refine aa (wpAny_updateSeq hS rfl ?_)
 have hS₂:=Heap.get?_update_self (Obj.mapSeq (fun _=>(#[]:Array Value))) hS rfl
 have oth:∀b o,b≠S→s.heap.get? b=some o→(s.heap.update S (Obj.mapSeq (fun _=>(#[]:Array Value)))).get? b=some o:=
  fun b o hb e=>(Heap.get?_update_other _ _ (Ne.symm hb)).trans e
 refine aa (wpAny_letGo ?_)
 refine gX hh (oth it _ (Ne.symm hSr) hit) (hl.at_ fun o e=>oth l o (Ne.symm hSl) e) hne hlen S .none _ hS₂ hSl fun h' tk acc' c' hk hS' hacc=>?_
 exact hR h' tk acc' c' (fun b o hb hb' e=>hk b o hb hb' (oth b o hb e)) hS' hacc
theorem j7{items:Array Value}(hh:A.handled=none)(hit:fR s.heap it l ((items.size:Int) - 1))(hl:PyProof.Rows.IsTup s.heap l items)(hne:l≠it)(hlen:items.size≤2^24)
  (hQ:∀h' tk acc' c',(∀b o,b≠it→s.heap.get? b=some o→h'.get? b=some o)→
   h'.get? s.heap.objs.size=some {cls:= .type "list",dict:=none,data:= .seq acc' c',slots:= #[]}→ItemsOf (fun i v=>items[items.size - 1 - i]? =some v) acc' items.size→Q (.ref s.heap.objs.size) {s with heap:=h',toks:=tk}):
  wpAny (model prog w) A (call (.type "list") [.ref it]) Q E s:=by
 refine callType_codes (Q₁:=fun obj s₁=>obj=.ref s.heap.objs.size∧s₁={s with heap:=s.heap.push {cls:= .type "list",data:= .seq #[]}}) F.called_list (F.typeCall_list_1 _) F.entry_list_init
  (code_list_new _ ⟨rfl,rfl⟩) fun obj s₁ h₁=>?_
 obtain⟨rfl,rfl⟩:=h₁
 have hS:(s.heap.push {cls:= .type "list",data:= .seq #[]}).get? s.heap.objs.size=some {cls:= .type "list",data:= .seq #[]}:=ak _ rfl
 have h1:s.heap.objs.size≠l:=Ne.symm (ai hl.lt)
 have h2:s.heap.objs.size≠it:=Ne.symm (ai (ah hit))
 refine⟨⟨_,hS,rfl⟩,F.args_list_init_2 _ _,f6 (A:=A.in1) hh (ac _ hit) (hl.push _) hne hlen _ hS h1 h2 fun h' tk acc' c' hk hS' hacc=>?_⟩
 exact⟨rfl,hQ h' tk acc' c' (fun b o hb e=>hk b o (ai (ah e)) hb (ac _ e)) hS' hacc⟩
end
end PySem
namespace L2
open PySem PySem.Spec PyProof.Rows
noncomputable def zh(K:al)(ta:TE):TE:=fun σ H Q=>oW ta pV σ H fun vs H1=>∃l xs,vs=[.ref l]∧eN K H1 l xs∧∀p,H1 p=none→Q (.ref p) (bj H1 p (.lst xs.reverse))
theorem sj{X:Cx}{a:Expr}{ta:TE}{p1 p2 q1 q2:Pos}(hc:X.calm=true)(hg:Gl X "list")(hm:X.mg "list"=none)(hg2:Gl X "reversed")(hm2:X.mg "reversed"=none)(ha:PE X a ta)(hs:starEach [a] X.env=[(false,eval a X.env)]):
  PE X (.Call (.Name "list" p1) [.Call (.Name "reversed" p2) [a] [] q2] [] q1) (zh X.K ta):=by
 intro pins s σ H Q I h
 refine Call_ (fL I hg hm boot_list (aX ?_ rfl rfl))
 show wpAny _ _ (spliced ((false,eval (.Call (.Name "reversed" p2) [a] [] q2) X.env)::backTo q1 (starEach [] X.env))) _ _ s
 refine Calls.spliced_cons ?_
 refine Call_ (fL I hg2 hm2 boot_reversed (aX (bz ((bC ha c_ hs) q2 pins s σ H _ I h) fun us s1 hp=>?_) hs rfl))
 obtain⟨vs,H1,I1,r1,l,xs,e,hq,q⟩:=hp
 subst e
 obtain⟨u,rfl,ru⟩:=vals1 r1
 cases ru
 obtain⟨its,rv,p,hz⟩:=I1.tuple hq
 have sz:sizeLine=16777216:=sizeLine_eq
 have ll:=rv.length
 refine gQ p (by simp;omega) ?_
 refine Calls.spliced_nil ?_
 have lt:=p.lt
 refine j7 (items:=its.toArray) (it:=s1.heap.objs.size) (l:=l) (I.ok.hd hc) (ak _ rfl) (p.push _) (ai lt) (by simp;omega) fun h' tk acc c hk hS hacc=>?_
 have ea:=pZ hacc
 have hsz:(s1.heap.push {cls:= .type "reversed",data:= .fields #[.ref l,rawInt ((its.toArray.size:Int) - 1)]}).objs.size=s1.heap.objs.size+1:=Heap.size_push ..
 have hS':h'.get? (s1.heap.objs.size+1)=some {cls:= .type "list",dict:=none,data:= .seq acc c,slots:= #[]}:=by rw[←hsz];exact hS
 refine⟨.ref (s1.heap.objs.size+1),_,I1.laid (a:=s1.heap.objs.size+1) (o:= .lst xs.reverse) (t':=tk) (h':=h') (fun b o e=>?_) (Nat.le_succ _) ⟨by rw[List.length_reverse];exact hz,its.reverse,c,rv.rev,?_⟩,?_,q _ (I1.hok.fresh (Nat.le_succ _))⟩
 ·exact hk b o (ai (ah e)) (ac _ e)
 ·rw[hS']
  congr 3
  apply Array.ext'
  simpa using ea
 ·show Value.ref _=_
  rw[←hsz]
end L2
namespace PySem
open Sem (wp)
open AutoSeq1 (wpAny_loadPart')
namespace F
theorem eQ:plainId "dict.update.loop"=true:=by decide+kernel
theorem jF:entryFor table "dict.update.loop"=some Builtin.«dict.update.loop»:=entryFor_of_fast (by kernel_rfl)
theorem jZ:typeLookup (.type "list") "keys"=pure none:=by rw[typeLookup_type,builtinLookup_eq_fast];kernel_rfl
end F
section
variable{prog:Program}{w:World}{K:Type}[DecidableEq K]{kn:KeyKind prog w K}{A:Around}{E:Value→Shared→Prop}
noncomputable def oH(kn:KeyKind prog w K)(h:Heap)(items:Array Value)(ps:List (K×Value)):Prop:=
 items.size=ps.length∧∀(j:Nat)(x:K×Value),ps[j]? =some x→∃(t:Addr)(o:Obj)(n:Nat) (u:Value),items[j]? =some (.ref t)∧h.get? t=some o∧o.cls=.type "tuple" ∧o.data=.seq #[u,x.2] n∧kn.is x.1 u=true
noncomputable def ff(ps acc:List (K×Value)):List (K×Value):=ps.foldl (fun acc x=>stored acc x.1 x.2) acc
theorem kE:∀(ps acc:List (K×Value)),(ff ps acc).length≤acc.length+ps.length
 |[],acc=>by show acc.length≤_;omega
 |x::r,acc=>by
  have h1:=kE r (stored acc x.1 x.2)
  have h2:(stored acc x.1 x.2).length≤acc.length+1:=by unfold stored;split<;>simp
  show(ff r (stored acc x.1 x.2)).length≤_
  rw[List.length_cons];omega
theorem oq{ps acc:List (K×Value)}{x:K×Value}:ff (ps++[x]) acc=stored (ff ps acc) x.1 x.2:=by unfold ff;rw[List.foldl_append];rfl
theorem mG{R:Result→Shared→Prop}(hh:A.handled=none){h0:Heap}{d it l:Addr}(hd0:h0.get? d=none)(hi0:h0.get? it=none)(hdi:d≠it){items:Array Value}{ps:List (K×Value)}(hsz:items.size≤sizeLine)
  (hl:h0.IsList l items)(hp:oH kn h0 items ps):∀(k i:Nat)(s:Shared),items.size - i=k→i≤items.size→s.heap.IsListIter it l i→(∀b o,h0.get? b=some o→s.heap.get? b=some o)→s.heap.DictOf kn d (ff (ps.take i) [])→
  (∀h' tk,h'.DictOf kn d (ff ps [])→(∀b o,h0.get? b=some o→h'.get? b=some o)→R (.ok (.ret .none)) {s with heap:=h',toks:=tk})→
  codeAny (model prog w) A (.builtin "dict.update.loop" ⟨[.ref d,.ref it,rawInt i,.none],[]⟩) R s:=by
 have nd:∀{b:Addr}{o:Obj},h0.get? b=some o→b≠d:=fun e z=>by rw[z,hd0] at e;cases e
 have ni:∀{b:Addr}{o:Obj},h0.get? b=some o→b≠it:=fun e z=>by rw[z,hi0] at e;cases e
 intro k
 induction k with
 |zero=>
  intro i s hk hi hit kp hd hR
  have hin:i=items.size:=by omega
  subst hin
  refine codeAny_builtin F.jF ?_
  rw[Around.under_plainId F.eQ _]
  show wpAny _ A.in1 (pyNext (.ref it)>>=_) _ _ s
  refine aa (wpAny_pyNext_list_end hh hit (hl.at fun o e=>kp _ _ e) (by simp) fun h' eb=>?_)
  show wpAny _ _ (Builtin.Dict.addKeywords d []>>=_) _ _ _
  refine aa (ae (ae ?_))
  rw[hp.1,List.take_length] at hd
  exact hR h' s.toks (hd.at fun o e=>eb d o hdi e) (fun b o e=>eb b o (ni e) (kp b o e))
 |succ k ih=>
  intro i s hk hi hit kp hd hR
  have hlt:i<items.size:=by omega
  have hlp:i<ps.length:=by rw[←hp.1];exact hlt
  obtain⟨t,ot,nt,u,e1,e2,e3,e4,e5⟩:=hp.2 i ps[i] (by simp[hlp])
  refine codeAny_builtin F.jF ?_
  rw[Around.under_plainId F.eQ _]
  show wpAny _ A.in1 (pyNext (.ref it)>>=_) _ _ s
  refine aa (wpAny_pyNext_list_item hit (hl.at fun o e=>kp _ _ e) e1 fun h1 hit1 hs1=>?_)
  replace hs1:Heap.SameBut it s.heap h1:=hs1
  have kp1:∀b o,h0.get? b=some o→h1.get? b=some o:=fun b o e=>hs1.extBut b o (ni e) (kp b o e)
  have t1:h1.get? t=some ot:=kp1 t ot e2
  refine aa (wpAny_holding (aa (wpAny_tryCatch ?_)))
  unfold Builtin.Dict.pairItems
  refine aa (wpAny_typeOf (T:= "tuple") ⟨ot,t1,e3⟩ ?_)
  rw[if_pos (by decide)]
  refine aa (wpAny_seqItems t1 e4 (ae ?_))
  show wpAny _ _ (holding [u,ps[i].2] (dictSet d u ps[i].2)) _ _ _
  have hd1:h1.DictOf kn d (ff (ps.take i) []):=hd.at fun o e=>hs1.extBut d o hdi e
  have fl:=kE (ps.take i) ([]:List (K×Value))
  have hfl:(ff (ps.take i) []).length≤sizeLine:=by
   rw[List.length_take] at fl;simp at fl;omega
  refine wpAny_holding (wpAny_dictSet_pairs (s:={s with heap:=h1}) e5 hd1 (fun h2 hd2 hs2=>?_) hfl)
  replace hs2:Heap.SameBut d h1 h2:=hs2
  refine ae ⟨plainId_quiet F.eQ _,?_⟩
  have c1:((i+1:Nat):Int)=(i:Int)+1:=by omega
  have ht:ps.take (i+1)=ps.take i++[ps[i]]:=by rw[List.take_succ,aU hlp];rfl
  rw[←oq,←ht] at hd2
  have:=fun tk=>ih (i+1) {s with heap:=h2,toks:=tk} (by omega) (by omega) (hit1.at fun o q=>(hs2.2 it (Ne.symm hdi)).trans q) (fun b o e=>(hs2.2 b (nd e)).trans (kp1 b o e)) hd2 hR
  rw[c1] at this
  exact this _
theorem n9{s:Shared}{a:Addr}{xs:Array Value}{k:Nat}{Q:Option Value→Shared→Prop}(hx:s.heap.get? a=some {cls:= .type "list",data:= .seq xs k})(hA:A.handled=none)
  (h:∀h' tk,(∀b o,s.heap.get? b=some o→h'.get? b=some o)→Q none {s with heap:=h',toks:=tk}):wpAny (model prog w) A (getAttr? (.ref a) "keys") Q E s:=by
 obtain⟨hp,g,d,tk,os⟩:=s
 have hT:∀tk',(⟨hp,g,d,tk',os⟩:Shared).TypeIs (.ref a) "list":=fun _=>⟨_,hx,rfl⟩
 have f1:=sub_AttributeError
 have f3:=F.slot_list_getattribute.lookup
 have f4:=F.slot_list_getattribute.bind (.ref a)
 have f5:=am_list_getattr_none
 unfold getAttr? getAttrBy? getAttrBy
 repeat (any_goals (first|assumption|exact hT _|((with_reducible show wpAny _ _ (call (Value.builtin "list.__getattribute__") _ _) _ _ _);refine call_meets F.slot_list_getattribute (hT _) am_entry_list_getattribute (F.args_list_getattribute_2 _ _) (meets_getattribute_miss_list a xs k #[] "keys" _ F.jZ (by decide+kernel) (by size_fits)) ⟨hx,hA,fun h' tk' e hx'=>?_⟩)|wp_step))
 obtain⟨t',u',he⟩:=hx'.there
 show wpAny _ _ (getattributeRaised _ _ _ _ _ _ _) _ _ _
 unfold getattributeRaised
 repeat (any_goals (first|assumption|wp_step))
 exact h _ _ hx'.keeps
theorem jJ{s:Shared}{l:Addr}{items:Array Value}{c:Nat}{ps:List (K×Value)}{Q:Value→Shared→Prop}(hh:A.handled=none)(hl:s.heap.get? l=some {cls:= .type "list",data:= .seq items c})(hp:oH kn s.heap items ps)(hsz:items.size≤sizeLine)
  (hQ:∀h' tk,h'.DictOf kn s.heap.objs.size (ff ps [])→(∀b o,s.heap.get? b=some o→h'.get? b=some o)→Q (.ref s.heap.objs.size) {s with heap:=h',toks:=tk}):wpAny (model prog w) A (call (.type "dict") [.ref l]) Q E s:=by
 refine callType_codes (Q₁:=fun obj s₁=>obj=.ref s.heap.objs.size∧s₁={s with heap:=s.heap.push {cls:= .type "dict",data:= .dict #[]}}) F.kt_called_dict (F.kt_typeCall_dict_1 _) F.entry_dict_init (kt_code_dict_new _ ⟨rfl,rfl⟩) ?_
 rintro obj s₁ ⟨rfl,rfl⟩
 have hnew:(s.heap.push {cls:= .type "dict",data:= .dict #[]}).DictOf kn s.heap.objs.size []:=Heap.DictOf.new s.heap
 have g0:(s.heap.push {cls:= .type "dict",data:= .dict #[]}).get? s.heap.objs.size=some {cls:= .type "dict",data:= .dict #[]}:=ak _ rfl
 refine⟨hnew.typeIs,F.args_dict_init_2 _ _,?_⟩
 unfold Builtin.«dict.__init__» Builtin.Dict.selfAndRest
 refine aa (aa (wpAny_notOrdered_dict hnew.typeIs ?_))
 show wpAny _ _ (pure (s.heap.objs.size,[Value.ref l])) _ _ _
 refine ae ?_
 show wpAny _ _ (Builtin.Dict.updateFrom "dict.__init__" s.heap.objs.size (.ref l) [] .none) _ _ _
 unfold Builtin.Dict.updateFrom
 have hl':=ac {cls:= .type "dict",data:= .dict #[]} hl
 refine aa (wpAny_typeOf (T:= "list") ⟨_,hl',rfl⟩ ?_)
 rw[if_pos (by decide)]
 refine aa (n9 hl' hh fun h1 tk1 k1=>?_)
 simp only[Option.isNone_none,if_true]
 refine aa (wpAny_rule ?_)
 have hl1:h1.IsList l items:=⟨_,k1 _ _ hl',rfl,_,rfl⟩
 refine aa (wpAny_pyIter_list (s:={s with heap:=h1,toks:=tk1}) hl1 ?_)
 refine ae ⟨plainId_quiet F.eQ _,?_⟩
 have lt1:s.heap.objs.size<h1.objs.size:=ah (k1 _ _ g0)
 have no:∀{a:Addr},s.heap.objs.size≤a→s.heap.get? a=none:=fun h=>Heap.get?_none_of_le h
 refine mG (A:=A.in1) (kn:=kn) (h0:=s.heap) hh (no (af _)) (no (Nat.le_of_lt lt1)) (ai lt1) hsz ⟨_,hl,rfl,_,rfl⟩ hp items.size 0 _ (by omega) (by omega) ⟨_,ak _ rfl,rfl,rfl⟩
  (fun b o e=>ac _ (k1 b o (ac _ e))) (hnew.at fun o e=>ac _ (k1 _ o e)) fun h' tk a b=>⟨rfl,hQ h' tk a b⟩
end
end PySem
namespace L2
open PySem PySem.Spec PyProof.Rows
noncomputable def B5(K:al)(H:Hp):List (Key×V)→List V→Prop:=Paired fun p y=>∃t,y=.ref t∧eN K H t [kV p.1,p.2]
noncomputable def ou(ps:List (Key×V)):List (Key×V):=ps.foldl (fun acc p=>putK acc p.1 p.2) []
section
variable{X:Cx}{pins:List (Addr×Obj)}{s:Shared}{σ:St}{H:Hp}
theorem p_(I:Inv X pins σ H s){ps:List (Key×V)}{ys:List V}(r:B5 X.K H ps ys):∀{us:List Value},bf ys us→∃trs:List (Key×Value),oH (bD X.prog X.w) s.heap us.toArray trs∧KV ps trs:=by
 induction r with
 |nil=>intro us q;cases q;exact⟨[],⟨rfl,fun j x e=>by simp at e⟩,.nil⟩
 | @cons p y ps ys h1 t ih=>
  intro us q
  cases q with
  | @cons _ u _ us' q1 q2=>
   obtain⟨trs,⟨g1,g2⟩,g3⟩:=ih q2
   obtain⟨ta,rfl,hq⟩:=h1
   obtain rfl:u=Value.ref ta:=q1
   obtain⟨its,rv,⟨o,k1,k2,n,k3⟩,_⟩:=I.tuple hq
   cases rv with
   | @cons _ u1 _ its r1 rv=>
    cases rv with
    | @cons _ u2 _ its r2 rv=>
     cases rv
     refine⟨(p.1,u2)::trs,⟨by simpa using g1,fun j x e=>?_⟩,.cons ⟨rfl,r2⟩ g3⟩
     cases j with
     |zero=>
      cases e
      exact⟨ta,o,n,u1,by simp,k1,k2,k3,im r1⟩
     |succ j=>
      obtain⟨t',o',n',u',m1,m2⟩:=g2 j x (by simpa using e)
      exact⟨t',o',n',u',by simpa using m1,m2⟩
theorem vL{ps:List (Key×V)}{trs:List (Key×Value)}(r:KV ps trs):∀{acc:List (Key×V)}{xs:List (Key×Value)},KV acc xs→KV (ps.foldl (fun acc p=>putK acc p.1 p.2) acc) (ff trs xs):=by
 induction r with
 |nil=>intro acc xs q;exact q
 | @cons p q ps qs h t ih=>
  intro acc xs z
  show KV (ps.foldl _ (putK acc p.1 p.2)) (ff qs (stored xs q.1 q.2))
  have:=z.put p.1 h.2
  rw[h.1] at this ⊢
  exact ih this
theorem jB:∀(ps acc:List (Key×V)),(ps.foldl (fun acc p=>putK acc p.1 p.2) acc).length≤acc.length+ps.length
 |[],acc=>by simp
 |p::r,acc=>by
  have h1:=jB r (putK acc p.1 p.2)
  have h2:=dY acc p.1 p.2
  rw[List.foldl_cons,List.length_cons];omega
theorem oE(hc:X.calm=true):ei X (.type "dict") (fun xs H Q=>∃l ys ps,xs=[.ref l]∧H l=some (.lst ys)∧B5 X.K H ps ys∧∀p,H p=none→Q (.ref p) (bj H p (.dK (ou ps)))):=by
 intro pins s σ H xs us Q I r h
 obtain⟨l,ys,ps,rfl,e,hp,q⟩:=h
 obtain⟨u,rfl,rx⟩:=vals1 r
 cases rx
 obtain⟨z,its,m,rr,hlen,el⟩:=I.lstM e
 obtain⟨trs,h1,h2⟩:=p_ I hp rr
 have lp:=Paired.length hp
 have lr:=Paired.length rr
 refine jJ (I.ok.hd hc) el h1 (by rw[List.size_toArray];omega) fun h' tk dr kp=>?_
 have fr:H s.heap.objs.size=none:=I.hok.fresh (af _)
 have:=jB ps []
 refine⟨.ref s.heap.objs.size,_,I.laid (t':=tk) kp (af _) (l8 (by simp at this;omega) (beq_eq_false_iff_ne.mpr (bi I.big)) (vL h2 .nil) dr),rfl,q _ fr⟩
end
end L2
namespace PySem
open Sem (wp)
open Builtin
theorem hU:fillsNumberSlot (.type "tuple") "mul"=pure false:=
 fillsNumberSlot_seq (id:= "tuple.__mul__") (r:=some (.builtin "tuple.__rmul__")) F.slot_tuple_mul.lookup (by decide+kernel) F.slot_tuple_rmul.lookup (by decide+kernel)
theorem lG:seqRepeat? (.type "tuple")=pure (some (.builtin "tuple.__mul__")):=by
 unfold seqRepeat?
 rw[seqSlot_of (T:= "tuple") (name:= "__mul__") (id:= "tuple.__mul__") F.slot_tuple_mul.lookup (by decide+kernel),seqSlot_of (T:= "tuple") (name:= "__rmul__") (id:= "tuple.__rmul__") F.slot_tuple_rmul.lookup (by decide+kernel)]
 rfl
theorem fM(a:Int)(t:Tok)(l:Addr):
  Meets (Builtin.«int.__rmul__» ⟨[.int a t,.ref l],[]⟩) (fun _ R s=>s.TypeIs (.ref l) "tuple" ∧(∃its,PyProof.Rows.IsTup s.heap l its)∧R (.ok (.ret Value.notImplemented)) s):=
 .of_wp fun prog w A R s h=>by
  obtain⟨hp,g,d,tk,os⟩:=s
  obtain⟨hT,⟨its,⟨c,dd,dt,sl⟩,ho,hc,n,hd⟩,h⟩:=h
  replace hc:c=.type "tuple":=hc
  replace hd:dt=.seq its n:=hd
  subst hc hd
  have hl:=ho
  wp_walk
  exact⟨_,rfl,h⟩
theorem jT(t:Addr)(its:Array Value)(u:Tok):
  Meets (Builtin.«tuple.__mul__» ⟨[.ref t,.int 1 u],[]⟩) (fun _ R s=>PyProof.Rows.IsTup s.heap t its∧R (.ok (.ret (.ref t))) s):=
 .of_wp fun prog w A R s h=>by
  obtain⟨hp,g,d,tk,os⟩:=s
  obtain⟨⟨⟨c,dd,dt,sl⟩,ho,hc,n,hd⟩,h⟩:=h
  replace hc:c=.type "tuple":=hc
  replace hd:dt=.seq its n:=hd
  subst hc hd
  have hl:=ho
  wp_walk
  exact⟨_,rfl,h⟩
theorem i7(t:Addr)(its:Array Value)(k:Int)(u:Tok)(h1:2≤k)(h2:k≤1000)(h3:its.isEmpty=false)(h4:its.size≤1000):
  Meets (Builtin.«tuple.__mul__» ⟨[.ref t,.int k u],[]⟩) (fun _ R s=>PyProof.Rows.IsTup s.heap t its∧R (.ok (.ret (.ref s.heap.objs.size))) {s with heap:=s.heap.push {cls:= .type "tuple",data:= .seq ((List.replicate k.toNat its).foldl (· ++ ·) #[])}}):=
 .of_wp fun prog w A R s h=>by
  obtain⟨hp,g,d,tk,os⟩:=s
  obtain⟨⟨⟨c,dd,dt,sl⟩,ho,hc,n,hd⟩,h⟩:=h
  replace hc:c=.type "tuple":=hc
  replace hd:dt=.seq its n:=hd
  subst hc hd
  have hl:=ho
  have sz:=sizeLine_eq
  have hm:(its.size:Int)*k≤1000*1000:=by
   have a:(its.size:Int)*k≤(its.size:Int)*1000:=Int.mul_le_mul_of_nonneg_left h2 (by omega)
   have b:(its.size:Int)*1000≤1000*1000:=by omega
   omega
  have e1:(decide (k< -(2^63))||decide (k≥2^63))=false:=by simp;omega
  have e2:(its.isEmpty||k==1)=false:=by rw[h3];simp;omega
  have e3:(decide (k≤0)||its.isEmpty)=false:=by rw[h3];simp;omega
  have e4:Builtin.Tuple.tupleTooMany ((its.size:Int)*k)=false:=by simp[Builtin.Tuple.tupleTooMany];omega
  have e5:¬((its.size:Int)*k>(2^63 - 1) / 8):=by omega
  have hz:((List.replicate k.toNat its).foldl (· ++ ·) #[]).size≤sizeLine:=by
   have f:∀(m:Nat)(acc:Array Value),((List.replicate m its).foldl (· ++ ·) acc).size=acc.size+m*its.size:=by
    intro m
    induction m with
    |zero=>intro acc;simp
    |succ m ih=>intro acc;rw[List.replicate_succ,List.foldl_cons,ih,Array.size_append,Nat.succ_mul];omega
   rw[f]
   have:k.toNat*its.size≤1000*1000:=Nat.mul_le_mul (by omega) h4
   simp;omega
  show wpAny _ _ (do
   let n ←asIndex (.int k u)
   if n< -(2^63)||n≥2^63 then
    rule "tuple.repeat.overflow";raiseError "OverflowError" s!"cannot fit '{← typeNameOf (.int k u)}' into an index-sized integer"
   let xs ←Builtin.Tuple.tupleItemsOf (.ref t)
   if xs.isEmpty||n==1 then
    if ←Builtin.Tuple.tupleIsExact (.ref t) then rule "tuple.repeat.same-object";return ←ret (.ref t)
   if n≤0||xs.isEmpty then return ←ret (←Builtin.Tuple.tupleExact #[])
   if xs.size*n>(2^63 - 1) / 8 then rule "tuple.repeat.no-memory";raiseNew (←newExc (.type "MemoryError") [])
   if Builtin.Tuple.tupleTooMany (xs.size*n) then unsupported "tuple.__mul__:memory"
   ret (←Builtin.Tuple.tupleExact ((List.replicate n.toNat xs).foldl (· ++ ·) #[]))) _ _ _
  refine aa (wpAny_of_eq (a:=k) rfl ?_)
  simp only[e1,Bool.false_eq_true,if_false]
  refine aa (PyProof.Rows.tupleItemsOf_ ⟨_,ho,rfl,_,rfl⟩ ?_)
  simp only[e2,e3,e4,Bool.false_eq_true,if_false]
  simp only[if_neg e5]
  exact aa (wpAny_newObj_type (ae ⟨_,rfl,h⟩) (by exact hz))
end PySem
namespace L2
open PySem PySem.Spec PyProof.Rows
noncomputable def zT(K:al):R2:=fun x y H Q=>∃a k xs,x=.ref a∧y=.int k∧eN K H a xs∧1≤k∧k≤1000∧xs≠[]∧xs.length≤1000∧(k=1→Q (.ref a) H)∧(k≠1→∀p,H p=none→Q (.ref p) (bj H p (.tup (List.replicate k.toNat xs).flatten)))
theorem vC{X:Cx}:iA X (binaryOp .Mult) (zT X.K):=by
 intro pins s σ H x y v u Q I rx ry h
 obtain⟨a,k,xs,rfl,rfl,ha,h1,h2,hx,hz,q1,q2⟩:=h
 cases rx
 obtain⟨t,rfl⟩:=ry
 obtain⟨its,r,p,_⟩:=I.tuple ha
 have sz:=sizeLine_eq
 have hl:=r.length
 refine wpAny_binaryOp_repeat_ref (T:= "tuple") (U:= "int") (by decide) p.typeIs (fun s'=>typeIs_int s' k t) hU F.fills_int_mul F.slot_int_rmul lG F.slot_int_index.lookup
  (call_meets F.slot_int_rmul (typeIs_int s k t) F.entry_int_rmul (F.args_int_rmul_2 _ _) (fM k t a) ⟨p.typeIs,⟨_,p⟩,rfl,p.typeIs,?_⟩)
 by_cases hk:k=1
 ·subst hk
  exact call_meets F.slot_tuple_mul p.typeIs F.entry_tuple_mul (F.args_tuple_mul_2 _ _) (jT a its.toArray t) ⟨p,.ref a,H,I,rfl,q1 rfl⟩
 ·have hne:its.toArray.isEmpty=false:=by
   cases its with
   |nil=>cases xs with
    |nil=>exact absurd rfl hx
    |cons=>simp at hl
   |cons=>rfl
  refine call_meets F.slot_tuple_mul p.typeIs F.entry_tuple_mul (F.args_tuple_mul_2 _ _) (i7 a its.toArray k t (by omega) h2 hne (by simp;omega)) ⟨p,?_⟩
  have f0:List.foldl (fun x1 x2=>x1++x2) #[] (List.replicate k.toNat its.toArray)=(List.replicate k.toNat its).flatten.toArray:=by
   have:=foldl_rep its k.toNat []
   rw[List.nil_append] at this
   exact this
  rw[f0]
  refine⟨.ref s.heap.objs.size,_,I.laid (t':=s.toks) (o:= .tup (List.replicate k.toNat xs).flatten) (fun b ob q=>ac _ q) (af _) ?_,rfl,q2 hk _ (I.hok.fresh (af _))⟩
  refine⟨?_,_,r.rep k.toNat,IsTup.new _ _⟩
  rw[len_rep]
  have:k.toNat*xs.length≤1000*1000:=Nat.mul_le_mul (by omega) hz
  omega
theorem hW(l b:Addr)(items:Array Value)(n:Nat)(items2:Array Value)(n2:Nat)(hz:items.size+items2.size≤sizeLine):
  Meets (Builtin.«list.extend» {pos:=[.ref l,.ref b]}) fun _ R s=>∃ob,s.heap.get? l=some {cls:= .type "list",data:= .seq items n}∧s.heap.get? b=some ob∧ob.cls=.type "tuple" ∧ob.data=.seq items2 n2∧
   R (.ok (.ret .none)) {s with heap:=s.heap.update l (Obj.mapSeq fun x=>x++items2)}:=by
 intro prog w A R s ⟨ob,hl,hb,hc,hd,hR⟩
 unfold Builtin.«list.extend»
 refine aa ?_
 refine ae (a:=(Value.ref l,Value.ref b)) ?_
 show wpAny _ _ (Builtin.List.listExtendWith (.ref l) (.ref b) .none) _ _ _
 unfold Builtin.List.listExtendWith
 refine aa (wpAny_typeOf_ref hb ?_)
 rw[hc]
 rw[if_pos (by simp)]
 refine aa (listItems_at hb hd ?_)
 refine aa (listItems_at hl rfl ?_)
 rw[if_neg (by rw[jg hz];simp)]
 refine aa (listUpdate_at hl rfl ?_ (by omega) (by simp;omega))
 exact ae hR
section
variable{X:Cx}
noncomputable def rR(K:al):V→List V→Hp→VK→Prop:=fun x vs H Q=>∃l b xs zs,x=.ref l∧vs=[.ref b]∧H l=some (.lst xs)∧(H b=some (.lst zs)∨eN K H b zs)∧xs.length+zs.length≤sizeLine∧Q .non (bj H l (.lst (xs++zs)))
theorem nZ:A5 X "list.extend" (rR X.K):=by
 intro pins s σ H x vs v us Q I rx rv h
 obtain⟨l,b,xs,zs,rfl,rfl,hH,hB,hz,q⟩:=h
 rcases hB with hB|hB
 ·exact qe pins s σ H _ _ v us Q I rx rv ⟨l,b,xs,zs,rfl,rfl,hH,hB,hz,q⟩
 ·cases rx
  obtain⟨u,rfl,ru⟩:=rv.one
  cases ru
  obtain⟨z,its,n,r,hl,e⟩:=I.lstM hH
  obtain⟨its2,r2,⟨ob,ho,hc,n2,hd⟩,z2⟩:=I.tuple hB
  have hl2:=r2.length
  refine call_meets F.slot_list_extend ⟨_,e,rfl⟩ F.entry_list_extend (F.args_list_extend_2 _ _)
   (hW l b its.toArray n its2.toArray n2 (by rw[List.size_toArray,List.size_toArray];omega)) ⟨ob,e,ho,hc,hd,?_⟩
  refine⟨.non,_,I.lset (its':=its++its2) hH e (by simp) (r.append r2) ?_,rfl,q⟩
  rw[aC]
  omega
end
end L2
set_option maxHeartbeats 1000000
namespace Ev
open PySem PySem.W Builtin Builtin.ObjectAttr
variable{vs:Array Value}{base h:Heap}{L a e fI:Addr}{o oe:Obj}{Q:Unit→Shared→Prop}{outer:List Env}
section
variable{prog:Program}{w:World}{A:Around}{E:Value→Shared→Prop}{s:Shared}{K:Frag}{x C:Addr}{ox:Obj}{od:Option Obj}{name:Str}{expr fill:Bool}{Q:Value→Shared→Prop}{tk:Tok}
noncomputable def l6:List Value→Bool
 | .ref _::r=>l6 r
 |l=>l==[.type "ValueError",.type "Exception",.type "BaseException",.type "object"]
theorem kF(self:Value):∀{l:List Value},l6 l=true→refuseLoop self "__setattr__" l=pure ()
 | .ref c::r,e=>by rw[refuseLoop_ref];exact kF self e
 |[],e=>by cases e
 | .type n::r,e=>by rw[show Value.type n::r=[.type "ValueError",.type "Exception",.type "BaseException",.type "object"] from beq_iff_eq.mp e];exact F.store_ValueError.passes self
 | .none::r,e=>by cases(show Value.none::r=_ from beq_iff_eq.mp e)
 | .bool _::r,e=>by cases(show Value.bool _::r=_ from beq_iff_eq.mp e)
 | .int _ _::r,e=>by cases(show Value.int _ _::r=_ from beq_iff_eq.mp e)
 | .float _ _::r,e=>by cases(show Value.float _ _::r=_ from beq_iff_eq.mp e)
 | .str _ _::r,e=>by cases(show Value.str _ _::r=_ from beq_iff_eq.mp e)
 | .bytes _ _::r,e=>by cases(show Value.bytes _ _::r=_ from beq_iff_eq.mp e)
 | .builtin _::r,e=>by cases(show Value.builtin _::r=_ from beq_iff_eq.mp e)
 | .notImplemented::r,e=>by cases(show Value.notImplemented::r=_ from beq_iff_eq.mp e)
structure ECls(K:Frag)(C:Addr):Prop where
 ga:findIn K (.ref C) "__getattribute__"=some (some (.builtin "BaseException.__getattribute__"))
 gh:findIn K (.ref C) "__getattr__"=some none
 sa:findIn K (.ref C) "__setattr__"=some (some (.builtin "object.__setattr__"))
 base:mroIn K C (.type "BaseException")=some true
 obj:mroIn K C (.type "object")=some true
 hd:hasDictIn K C=true
 cl:findIn K (.ref C) "__class__"=some (some (.builtin "object.__class__"))
 cg:specialIn K (.builtin "object.__class__") "__get__"=some (some (.builtin "getset_descriptor.__get__"))
 ct:takesIn K (.builtin "object.__class__")=some true
 po:(clsIn K C).any (fun cd=>l6 cd.mro)=true
theorem tj(e:ECls K C)(X:K.In s.heap)(I:InstAt s.heap x ox C od)
  (h:wpAny (model prog w) A.in1 (Builtin.«object.__getattribute__» ⟨[.ref x,.str name tk],[]⟩) (fun fin s'=>match fin with| .done (.ret v)=>wpAny (model prog w) A (handedOut v) Q E s'| .done _=>False| .again c=>c.quiet=true∧codeAny (model prog w) A c (fun r s'=>match r with| .ok (.ret v)=>wpAny (model prog w) A (handedOut v) Q E s'|_=>False) s') (fun _ _=>False) s):
  wpAny (model prog w) A (getAttrBy (.ref x) (.str name tk) fill expr) Q E s:=by
 obtain⟨hh,g,d,t,os⟩:=s
 have L0:=I.type (M:=model prog w)
 have L1:=looks_findIn (M:=model prog w) X e.ga
 have L2:=looks_findIn (M:=model prog w) X e.gh
 have f3:=F.attr_ValueError.ga.bind (.ref x)
 unfold getAttrBy
 refine wpAny_holding (aa (L0.at (aa (L1.at ?_))))
 show wpAny _ _ (if(onTheHeap (Value.ref C)&&Value.builtin "BaseException.__getattribute__"==Value.builtin "object.__getattribute__")=true then _ else _) _ _ _
 rw[show(onTheHeap (Value.ref C)&&Value.builtin "BaseException.__getattribute__"==Value.builtin "object.__getattribute__")=false by rw[show(Value.builtin "BaseException.__getattribute__"==Value.builtin "object.__getattribute__")=false by decide+kernel];rfl]
 rw[if_neg aq]
 unfold getAttrByItsOwn
 refine aa ?_
 show wpAny _ _ (typeLookup (.ref C) "__getattr__") _ _ _
 refine L2.at ?_
 refine aa (wpAny_attempt (wpAny_holding ?_))
 unfold callGetattribute
 rw[show(expr&&onTheHeap (Value.builtin "BaseException.__getattribute__"))=false by cases expr<;>rfl,if_neg aq]
 unfold boundAndCalled
 rw[f3]
 refine aa (ae (wpAny_call ?_))
 have hk:builtinKind "BaseException.__getattribute__"=some .slot:=by decide+kernel
 have hsp:splitId "BaseException.__getattribute__"=some ("BaseException","__getattribute__"):=by decide+kernel
 have sub:Looks (model prog w) hh (isInstance (.ref x) (.type "BaseException")) true:=L0.andThen (looks_mroIn X e.base)
 refine codeAny_call_builtin F.attr_ValueError.ga.plain F.entry_bexc_ga (check_slot (M:=model prog w) (s:=⟨hh,g,d,t,os⟩) (i:= "BaseException.__getattribute__") (owner:= "BaseException") hk hsp sub (F.args_bexc_ga (.ref x) (.str name tk)) ?_)
 refine aA h (fun fin s' z=>?_) fun _ _ z=>z.elim
 cases fin with
 |done f=>
  cases f with
  |ret v=>exact z
  |_=>exact z.elim
 |again c=>
  refine⟨z.1,codeAny_mono z.2 fun r s2 z2=>?_⟩
  rcases r with e|(v|_|_|_)<;>first|exact z2|exact z2.elim
theorem vW{v:Value}(e:ECls K C)(X:K.In s.heap)(I:InstAt s.heap x ox C od)(hf:findObj K C od name=some (.value v))(hh:handedIn v=true)(h:Q v {s with toks:=s.toks+1}):
  wpAny (model prog w) A (getAttr (.ref x) name expr) Q E s:=by
 unfold getAttr
 refine aa (wpAny_mkText (tj (s:={s with toks:=s.toks+1}) e X I ?_))
 obtain⟨h0,g,d,t,os⟩:=s
 have L0:=I.type (M:=model prog w)
 have L1:=looks_find (M:=model prog w) X I hf
 unfold Builtin.«object.__getattribute__» slotArgs
 refine aa ?_
 refine ae ?_
 refine aa (ae (aa (L0.at (aa (L1.at ?_)))))
 refine ae ?_
 show wpAny _ _ (handedOut v) _ _ _
 rw[handedOut_of hh]
 exact ae h
theorem qr{Q:Option Value→Shared→Prop}(e:ECls K C)(X:K.In s.heap)(I:InstAt s.heap x ox C od)(h:Q (some (.ref C)) {s with toks:=s.toks+1}):wpAny (model prog w) A (getAttr? (.ref x) "__class__") Q E s:=by
 have hf:findObj K C od "__class__"=some (.bind (.builtin "getset_descriptor.__get__") (.builtin "object.__class__")):=by
  obtain⟨cd,hc,_⟩:=any_some e.hd
  unfold findObj
  rw[hc,Option.bind_some,e.cl,Option.bind_some]
  simp[e.cg,e.ct]
 unfold getAttr? getAttrBy?
 refine aa (wpAny_mkText (aa (wpAny_attempt (tj (s:={s with toks:=s.toks+1}) e X I ?_))))
 obtain⟨h0,g,d,t,os⟩:=s
 have L0:=I.type (M:=model prog w)
 have L1:=looks_find (M:=model prog w) X I hf
 unfold Builtin.«object.__getattribute__» slotArgs
 refine aa ?_
 refine ae ?_
 refine aa (ae (aa (L0.at (aa (L1.at ?_)))))
 show wpAny _ _ (holding [Value.builtin "object.__class__"] (call (.builtin "getset_descriptor.__get__") [.builtin "object.__class__",.ref x,.ref C])>>=ret) _ _ _
 refine aa (wpAny_holding (wpAny_call (class_get (s:=⟨h0,g,d,t+1,os⟩) X I e.obj (ae ?_))))
 show wpAny _ _ (handedOut (.ref C)) _ _ _
 exact ae (ae h)
variable{R:Result→Shared→Prop}{v:Value}
theorem pI(e:ECls K C)(X:K.In s.heap)(I:InstAt s.heap x ox C od)(ht:findIn K (.ref C) name=some none)
  (h:wpAny (model prog w) A.in1 (storeInOwnDict (.ref x) (.ref C) (.str name tk) name v false) (fun fin s'=>match fin with| .done f=>R (.ok f) s'| .again c'=>c'.quiet=true∧codeAny (model prog w) A c' R s') (fun e s'=>R (.error e) s') s):
  codeAny (model prog w) A (.call (.builtin "object.__setattr__") ⟨[.ref x,.str name tk,v],[]⟩) R s:=by
 have SF:=F.store_ValueError
 obtain⟨cd,hc,ho⟩:=any_some e.po
 have sub:Looks (model prog w) s.heap (isInstance (.ref x) (.type "object")) true:=I.type.andThen (looks_mroIn X e.obj)
 refine codeAny_call_builtin SF.slot.plain SF.entry (@check_slot (model prog w) _ _ s "object.__setattr__" "object" "__setattr__" (.ref x) [.str name tk,v] [] _ SF.kind SF.split sub (SF.args (.ref x) (.str name tk) v) ?_)
 have hm:Looks (model prog w) s.heap (mroOf (.ref C)) cd.mro:=(looks_clsIn X hc).andThen .now
 rw[osa_eq,refuse_eq]
 refine aa (aa (I.type.here (aa (hm.here ?_))))
 rw[kF _ ho]
 refine ae (aa (I.type.here (aa ((looks_findIn X ht).here (aa (ae ?_))))))
 exact h
theorem s_{Q:Unit→Shared→Prop}(e:ECls K C)(X:K.In s.heap)(hx:s.heap.get? x=some ox)(hc:ox.cls=.ref C)(hd:ox.dict=none)(hdt:ox.data=.fields vs)(ht:findIn K (.ref C) name=some none)
  (h:∀h',h'.Ns1 s.heap.objs.size (fun y=>if y=name then some v else none)→h'.get? x=some {ox with dict:=some s.heap.objs.size}→(∀b o,b≠x→s.heap.get? b=some o→h'.get? b=some o)→Q () {s with heap:=h',toks:=s.toks+2}):
  wpAny (model prog w) A (setAttr (.ref x) name v) Q E s:=by
 have I:InstAt s.heap x ox C none:=⟨hx,hc,by unfold notCls;rw[hdt],by rw[hd];trivial⟩
 refine set_plain X I e.sa (pI (s:={s with toks:=s.toks+1}) e X I ht ?_)
 obtain⟨cd,hcd,hdd⟩:=any_some e.hd
 refine aa (ae (aa ?_))
 show wpAny _ _ (instanceDict x true) _ _ _
 unfold instanceDict
 refine aa (wpAny_loadPart hx ?_)
 rw[hc]
 refine aa (Looks.here (s:={s with toks:=s.toks+1}) (looks_clsIn X hcd) ?_)
 rw[hdd,hd]
 simp only[Bool.not_true,Bool.false_eq_true,if_false,typeHasDict,Bool.or_self]
 rw[hdt]
 have hx₁:(s.heap.push {cls:= .type "dict",data:= .dict #[]}).get? x=some ox:=ac _ hx
 have hne:x≠s.heap.objs.size:=ai (ah hx)
 refine aa (wpAny_alloc' (aa (wpAny_update' hx₁ ?_)))
 refine ae ?_
 have gd:((s.heap.push {cls:= .type "dict",data:= .dict #[]}).update x fun o=>{o with dict:=some s.heap.objs.size}).get? s.heap.objs.size=some {cls:= .type "dict",data:= .dict #[]}:=
  (Heap.get?_update_ne _ _ _ _ hne.symm).trans (Heap.get?_push_at rfl rfl)
 have nd:((s.heap.push {cls:= .type "dict",data:= .dict #[]}).update x fun o=>{o with dict:=some s.heap.objs.size}).Ns s.heap.objs.size (fun _=>none):=⟨_,#[],_,gd,rfl,fun e he=>absurd he (by simp),fun _=>rfl⟩
 show wpAny _ _ (storeInDict s.heap.objs.size (.str name s.toks) name v) _ _ _
 unfold storeInDict newKeyGuard
 refine aa (ae (aa (wpAny_nsSet1 (Heap.Ns1.of_empty nd) fun h' hn hs=>?_)))
 obtain⟨oD,eD,pD,gD,dD,cD⟩:=hn.count (Within.cons name v Within.nil)
 refine aa (wpAny_lookBehind gD (by rw[dD];exact pastItsLine_dict (aI cD (by rw[List.length_cons,List.length_nil,sizeLine_eq];omega))) ?_)
 refine ae (h h' hn ?_ fun b o hb q=>?_)
 ·refine(hs.2 x hne).trans (Heap.get?_update_self _ hx₁ ?_)
  obtain⟨a1,a2,a3,a4⟩:=ox
  cases hdt
  rfl
 ·exact(hs.2 b (ai (ah q))).trans ((Heap.get?_update_ne _ _ _ _ hb).trans (ac _ q))
theorem sZ{Q:Unit→Shared→Prop}{dx:Addr}{mA:Str→Option Value}{ns:List Str}(e:ECls K C)(X:K.In s.heap)(hx:s.heap.get? x=some ox)(hc:ox.cls=.ref C)(hd:ox.dict=some dx)(hdt:ox.data=.fields vs)(hn:s.heap.Ns1 dx mA)(hw:Within mA ns)(hz:ns.length≤sizeLine)(ht:findIn K (.ref C) name=some none)
  (h:∀h',h'.Ns1 dx (fun y=>if y=name then some v else mA y)→Heap.SameBut dx s.heap h'→Q () {s with heap:=h',toks:=s.toks+2}):
  wpAny (model prog w) A (setAttr (.ref x) name v) Q E s:=by
 have I:InstAt s.heap x ox C (some (Classical.choose hn)):=⟨hx,hc,by unfold notCls;rw[hdt],by rw[hd];obtain⟨_,_,q,_⟩:=Classical.choose_spec hn;exact q⟩
 refine set_plain X I e.sa (pI (s:={s with toks:=s.toks+1}) e X I ht ?_)
 obtain⟨cd,hcd,hdd⟩:=any_some e.hd
 refine aa (ae (aa ?_))
 show wpAny _ _ (instanceDict x true) _ _ _
 unfold instanceDict
 refine aa (wpAny_loadPart hx ?_)
 rw[hc]
 refine aa (Looks.here (s:={s with toks:=s.toks+1}) (looks_clsIn X hcd) ?_)
 rw[hdd,hd]
 refine ae ?_
 show wpAny _ _ (storeInDict dx (.str name s.toks) name v) _ _ _
 unfold storeInDict newKeyGuard
 refine aa (ae (aa (wpAny_nsSet1 (s:={s with toks:=s.toks+1}) hn fun h' hn' hs=>?_)))
 obtain⟨oD,eD,pD,gD,dD,cD⟩:=hn'.count (Within.cons name v hw)
 refine aa (wpAny_lookBehind gD (by rw[dD];exact pastItsLine_dict (aI cD (by rw[List.length_cons];omega))) ?_)
 exact ae (h h' hn' hs)
noncomputable def lB(K:Frag)(N:Addr):Bool:=match K.lookup N with
 |some ⟨_,_,.dict es _,_⟩=>es.toList.all fun y=>match y.key with| .str _ _=>true|_=>false
 |_=>false
theorem Ag{N:Addr}{n:Str}(X:K.In h)(hs:lB K N=true)(hn:nsIn K N n=some none):∃m,h.Ns N m∧m n=none:=by
 unfold lB at hs
 unfold nsIn at hn
 split at hs
 ·rename_i c d es k sl q
  rw[q] at hn
  refine⟨nsFind es,⟨_,es,k,X _ _ q,rfl,fun y hy=>?_,fun _=>rfl⟩,?_⟩
  ·have:=List.all_eq_true.mp hs y (Array.mem_toList_iff.mpr hy)
   split at this
   ·rename_i a b z;exact⟨a,b,z⟩
   ·cases this
  ·dsimp only at hn
   split at hn
   ·cases hn
   ·rename_i z
    unfold nsFind findBy
    rw[←Array.find?_toList,z]
    rfl
 ·cases hs
noncomputable abbrev ur:List Value:=[.type "ValueError",.type "Exception",.type "BaseException",.type "object"]
structure EMk(K:Frag)(C:Addr):Prop where
 ob:∃(nm q:Str)(N S:Addr)(bs:List Value)(hdct:Bool)(sn:List Str) (sub:List Value)(ab:Bool)(col:Option Bool) (dd:Option Addr)(k0 k1 k2 k3 k5:Option Value)(c0:Value) (d0:Option Addr)(cd:ClassData)(sl:Array (Option Value)),
  K.lookup C=some (excClassObj nm q C N bs (.ref S::ur) hdct sn sub ab col dd k0 k1 k2 k3 k5 "ValueError.__new__")∧K.lookup S=some ⟨c0,d0,.cls cd,sl⟩∧lB K cd.ns=true∧nsIn K cd.ns "__init__"=some none
noncomputable abbrev dN(us:List Value):Obj:={cls:= .type "tuple",data:= .seq us.toArray}
noncomputable abbrev eP(C t:Addr):Obj:={cls:= .ref C,data:= .fields #[.ref t,.none,.none,.none,.bool false,.none]}
theorem j6{us:List Value}{Q:Fin→Shared→Prop}{g:Array GenState}{d:Drawn}{t:Nat}{os:OsState}(m:EMk K C)(X:K.In h)(hi:findIn K (.ref C) "__init__"=some (some (.ref fI)))(hf:typeIn K (.ref fI)=some (.type "function"))(hz:us.length≤sizeLine)
  (hq:wpAny (model prog w) A (call (.ref fI) (.ref (h.objs.size+1)::us)) (fun r s'=>r=.none∧Q (.done (.ret (.ref (h.objs.size+1)))) s') E ⟨(h.push (dN us)).push (eP C h.objs.size),g,d,t,os⟩):
  wpAny (model prog w) A (Builtin.«type.__call__» ⟨.ref C::us,[]⟩) Q E ⟨h,g,d,t,os⟩:=by
 obtain⟨nm,q,N,S,bs,hdct,sn,sub,ab,col,dd,k0,k1,k2,k3,k5,c0,d0,cd,sl,kC,kS,sd,ni⟩:=m.ob
 have hC:=X _ _ kC
 obtain⟨mS,nS,zS⟩:=Ag X sd ni
 have T:OwnTail h ur (.ref S::ur):= .own (X _ _ kS) nS zS .base
 have FV:=F.excBase_ValueError
 repeat (first|with_reducible refine wpAny_loadPart_at hC ?_|with_reducible refine wpAny_madeBy_exc hC ?_|wp_step)
 refine codeAny_call_builtin_code (Code.quiet_builtin _ FV.quiet) (wpAny_check_new_subU FV FV.hasB T hC (codeAny_exc_new_subU FV FV.hasB FV T hC ?_ hz))
 show wpAny _ _ _ _ _ _
 have keep:∀b o,h.get? b=some o→((h.push (dN us)).push (eP C h.objs.size)).get? b=some o:=fun b o z=>ac _ (ac _ z)
 have gE:((h.push (dN us)).push (eP C h.objs.size)).get? (h.objs.size+1)=some (eP C h.objs.size):=by heap_get
 have X1:=X.keeps keep
 have cc:(Value.ref C:: .ref S::ur).contains (.ref C)=true:=by simp
 unfold isInstance
 repeat (first|with_reducible refine wpAny_loadPart_at gE ?_|(with_reducible refine wpAny_isSubtype_exc (keep _ _ hC) ?_;rw[cc])|wp_step)
 show wpAny _ _ (typeLookup (.ref C) _) _ _ _
 refine(looks_findIn X1 hi).at ?_
 refine wpAny_holding (aa ((bind_fn X1 (.ref (h.objs.size+1)) hf).at ?_))
 refine aa (aA hq (fun r s' z=>?_) fun _ _ z=>z)
 obtain⟨rfl,z⟩:=z
 wp_walk
 exact z
theorem vV{us:List Value}(m:EMk K C)(X:K.In s.heap)(hi:findIn K (.ref C) "__init__"=some (some (.ref fI)))(hf:typeIn K (.ref fI)=some (.type "function"))(hz:us.length≤sizeLine)
  (hq:wpAny (model prog w) (A.under (.builtin "type.__call__" ⟨.ref C::us,[]⟩)) (call (.ref fI) (.ref (s.heap.objs.size+1)::us)) (fun r s'=>r=.none∧Q (.ref (s.heap.objs.size+1)) s') E {s with heap:=(s.heap.push (dN us)).push (eP C s.heap.objs.size)}):
  wpAny (model prog w) A (call (.ref C) us) Q E s:=by
 obtain⟨h,g,d,t,os⟩:=s
 have hob:=m.ob
 obtain⟨nm,q,N,S,bs,hdct,sn,sub,ab,col,dd,k0,k1,k2,k3,k5,c0,d0,cd,sl,kC,kS,sd,ni⟩:=m.ob
 have hC:=X _ _ kC
 have f1:=tc_lookup
 have f2:=tc_bind (.ref C)
 have hT:(⟨h,g,d,t,os⟩:Shared).TypeIs (.ref C) "type":=⟨_,hC,rfl⟩
 refine wpAny_call (codeAny_of_tree ?_)
 show wpAny _ _ (callAny (.ref C) _) _ _ _
 repeat (any_goals (first|assumption|with_reducible refine wpAny_loadPart_at hC ?_|wp_step))
 refine⟨rfl,codeAny_call_builtin_at (Code.quiet_builtin _ (by decide+kernel)) entry_typeCall (wpAny_check_type_call_sub hC (j6 m X hi hf hz ?_))⟩
 exact hq
theorem qp{y:Sem Value}{env:Env}{Q:Flow→Shared→Prop}(hh:A.handled=none)
  (h:wpAny (model prog w) A y (fun v s₁=>∃a D d vs sl,v=.ref a∧K.In s₁.heap∧EMk K D∧mroIn K D (.type "BaseException")=some true∧s₁.heap.get? a=some ⟨.ref D,d,.fields vs,sl⟩∧vs[1]? =some .none∧E (.ref a) s₁) E s):
  wpAny (model prog w) A (raiseStmt env (some y) none) Q E s:=by
 unfold raiseStmt
 refine aa (aA h (fun v s₁ h₁=>?_) fun _ _ z=>z)
 obtain⟨a,D,d,vs,sl,rfl,X,m,mb,he,h1,hE⟩:=h₁
 obtain⟨hp,g,dr,tk,os⟩:=s₁
 obtain⟨nm,q,N,S,bs,hdct,sn,sub,ab,col,dd,k0,k1,k2,k3,k5,c0,d0,cd,sl0,kC,kS,sd,ni⟩:=m.ob
 have hC:=X _ _ kC
 have LB:=looks_mroIn (M:=model prog w) X mb
 repeat (first|with_reducible refine wpAny_loadPart_at he ?_|with_reducible refine wpAny_loadPart_at hC ?_|with_reducible refine LB.at ?_|with_reducible refine az he rfl h1 ?_|wp_step)
 exact wpAny_raiseNew_none hh hE
structure ECat(K:Frag)(D:Addr):Prop where
 ob:∃d cd sl,K.lookup D=some ⟨.type "type",d,.cls cd,sl⟩
 base:mroIn K D (.type "BaseException")=some true
theorem m6{D:Addr}{Q:Bool→Shared→Prop}{M:Model}(X:K.In s.heap)(c:ECat K D)(ho:s.heap.get? a=some o)(hc:o.cls=.ref C)(hs:mroIn K C (.ref D)=some true)(h:Q true s):wpAny M A (excMatches (.ref a) (.ref D)) Q E s:=by
 obtain⟨hp,g,dr,tk,os⟩:=s
 obtain⟨d,cd,sl,kD⟩:=c.ob
 have hD:=X _ _ kD
 have f:=tc_notTuple
 have LB:=looks_mroIn (M:=M) X c.base
 have LS:=looks_mroIn (M:=M) X hs
 unfold excMatches
 repeat (first|(with_reducible refine wpAny_loadPart_at ho ?_;rw[hc])|with_reducible refine wpAny_loadPart_at hD ?_|with_reducible refine LB.at ?_|with_reducible refine LS.at ?_|wp_step)
 exact h
theorem ow{D:Addr}{t:Expr}{n:Str}{b₀:Stmt}{suite:List Stmt}{pos:Pos}{rest:List ExceptHandler}{Q:Flow→Shared→Prop}{env:Env}(c:ECat K D)(hs:mroIn K C (.ref D)=some true)
  (h:wpAny (model prog w) (A.mark (some (.ref a))) (eval t env) (fun v s₁=>v=.ref D∧K.In s₁.heap∧(∃o,s₁.heap.get? a=some o∧o.cls=.ref C)∧
   wpAny (model prog w) (A.mark (some (.ref a))) (setFlight (.ref a) none) (fun _ s₂=>wpAny (model prog w) (A.mark (some (.ref a))) (storeName env n (.ref a)) (fun _ s₃=>
    wpAny (model prog w) (A.mark (some (.ref a))) (execs (b₀::suite) env) (fun f s₄=>wpAny (model prog w) A (do bindName env n .none;unbindBehindTheSuite env n pos) (fun _ s₅=>Q f s₅) E s₄) (fun _ _=>False) s₃) (fun _ _=>False) s₂) (fun _ _=>False) s₁) (fun _ _=>False) s):
  wpAny (model prog w) A (handleBy (.ref a) env (.ExceptHandler (some t) (some n) (b₀::suite) pos::rest)) Q E s:=by
 refine wpAny_handleBy_cons (codeAny_handlers_test (aA h (fun v s₁ z=>?_) fun _ _ z=>z.elim)) (by intro z;cases z)
 obtain⟨rfl,X,⟨o,ho,hc⟩,k⟩:=z
 refine m6 X c ho hc hs (codeAny_handlers_suite_as ?_)
 refine aA k (fun _ s₂ z=>aA z (fun _ s₃ z=>aA z (fun f s₄ z=>z) fun _ _ z=>z.elim) fun _ _ z=>z.elim) fun _ _ z=>z.elim
end
open PySem PySem.W
theorem ip{α:Type}(p:α→Bool):∀(l:List α)(i:Nat),(∀x,l[i]? =some x→p x=false)→(l.eraseIdx i).find? p=l.find? p
 |[],_,_=>rfl
 |x::l,0,h=>by
  have:p x=false:=h x rfl
  rw[List.eraseIdx_cons_zero,List.find?_cons,this]
 |x::l,i+1,h=>by
  rw[List.eraseIdx_cons_succ,List.find?_cons,List.find?_cons,ip p l i fun y hy=>h y (by simpa using hy)]
section
variable{M:Model}{A:Around}{E:Value→Shared→Prop}{s:Shared}{env:Env}
theorem jX{es:Array DictEntry}{name y:Str}{i:Nat}(hi:es.findIdx? (fun e=>e.key.isStr name)=some i)(hk:StrKeys es)(hy:y≠name):nsFind (es.eraseIdxIfInBounds i) y=nsFind es y:=by
 obtain⟨hlt,hp,_⟩:=Array.findIdx?_eq_some_iff_getElem.mp hi
 unfold nsFind findBy
 rw[←Array.find?_toList,←Array.find?_toList]
 have e:(es.eraseIdxIfInBounds i).toList=es.toList.eraseIdx i:=by
  unfold Array.eraseIdxIfInBounds
  rw[dif_pos hlt,Array.toList_eraseIdx]
 rw[e,ip]
 intro x hx
 have hx':es[i]=x:=by
  have:es.toList[i]? =some es[i]:=by simp[hlt]
  rw[this] at hx
  exact ag hx
 obtain⟨n,t,q⟩:=hk x (by rw[←hx'];exact Array.getElem_mem hlt)
 rw[hx',q] at hp
 rw[q]
 have hn:n=name:=by simpa[Value.isStr] using hp
 simp[Value.isStr,hn]
 exact fun z=>hy z.symm
theorem x6{m:Str→Option Value}{name:Str}{Q:Bool→Shared→Prop}(hn:s.heap.Ns a m)(hs:(m name).isSome=true)
  (hQ:∀h' m',h'.Ns a m'→(∀y,y≠name→m' y=m y)→Heap.SameBut a s.heap h'→Q true {s with heap:=h'}):wpAny M A (nsDel a name) Q E s:=by
 obtain⟨o,es,ep,ho,hd,hk,hm⟩:=id hn
 have hfound:∃i,es.findIdx? (fun e=>e.key.isStr name)=some i:=by
  cases q:es.findIdx? (fun e=>e.key.isStr name) with
  |some i=>exact⟨i,rfl⟩
  |none=>
   rw[←hm name] at hs
   unfold nsFind at hs
   rw[findBy_of_findIdx?,q] at hs
   cases hs
 obtain⟨i,hi⟩:=hfound
 obtain⟨hlt,hp,_⟩:=Array.findIdx?_eq_some_iff_getElem.mp hi
 have hall:(es.any fun e=>e.key.isStr name)=true:=Array.any_eq_true.mpr ⟨i,hlt,hp⟩
 have hhas:nsHas name o=pure true:=by
  rw[nsHas_eq]
  unfold nsHasByArray
  rw[hd]
  dsimp only
  rw[hall]
  rfl
 unfold nsDel
 refine aa (wpAny_loadPart ho ?_)
 rw[hhas]
 refine aa (ae (aa (wpAny_updatePart ho (ae ?_))))
 obtain⟨cl,d,dt,sl⟩:=o
 cases hd
 refine hQ _ (nsFind (es.eraseIdxIfInBounds i)) ⟨⟨cl,d,.dict (es.eraseIdxIfInBounds i) (ep+1),sl⟩,_,ep+1,?_,rfl,hk.erase i,fun _=>rfl⟩ (fun y hy=>?_) (Heap.SameBut.update ..)
 ·rw[Heap.get?_update_self _ ho (by simp only[Obj.dropName_eq,Obj.dropNameByArray,hi]<;>rfl)]
  simp only[Obj.dropName_eq,Obj.dropNameByArray,hi]
 ·rw[jX hi hk hy,hm y]
theorem ku{n:Str}{pos:Pos}{m:Str→Option Value}(hl:env.kindOf n=some .local)(hn:s.heap.Ns env.locals m)
  (hp:(env.scope.kind== .class||(env.scope.kind== .module&&env.locals !=env.globals))=false)
  (h:∀h' m',h'.Ns env.locals m'→(∀y,y≠n→m' y=m y)→Heap.SameBut env.locals s.heap h'→Q () {s with heap:=h',toks:=s.toks+1}):
  wpAny M A (do bindName env n .none;unbindBehindTheSuite env n pos) Q E s:=by
 refine aa (wpAny_bindName (wpAny_storeName_local hl hn (fun h1 hn1 hs1=>?_) hp))
 unfold unbindBehindTheSuite
 refine wpAny_onRaise ?_
 unfold unbindName
 refine aa (wpAny_point (aa ?_))
 unfold deleteName
 simp only[hl,hp]
 rw[if_neg (by decide)]
 refine aa (x6 hn1 (by simp) fun h2 m2 hn2 k2 hs2=>?_)
 simp only[Bool.not_true,Bool.false_eq_true,if_false]
 exact ae (wpAny_point (h h2 m2 hn2 (fun y hy=>by rw[k2 y hy,if_neg hy]) (hs1.trans hs2)))
end
open PySem
section
variable{M:Model}{A:Around}{E:Value→Shared→Prop}{s:Shared}
noncomputable abbrev BR(l:List Env):List Addr:=l.filterMap (·.frame)
structure Noted(l:List Env)(e T:Addr)(oe:Obj)(fl:Value)(h h':Heap):Prop where
 at_:h'.get? e=some (oe.mapFields (·.setIfInBounds 1 (.ref T)))
 new:h.objs.size≤T
 tr:∃oT ts,h'.get? T=some oT∧oT.data=.fields ts∧ts[3]? =some fl
 keep:∀b o,b∉BR l→b≠e→h.get? b=some o→h'.get? b=some o
 slot:∀b o,b≠e→h.get? b=some o→∃sl,h'.get? b=some {o with slots:=sl}
theorem mJ{env:Env}{head:Value}{hadNext:Bool}
  (hfr:A.frames=some (env::outer))(hl:s.heap.FunFrames base (env::outer))(hf:env.frame=some L)(he:s.heap.get? e=some oe)(hd:oe.data=.fields vs)(hsz:1<vs.size)
  (h:∀h' T,Noted (env::outer) e T oe (rawInt L) s.heap h'→Q () {s with heap:=h'}):
  wpAny M A (do let a ←frameOf env;let pl ←entryPlaceOf L hadNext;let b ←EntryCells.newEntry head a .none (rawInt L) .none pl;setField (.ref e) 1 b) Q E s:=by
 have ne:e∉BR (env::outer):=fun hm=>by
  obtain⟨_,o,ho,hnf⟩:=hl.mem hm
  rw[he] at ho
  cases ho
  exact hnf vs hd
 refine aa (wpAny_frameOf_fun hfr hl hf fun h1 hs1=>aa (wpAny_entryPlaceOf fun pl hpl=>?_))
 unfold EntryCells.newEntry newFields
 refine aa (wpAny_newObj_type ?_ (hpl.sizeOk5 _ _ _ _ _))
 have he1:h1.get? e=some oe:=(hs1.2.1 e ne).trans he
 have he2:=ac (h:=h1) {cls:= .type "traceback",dict:=none,data:= .fields ([head,.ref L,.none,rawInt L,.none]++(if pl.isEmpty then List.replicate 6 Value.none else pl)).toArray} he1
 have hTe:h1.objs.size≠e:=bi (ah he1)
 refine wpAny_setField he2 hd hsz (h _ h1.objs.size ⟨?_,Nat.le_of_eq hs1.1.symm,?_,fun b o hb hbe hh=>?_,fun b o hbe hh=>?_⟩)
 ·exact Heap.get?_update_self _ he2 (Obj.isFreed_of_fields (Obj.data_mapFields hd _))
 ·refine⟨_,_,(Heap.get?_update_other _ _ hTe.symm).trans (ak h1 rfl),rfl,?_⟩
  first|(simp;done)|(rcases hpl with rfl|⟨_,_,_,_,_,_,_,rfl⟩<;>simp)
 ·rw[Heap.get?_update_other _ _ (Ne.symm hbe)]
  exact ac _ ((hs1.2.1 b hb).trans hh)
 ·obtain⟨sl,q⟩:=hs1.2.2 b o hh
  exact⟨sl,(Heap.get?_update_other _ _ (Ne.symm hbe)).trans (ac _ q)⟩
noncomputable def B_(n:Nat)(e:Addr)(oe:Obj)(h:Heap):Prop:=
 ∃vs,oe.data=.fields vs∧1<vs.size∧(vs[1]? =some .none∨∃T oT ts,vs[1]? =some (.ref T)∧n≤T∧T≠e∧h.get? T=some oT∧oT.data=.fields ts∧ts[3]? =some .none)
theorem mB{ts:Array Value}{i:Nat}{v:Value}(hd:o.data=.fields ts)(h:ts[i]? =some v):o.mapFields (·.setIfInBounds i v)=o:=by
 obtain⟨c,d,dt,sl⟩:=o
 cases hd
 have:ts.setIfInBounds i v=ts:=by
  apply Array.ext
  ·simp
  ·intro j h1 h2
   rw[Array.getElem_setIfInBounds]
   split
   ·rename_i hj
    subst hj
    obtain⟨_,q⟩:=Array.getElem?_eq_some_iff.mp h
    exact q.symm
   ·rfl
 show Obj.mk c d (.fields (ts.setIfInBounds i v)) sl=_
 rw[this]
theorem mY{env:Env}{n:Nat}
  (hfr:A.frames=some (env::outer))(hl:s.heap.FunFrames base (env::outer))(hf:env.frame=some L)(he:s.heap.get? e=some oe)(hy:B_ n e oe s.heap)
  (h:∀h' T,Noted (env::outer) e T oe (rawInt L) s.heap h'→Q () {s with heap:=h'}):wpAny M A (noteFrame (.ref e) env) Q E s:=by
 obtain⟨vs,hd,hsz,hv⟩:=hy
 unfold noteFrame
 simp only[hf]
 rcases hv with h1|⟨T,oT,ts,h1,hnT,hTe,hT,hdT,h3⟩
 ·refine aa (az he hd h1 ?_)
  rw[if_neg (by decide)]
  exact mJ hfr hl hf he hd hsz h
 ·refine aa (az he hd h1 ?_)
  rw[if_pos (show(Value.ref T !=Value.none)=true from by simp)]
  refine aa (az hT hdT h3 ?_)
  rw[if_neg (show ¬((Value.none==rawInt L)=true) from by simp[rawInt])]
  refine aa (wpAny_setField hT hdT (Array.getElem?_eq_some_iff.mp h3).1 ?_)
  have sameT:(s.heap.update T (Obj.mapFields (·.setIfInBounds 3 Value.none))).get? T=some oT:=by
   rw[Heap.get?_update_self _ hT (Obj.isFreed_of_fields (Obj.data_mapFields hdT _))]
   exact congrArg some (mB hdT h3)
  have same:∀b o,s.heap.get? b=some o→(s.heap.update T (Obj.mapFields (·.setIfInBounds 3 Value.none))).get? b=some o:=fun b o q=>by
   by_cases hb:b=T
   ·subst hb;rw[sameT,←hT,q]
   ·exact(Heap.get?_update_other _ _ (Ne.symm hb)).trans q
  refine mJ (s:={s with heap:=s.heap.update T (Obj.mapFields (·.setIfInBounds 3 Value.none))}) hfr (hl.of_keeps fun b o q _=>⟨o,same b o q,rfl⟩) hf (same e oe he) hd hsz fun h' T' z=>h h' T' ⟨z.at_,?_,z.tr,fun b o hb hbe q=>z.keep b o hb hbe (same b o q),fun b o hbe q=>z.slot b o hbe (same b o q)⟩
  have:=z.new
  simpa using this
theorem jz{l:List Env}{T:Addr}{fl:Value}(hd:oe.data=.fields vs)(hsz:1<vs.size)(he:h.get? e=some oe)(z:Noted l e T oe fl h s.heap)
  (hQ:∀h',Noted l e T oe .none h h'→Q () {s with heap:=h'}):wpAny M A (setFlight (.ref e) none) Q E s:=by
 obtain⟨oT,ts,hT,hdT,h3⟩:=z.tr
 have hTe:T≠e:=fun q=>by subst q;exact absurd (ao (ah he) z.new) (bg _)
 have hd3:=Obj.data_mapFields hd (·.setIfInBounds 1 (Value.ref T))
 unfold setFlight
 refine aa (az z.at_ hd3 (x:= .ref T) (by simp[hsz]) ?_)
 rw[if_pos (show(Value.ref T !=Value.none)=true from by simp)]
 have hs3:3<ts.size:=(Array.getElem?_eq_some_iff.mp h3).1
 have nT:∀b o,h.get? b=some o→b≠T:=fun b o q w=>by subst w;exact absurd (ao (ah q) z.new) (bg _)
 refine wpAny_setField hT hdT hs3 (hQ _ ⟨(Heap.get?_update_other _ _ hTe).trans z.at_,z.new,⟨_,_,Heap.get?_update_self _ hT (Obj.isFreed_of_fields (Obj.data_mapFields hdT _)),Obj.data_mapFields hdT _,by simp[hs3]⟩,fun b o hb hbe q=>?_,fun b o hbe q=>?_⟩)
 ·exact(Heap.get?_update_other _ _ (Ne.symm (nT b o q))).trans (z.keep b o hb hbe q)
 ·obtain⟨sl,w⟩:=z.slot b o hbe q
  exact⟨sl,(Heap.get?_update_other _ _ (Ne.symm (nT b o q))).trans w⟩
theorem ql{env:Env}{n:Nat}
  (hfr:A.frames=some (env::outer))(hl:s.heap.FunFrames base (env::outer))(hf:env.frame=some L)(he:s.heap.get? e=some oe)(hy:B_ n e oe s.heap)
  (h:∀h' T,Noted (env::outer) e T oe .none s.heap h'→Q () {s with heap:=h'}):wpAny M A (leaving env (.ref e)) Q E s:=by
 unfold leaving
 refine aa (mY hfr hl hf he hy fun h1 T z=>?_)
 obtain⟨vs,hd,hsz,_⟩:=hy
 exact jz (s:={s with heap:=h1}) hd hsz he z fun h2 z2=>h h2 T z2
end
end Ev
set_option maxHeartbeats 4000000
namespace PySem
open Sem (wp)
open AutoSeq1 (wpAny_loadPart')
namespace F
end F
section
end
end PySem
namespace L2
open PySem PySem.Spec PyProof.Rows
end L2
namespace Ev
open PySem PySem.Spec PyProof.Rows L2
variable{vs xs ys:List V}{H H':Hp}{i j m m' m0 n tk:Nat}{ι ι' ι0 ι1:Nat→Addr}{v vx vy y:V}{c f qual t x:Str}{X:Cx}{w:World}{P prog:Program}{A:Around}{N cs ks ts:List Str}{base:Heap}{mg:Str→Option Value}{us:List Value}{Q:VK}{sp:Sp}{args es ifs r:List Expr}{a b e elt it iter o:Expr}{ap cp p p3 p4 pos spos:Pos}{u ux uy:Value}{E:Value→Shared→Prop}{s:Shared}{C l:Addr}{σ:L2.St}{pins:List (Addr×Obj)}{α β:Type}{J:It}{op':CmpOp}{scope:Scope}{RR:It→Hp→Prop}{is:List Nat}{Xw:Addr→L2.St→Hp→Prop}{hi lo:Option Int}
inductive D where
 |non|bl (b:Bool)|int (i:Int)|str (x:Str)|tup (xs:List D)|fl (xs:List D)|ref (n:Nat)
 deriving Inhabited
inductive O where
 |lst (xs:List D)|dct (kvs:List (Key×D))|err (x:Str) (d:Option Nat)(t:Bool)|edc (fs:List (Str×D))|ins (c:Str)(fs:List (Str×D))
noncomputable abbrev aQ:=List O
inductive R(α:Type) where
 |ok (a:α)(st:aQ)
 |bad
noncomputable abbrev M(α:Type):=aQ→R α
noncomputable def ret{α:Type}(a:α):M α:=fun st=>.ok a st
noncomputable def aW{α β:Type}(m:M α)(f:α→M β):M β:=fun st=>match m st with
 | .ok a st'=>f a st'
 | .bad=>.bad
noncomputable def stuck{α:Type}:M α:=fun _=>.bad
noncomputable def dX{α:Type}(o:Option α):M α:=fun st=>match o with
 |some a=>.ok a st
 |none=>.bad
noncomputable def items:O→Option (List D)
 | .lst xs=>some xs
 |_=>none
inductive Sh where
 |sc (v:V)|t (xs:List D)|l (xs:List D)|d
noncomputable def shape(st:aQ):D→Option Sh
 | .non=>some (.sc .non)
 | .bl b=>some (.sc (.bl b))
 | .int i=>some (.sc (.int i))
 | .str x=>some (.sc (.str x))
 | .tup xs=>some (.t xs)
 | .fl xs=>some (.l xs)
 | .ref n=>match st[n]? with
  |some (.lst xs)=>some (.l xs)
  |some (.dct _)=>some .d
  |_=>none
noncomputable def dU(f:D→D→Option Bool):List D→List D→Option Bool
 |[],[]=>some true
 |[],_::_=>some false
 |_::_,[]=>some false
 |a::as,b::bs=>match f a b,dU f as bs with
  |some x,some y=>some (x&&y)
  |_,_=>none
noncomputable def nB(f:D→D→Option Bool)(a b:D):Option Bool:=match a,b with
 | .ref i,.ref j=>if i=j then some true else f a b
 |_,_=>f a b
noncomputable def fO(n:Nat)(st:aQ)(a b:D):Option Bool:=match n with
 |0=>none
 |n+1=>match shape st a,shape st b with
  |some (.sc x),some (.sc y)=>some (oz x y)
  |some (.t xs),some (.t ys)=>dU (nB (fO n st)) xs ys
  |some (.l xs),some (.l ys)=>dU (nB (fO n st)) xs ys
  |some .d,some (.l _)=>some false
  |some .d,some _=>none
  |some _,some .d=>none
  |some _,some _=>some false
  |_,_=>none
noncomputable def t9(K:al)(H:Hp)(a:Addr)(xs:List V):Prop:=
 (∃o,H a=some (.frz o (.lst xs)))∨
  ∃(o:Obj)(its:Array Value)(n:Nat),K.lookup a=some o∧o.cls=.type "list" ∧o.dict=none∧o.data=.seq its n∧its.size≤sizeLine∧bf xs its.toList
theorem t9.sql{K:al}{a:Addr}(h:t9 K H a xs):du K H a xs:=by
 rcases h with h|h
 ·exact .inl (.inr h)
 ·exact .inr h
mutual
inductive VRel(K:al)(H:Hp)(ι:Nat→Addr)(m:Nat):D→V→Prop where
 |non:VRel K H ι m .non .non
 |bl (b:Bool):VRel K H ι m (.bl b) (.bl b)
 |int (i:Int):VRel K H ι m (.int i) (.int i)
 |str (x:Str):VRel K H ι m (.str x) (.str x)
 |tup {a:Addr}{ds:List D}{xs:List V}(h:eN K H a xs)(r:VRels K H ι m ds xs):VRel K H ι m (.tup ds) (.ref a)
 |fl {a:Addr}{ds:List D}{xs:List V}(h:t9 K H a xs)(r:VRels K H ι m ds xs):VRel K H ι m (.fl ds) (.ref a)
 |ref {n:Nat}(h:n<m):VRel K H ι m (.ref n) (.ref (ι n))
inductive VRels(K:al)(H:Hp)(ι:Nat→Addr)(m:Nat):List D→List V→Prop where
 |nil:VRels K H ι m [] []
 |cons {d:D}{v:V}{ds:List D}{vs:List V}(h:VRel K H ι m d v)(t:VRels K H ι m ds vs):VRels K H ι m (d::ds) (v::vs)
end
structure Ext0(H H':Hp)(ι ι':Nat→Addr)(m m':Nat):Prop where
 le:m≤m'
 ad:∀n,n<m→ι' n=ι n
 tp:∀b xs,H b=some (.tup xs)→H' b=some (.tup xs)
 fz:∀b o u,H b=some (.frz o u)→H' b=some (.frz o u)
structure Ext(H H':Hp)(ι ι':Nat→Addr)(m m':Nat):Prop extends Ext0 H H' ι ι' m m' where
 fr:∀b o,H b=some o→(∀n,n<m→ι n≠b)→H' b=some o∧∀n,n<m'→ι' n≠b
theorem Ext.refl(H:Hp)(ι:Nat→Addr)(m:Nat):Ext H H ι ι m m:=⟨⟨af _,fun _ _=>rfl,fun _ _ h=>h,fun _ _ _ h=>h⟩,fun _ _ h k=>⟨h,k⟩⟩
theorem Ext.trans{H1 H2:Hp}{ι2:Nat→Addr}{m1 m2:Nat}(a:Ext H H1 ι ι1 m m1)(b:Ext H1 H2 ι1 ι2 m1 m2):Ext H H2 ι ι2 m m2:=
 ⟨⟨aI a.le b.le,fun n hn=>(b.ad n (ao hn a.le)).trans (a.ad n hn),fun c xs e=>b.tp c xs (a.tp c xs e),fun c o u e=>b.fz c o u (a.fz c o u e)⟩,fun c o e k=>by
  obtain⟨e1,k1⟩:=a.fr c o e k
  exact b.fr c o e1 k1⟩
theorem eN.ext{K:al}{a:Addr}(e:Ext0 H H' ι ι' m m')(h:eN K H a xs):eN K H' a xs:=by
 rcases h with(h|⟨o,h⟩)|h
 ·exact .inl (.inl (e.tp _ _ h))
 ·exact .inl (.inr ⟨o,e.fz _ _ _ h⟩)
 ·exact .inr h
theorem t9.ext{K:al}{a:Addr}(e:Ext0 H H' ι ι' m m')(h:t9 K H a xs):t9 K H' a xs:=by
 rcases h with⟨o,h⟩|h
 ·exact .inl ⟨o,e.fz _ _ _ h⟩
 ·exact .inr h
mutual
theorem VRel.ext0{K:al}(e:Ext0 H H' ι ι' m m'):∀{d:D}{v:V},VRel K H ι m d v→VRel K H' ι' m' d v
 |_,_,.non=>.non
 |_,_,.bl b=>.bl b
 |_,_,.int i=>.int i
 |_,_,.str x=>.str x
 |_,_,.tup h r=>.tup (eN.ext e h) (VRels.ext0 e r)
 |_,_,.fl h r=>.fl (t9.ext e h) (VRels.ext0 e r)
 |_,_,.ref (n:=n) h=>by rw[←e.ad n h];exact .ref (ao h e.le)
theorem VRels.ext0{K:al}(e:Ext0 H H' ι ι' m m'):∀{ds:List D}{vs:List V},VRels K H ι m ds vs→VRels K H' ι' m' ds vs
 |_,_,.nil=>.nil
 |_,_,.cons h t=>.cons (VRel.ext0 e h) (VRels.ext0 e t)
end
theorem VRel.ext{K:al}{d:D}(h:VRel K H ι m d v)(e:Ext H H' ι ι' m m'):VRel K H' ι' m' d v:=VRel.ext0 e.toExt0 h
theorem VRels.ext{K:al}{d:List D}{v:List V}(h:VRels K H ι m d v)(e:Ext H H' ι ι' m m'):VRels K H' ι' m' d v:=VRels.ext0 e.toExt0 h
section
variable{K:al}{H:Hp}{ι:Nat→Addr}{m:Nat}
theorem VRels.length:∀{ds:List D}{vs:List V},VRels K H ι m ds vs→ds.length=vs.length
 |_,_,.nil=>rfl
 |_,_,.cons _ t=>by rw[List.length_cons,List.length_cons,t.length]
theorem VRels.get:∀{ds:List D}{vs:List V}{i:Nat}{d:D},VRels K H ι m ds vs→ds[i]? =some d→∃v,vs[i]? =some v∧VRel K H ι m d v
 |_,_,_,_,.nil,e=>by simp at e
 |_,_,0,_,.cons r _,e=>by simp at e;subst e;exact⟨_,rfl,r⟩
 |_,_,i+1,d,.cons _ t,e=>by
  obtain⟨v,h1,h2⟩:=t.get (i:=i) (d:=d) (by simpa using e)
  exact⟨v,by simpa using h1,h2⟩
theorem VRels.append:∀{ds es:List D}{vs ws:List V},VRels K H ι m ds vs→VRels K H ι m es ws→VRels K H ι m (ds++es) (vs++ws)
 |_,_,_,_,.nil,s=>s
 |_,_,_,_,.cons r t,s=>.cons r (t.append s)
theorem VRels.set:∀{ds:List D}{vs:List V}{d:D}{v:V}(i:Nat),VRels K H ι m ds vs→VRel K H ι m d v→VRels K H ι m (ds.set i d) (vs.set i v)
 |_,_,_,_,_,.nil,_=>.nil
 |_,_,_,_,0,.cons _ t,r=>.cons r t
 |_,_,_,_,i+1,.cons q t,r=>.cons q (t.set i r)
theorem VRels.take:∀{ds:List D}{vs:List V}(n:Nat),VRels K H ι m ds vs→VRels K H ι m (ds.take n) (vs.take n)
 |_,_,0,_=>.nil
 |_,_,_+1,.nil=>.nil
 |_,_,n+1,.cons r t=>.cons r (t.take n)
theorem VRels.drop:∀{ds:List D}{vs:List V}(n:Nat),VRels K H ι m ds vs→VRels K H ι m (ds.drop n) (vs.drop n)
 |_,_,0,h=>h
 |_,_,_+1,.nil=>.nil
 |_,_,n+1,.cons _ t=>t.drop n
end
inductive DRels(K:al)(H:Hp)(ι:Nat→Addr)(m:Nat):List (Key×D)→List (Key×V)→Prop where
 |nil:DRels K H ι m [] []
 |cons {k:Key}{d:D}{v:V}{ds:List (Key×D)}{vs:List (Key×V)}(h:VRel K H ι m d v)(t:DRels K H ι m ds vs):DRels K H ι m ((k,d)::ds) ((k,v)::vs)
theorem DRels.ext0{K:al}(e:Ext0 H H' ι ι' m m'){ds:List (Key×D)}{vs:List (Key×V)}(h:DRels K H ι m ds vs):DRels K H' ι' m' ds vs:=by
 induction h with
 |nil=>exact .nil
 |cons h t ih=>exact .cons (VRel.ext0 e h) ih
theorem DRels.ext{K:al}{ds:List (Key×D)}{vs:List (Key×V)}(h:DRels K H ι m ds vs)(e:Ext H H' ι ι' m m'):DRels K H' ι' m' ds vs:=h.ext0 e.toExt0
theorem DRels.length{K:al}{ds:List (Key×D)}{vs:List (Key×V)}(h:DRels K H ι m ds vs):ds.length=vs.length:=by
 induction h with
 |nil=>rfl
 |cons h t ih=>rw[List.length_cons,List.length_cons,ih]
theorem DRels.append{K:al}{ds es:List (Key×D)}{vs ws:List (Key×V)}(h:DRels K H ι m ds vs)(k:DRels K H ι m es ws):DRels K H ι m (ds++es) (vs++ws):=by
 induction h with
 |nil=>exact k
 |cons h t ih=>exact .cons h ih
noncomputable def bS(a C:Addr)(d:Option Addr)(t:Bool):HO:= .ext fun h=>∃o vs,h.get? a=some o∧o.cls=.ref C∧o.dict=d∧o.data=.fields vs∧vs.size=6∧(t=false→vs[1]? =some .none)
noncomputable def k_(a:Addr)(fs:List (Str×V)):HO:= .ext fun h=>∃mA,h.Ns1 a mA∧(∀f,et (fs.lookup f) (mA f))∧PySem.Within mA (fs.map (·.1))
inductive FRels(K:al)(H:Hp)(ι:Nat→Addr)(m:Nat):List (Str×D)→List (Str×V)→Prop where
 |nil:FRels K H ι m [] []
 |cons {k:Str}{d:D}{v:V}{ds:List (Str×D)}{vs:List (Str×V)}(h:VRel K H ι m d v)(t:FRels K H ι m ds vs):FRels K H ι m ((k,d)::ds) ((k,v)::vs)
theorem FRels.ext0{K:al}(e:Ext0 H H' ι ι' m m'){ds:List (Str×D)}{vs:List (Str×V)}(h:FRels K H ι m ds vs):FRels K H' ι' m' ds vs:=by
 induction h with
 |nil=>exact .nil
 |cons h t ih=>exact .cons (VRel.ext0 e h) ih
theorem FRels.look{K:al}{ds:List (Str×D)}{vs:List (Str×V)}(h:FRels K H ι m ds vs){d:D}(e:ds.lookup f=some d):∃v,vs.lookup f=some v∧VRel K H ι m d v:=by
 induction h with
 |nil=>cases e
 | @cons k d' v ds vs h t ih=>
  rw[List.lookup_cons] at e ⊢
  cases q:f==k with
  |true=>rw[q] at e;cases e;exact⟨v,rfl,h⟩
  |false=>rw[q] at e;exact ih e
noncomputable def putD(f:Str)(d:D):List (Str×D)→List (Str×D)
 |[]=>[(f,d)]
 |(g,x)::r=>if g=f then(g,d)::r else(g,x)::putD f d r
theorem FRels.put{K:al}{d:D}(q:VRel K H ι m d v){ds:List (Str×D)}{vs:List (Str×V)}(h:FRels K H ι m ds vs):FRels K H ι m (putD f d ds) (cK f v vs):=by
 induction h with
 |nil=>exact .cons q .nil
 | @cons k d' v' ds vs h t ih=>
  unfold putD cK
  by_cases e:k=f
  ·rw[if_pos e,if_pos e];exact .cons q t
  ·rw[if_neg e,if_neg e];exact .cons h ih
theorem FRels.length{K:al}{ds:List (Str×D)}{vs:List (Str×V)}(h:FRels K H ι m ds vs):ds.length=vs.length:=by
 induction h with
 |nil=>rfl
 |cons h t ih=>rw[List.length_cons,List.length_cons,ih]
noncomputable def nz(K:al)(H:Hp)(ι:Nat→Addr)(m:Nat)(a:Addr):O→Prop
 | .lst ds=>∃xs,H a=some (.lst xs)∧VRels K H ι m ds xs
 | .dct kvs=>∃vs,H a=some (.dK vs)∧DRels K H ι m kvs vs
 | .err x d t=>∃C,PySem.W.nsIn K mainGlobals x=some (some (.ref C))∧H a=some (bS a C (d.map ι) t)∧∀j,d=some j→j<m
 | .edc fs=>∃vs,H a=some (k_ a vs)∧FRels K H ι m fs vs∧fs.length≤900
 | .ins x fs=>∃C dx vs,PySem.W.nsIn K mainGlobals x=some (some (.ref C))∧H a=some (.ins C dx vs)∧FRels K H ι m fs vs∧fs.length≤900
theorem nz.move{K:al}{a:Addr}{o:O}(h:nz K H ι m a o)(E:Ext0 H H' ι ι' m m')(ha:H' a=H a):nz K H' ι' m' a o:=by
 cases o with
 |lst ds=>obtain⟨xs,h1,h2⟩:=h;exact⟨xs,ha.trans h1,VRels.ext0 E h2⟩
 |dct ds=>obtain⟨xs,h1,h2⟩:=h;exact⟨xs,ha.trans h1,h2.ext0 E⟩
 |err x d t=>
  obtain⟨C,h0,h1,h2⟩:=h
  refine⟨C,h0,?_,fun j e=>ao (h2 j e) E.le⟩
  rw[ha,h1]
  cases d with
  |none=>rfl
  |some j=>rw[Option.map_some,Option.map_some,E.ad j (h2 j rfl)]
 |edc fs=>obtain⟨xs,h1,h2,h3⟩:=h;exact⟨xs,ha.trans h1,h2.ext0 E,h3⟩
 |ins x fs=>obtain⟨C,dx,xs,h0,h1,h2,h3⟩:=h;exact⟨C,dx,xs,h0,ha.trans h1,h2.ext0 E,h3⟩
theorem nz.there{K:al}{a:Addr}{o:O}(h:nz K H ι m a o):∃u,H a=some u∧(∀xs,u≠ .tup xs)∧∀ob w,u≠ .frz ob w:=by
 cases o with
 |lst ds=>obtain⟨xs,h1,h2⟩:=h;exact⟨_,h1,(fun _ z=>by cases z),(fun _ _ z=>by cases z)⟩
 |dct ds=>obtain⟨xs,h1,h2⟩:=h;exact⟨_,h1,(fun _ z=>by cases z),(fun _ _ z=>by cases z)⟩
 |err x d t=>obtain⟨C,h0,h1,h2⟩:=h;exact⟨_,h1,(fun _ z=>by unfold bS at z;cases z),(fun _ _ z=>by unfold bS at z;cases z)⟩
 |edc fs=>obtain⟨xs,h1,h2⟩:=h;exact⟨_,h1,(fun _ z=>by unfold k_ at z;cases z),(fun _ _ z=>by unfold k_ at z;cases z)⟩
 |ins x fs=>obtain⟨C,dx,xs,h0,h1,h2⟩:=h;exact⟨_,h1,(fun _ z=>by cases z),(fun _ _ z=>by cases z)⟩
structure Sim(K:al)(H:Hp)(ι:Nat→Addr)(st:aQ):Prop where
 inj:∀i j,i<st.length→j<st.length→ι i=ι j→i=j
 ob:∀n o,st[n]? =some o→nz K H ι st.length (ι n) o
theorem Sim.laid{K:al}{st:aQ}(S:Sim K H ι st){p:Addr}(hp:H p=none){ho:HO}{o:O}
  (hr:∀ι',(∀n,n<st.length→ι' n=ι n)→ι' st.length=p→nz K (bj H p ho) ι' (st.length+1) p o):
  ∃ι',Ext H (bj H p ho) ι ι' st.length (st.length+1)∧ι' st.length=p∧Sim K (bj H p ho) ι' (st++[o]):=by
 have hK:∀n o,st[n]? =some o→ι n≠p:=fun n o e=>by
  have q:=S.ob n o e
  obtain⟨u,h1,_⟩:=q.there
  exact au h1 hp
 have E:Ext H (bj H p ho) ι (fun n=>if n=st.length then p else ι n) st.length (st.length+1):=⟨⟨Nat.le_succ _,fun n hn=>by simp[Nat.ne_of_lt hn],fun b xs e=>by rw[av (au e hp)];exact e,fun b ob u e=>by rw[av (au e hp)];exact e⟩,fun b ob e k=>by
  refine⟨by rw[av (au e hp)];exact e,fun n hn=>?_⟩
  by_cases hn':n=st.length
  ·rw[if_pos hn'];exact(au e hp).symm
  ·rw[if_neg hn'];exact k n (by omega)⟩
 refine⟨fun n=>if n=st.length then p else ι n,E,by simp,?_⟩
 have lt:∀{n},n<st.length→∃o,st[n]? =some o:=fun{n} hn=>⟨st[n],by simp[hn]⟩
 refine⟨fun i j hi hj e=>?_,fun n ob e=>?_⟩
 ·rw[aC,List.length_singleton] at hi hj
  by_cases hi':i=st.length
  ·by_cases hj':j=st.length
   ·omega
   ·have q:p=ι j:=by simpa[hi',hj'] using e
    obtain⟨ob,eo⟩:=lt (show j<st.length by omega)
    exact absurd q.symm (hK j ob eo)
  ·by_cases hj':j=st.length
   ·have q:ι i=p:=by simpa[hi',hj'] using e
    obtain⟨ob,eo⟩:=lt (show i<st.length by omega)
    exact absurd q (hK i ob eo)
   ·exact S.inj i j (by omega) (by omega) (by simpa[hi',hj'] using e)
 ·rw[aC,List.length_singleton]
  by_cases hn:n=st.length
  ·subst hn
   rw[aP (af _),Nat.sub_self] at e
   have e':o=ob:=by simpa using e
   subst e'
   have:=hr (fun n=>if n=st.length then p else ι n) (fun n hn=>by simp[Nat.ne_of_lt hn]) (by simp)
   simpa using this
  ·have hlt:n<st.length:=by
    have:=(aH e).1
    rw[aC,List.length_singleton] at this
    omega
   rw[aM hlt] at e
   have old:=S.ob n ob e
   have hne:ι n≠p:=hK n ob e
   have hι:(if n=st.length then p else ι n)=ι n:=by rw[if_neg hn]
   rw[hι]
   exact old.move E.toExt0 (av hne)
theorem Sim.write{K:al}{st:aQ}(S:Sim K H ι st){ds es:List D}(e:st[n]? =some (.lst ds))(r:VRels K H ι st.length es ys):
  Ext H (bj H (ι n) (.lst ys)) ι ι st.length st.length∧Sim K (bj H (ι n) (.lst ys)) ι (st.set n (.lst es)):=by
 obtain⟨xs,h1,h2⟩:=S.ob n _ e
 have hn:n<st.length:=(aH e).1
 have E:Ext H (bj H (ι n) (.lst ys)) ι ι st.length st.length:=by
  refine⟨⟨af _,fun _ _=>rfl,fun b zs q=>?_,fun b o u q=>?_⟩,fun b o q k=>⟨by rw[av (k n hn).symm];exact q,k⟩⟩
  ·rw[av (dR q h1 (by intro z;cases z))];exact q
  ·rw[av (dR q h1 (by intro z;cases z))];exact q
 refine⟨E,fun i j hi hj=>S.inj i j (by simpa using hi) (by simpa using hj),fun k o q=>?_⟩
 rw[aE]
 by_cases hk:k=n
 ·subst hk
  rw[aN hn] at q
  cases q
  exact⟨ys,ba,r.ext E⟩
 ·rw[aL (Ne.symm hk)] at q
  have hk':k<st.length:=(aH q).1
  have hne:ι k≠ι n:=fun z=>hk (S.inj k n hk' hn z)
  have old:=S.ob k o q
  exact old.move E.toExt0 (av hne)
theorem Sim.add{K:al}{st:aQ}(S:Sim K H ι st){p:Addr}{ds:List D}(hp:H p=some (.lst ys))(ap:∀n,n<st.length→ι n≠p)(r:VRels K H ι st.length ds ys):
  ∃ι',(∀n,n<st.length→ι' n=ι n)∧ι' st.length=p∧Sim K H ι' (st++[.lst ds]):=by
 have up:Ext0 H H ι (fun n=>if n=st.length then p else ι n) st.length (st.length+1):=⟨Nat.le_succ _,fun n hn=>by simp[Nat.ne_of_lt hn],fun _ _ e=>e,fun _ _ _ e=>e⟩
 refine⟨fun n=>if n=st.length then p else ι n,fun n hn=>by simp[Nat.ne_of_lt hn],by simp,⟨fun i j hi hj e=>?_,fun n ob e=>?_⟩⟩
 ·rw[aC,List.length_singleton] at hi hj
  by_cases hi':i=st.length
  ·by_cases hj':j=st.length
   ·omega
   ·exact absurd (show ι j=p by simpa[hi',hj'] using e.symm) (ap j (by omega))
  ·by_cases hj':j=st.length
   ·exact absurd (show ι i=p by simpa[hi',hj'] using e) (ap i (by omega))
   ·exact S.inj i j (by omega) (by omega) (by simpa[hi',hj'] using e)
 ·rw[aC,List.length_singleton]
  by_cases hn:n=st.length
  ·subst hn
   rw[aP (af _),Nat.sub_self] at e
   have e':O.lst ds=ob:=by simpa using e
   subst e'
   refine⟨ys,?_,VRels.ext0 up r⟩
   simpa using hp
  ·have hlt:n<st.length:=by
    have:=(aH e).1
    rw[aC,List.length_singleton] at this
    omega
   rw[aM hlt] at e
   have old:=S.ob n ob e
   have hι:(if n=st.length then p else ι n)=ι n:=by rw[if_neg hn]
   rw[hι]
   exact old.move up rfl
theorem Sim.writeD{K:al}{st:aQ}(S:Sim K H ι st){kvs kvs':List (Key×D)}{ys:List (Key×V)}(e:st[n]? =some (.dct kvs))(r:DRels K H ι st.length kvs' ys):
  Ext H (bj H (ι n) (.dK ys)) ι ι st.length st.length∧Sim K (bj H (ι n) (.dK ys)) ι (st.set n (.dct kvs')):=by
 obtain⟨xs,h1,h2⟩:=S.ob n _ e
 have hn:n<st.length:=(aH e).1
 have E:Ext H (bj H (ι n) (.dK ys)) ι ι st.length st.length:=by
  refine⟨⟨af _,fun _ _=>rfl,fun b zs q=>?_,fun b o u q=>?_⟩,fun b o q k=>⟨by rw[av (k n hn).symm];exact q,k⟩⟩
  ·rw[av (dR q h1 (by intro z;cases z))];exact q
  ·rw[av (dR q h1 (by intro z;cases z))];exact q
 refine⟨E,fun i j hi hj=>S.inj i j (by simpa using hi) (by simpa using hj),fun k o q=>?_⟩
 rw[aE]
 by_cases hk:k=n
 ·subst hk
  rw[aN hn] at q
  cases q
  exact⟨ys,ba,r.ext E⟩
 ·rw[aL (Ne.symm hk)] at q
  have hk':k<st.length:=(aH q).1
  have hne:ι k≠ι n:=fun z=>hk (S.inj k n hk' hn z)
  have old:=S.ob k o q
  exact old.move E.toExt0 (av hne)
theorem Sim.addD{K:al}{st:aQ}(S:Sim K H ι st){p:Addr}{ys:List (Key×V)}{ds:List (Key×D)}(hp:H p=some (.dK ys))(ap:∀n,n<st.length→ι n≠p)(r:DRels K H ι st.length ds ys):
  ∃ι',(∀n,n<st.length→ι' n=ι n)∧ι' st.length=p∧Sim K H ι' (st++[.dct ds]):=by
 have up:Ext0 H H ι (fun n=>if n=st.length then p else ι n) st.length (st.length+1):=⟨Nat.le_succ _,fun n hn=>by simp[Nat.ne_of_lt hn],fun _ _ e=>e,fun _ _ _ e=>e⟩
 refine⟨fun n=>if n=st.length then p else ι n,fun n hn=>by simp[Nat.ne_of_lt hn],by simp,⟨fun i j hi hj e=>?_,fun n ob e=>?_⟩⟩
 ·rw[aC,List.length_singleton] at hi hj
  by_cases hi':i=st.length
  ·by_cases hj':j=st.length
   ·omega
   ·exact absurd (show ι j=p by simpa[hi',hj'] using e.symm) (ap j (by omega))
  ·by_cases hj':j=st.length
   ·exact absurd (show ι i=p by simpa[hi',hj'] using e) (ap i (by omega))
   ·exact S.inj i j (by omega) (by omega) (by simpa[hi',hj'] using e)
 ·rw[aC,List.length_singleton]
  by_cases hn:n=st.length
  ·subst hn
   rw[aP (af _),Nat.sub_self] at e
   have e':O.dct ds=ob:=by simpa using e
   subst e'
   refine⟨ys,?_,r.ext0 up⟩
   simpa using hp
  ·have hlt:n<st.length:=by
    have:=(aH e).1
    rw[aC,List.length_singleton] at this
    omega
   rw[aM hlt] at e
   have old:=S.ob n ob e
   have hι:(if n=st.length then p else ι n)=ι n:=by rw[if_neg hn]
   rw[hι]
   exact old.move up rfl
section
variable{P:Program}{w:World}{H:Hp}{h:Heap}{a C:Addr}{d:Option Addr}{t:Bool}{fs:List (Str×V)}
theorem cU(hok:fS P w H h)(e:H a=some (bS a C d t)):∃o vs,h.get? a=some o∧o.cls=.ref C∧o.dict=d∧o.data=.fields vs∧vs.size=6∧(t=false→vs[1]? =some .none):=
 (show bI P w H h a (bS a C d t) from hok a _ e).1
theorem iS{o:Obj}{vs:Array Value}(h1:h.get? a=some o)(h2:o.cls=.ref C)(h3:o.dict=d)(h4:o.data=.fields vs)(h5:vs.size=6)(h6:t=false→vs[1]? =some .none):bI P w H h a (bS a C d t):=
 ⟨⟨o,vs,h1,h2,h3,h4,h5,h6⟩,⟨o,h1⟩,fun _ _ ⟨o,vs,q,r⟩ k=>⟨o,vs,k o q,r⟩⟩
theorem k9(hok:fS P w H h)(e:H a=some (k_ a fs)):∃mA,h.Ns1 a mA∧(∀f,et (fs.lookup f) (mA f))∧PySem.Within mA (fs.map (·.1)):=(show bI P w H h a (k_ a fs) from hok a _ e).1
theorem qL{mA:Str→Option Value}(n:h.Ns1 a mA)(r:∀f,et (fs.lookup f) (mA f))(wi:PySem.Within mA (fs.map (·.1))):bI P w H h a (k_ a fs):=
 ⟨⟨mA,n,r,wi⟩,let⟨o,_,_,e,_⟩:=n;⟨o,e⟩,fun _ _ ⟨mA,n,r⟩ k=>⟨mA,n.at k,r⟩⟩
end
noncomputable def j_(n:Nat)(H:Hp)(a:Addr)(h:Heap):Prop:=∃oe vs,h.get? a=some oe∧oe.data=.fields vs∧
 (vs[1]? =some .none∨∃T oT ts,vs[1]? =some (.ref T)∧n≤T∧T≠a∧H T=none∧h.get? T=some oT∧oT.data=.fields ts∧ts[3]? =some .none)
theorem j_.mono{n':Nat}{a:Addr}{h:Heap}(x:j_ n H a h)(k:n'≤n):j_ n' H a h:=by
 obtain⟨oe,vs,h1,h2,q⟩:=x
 refine⟨oe,vs,h1,h2,?_⟩
 rcases q with q|⟨T,oT,ts,q1,q2,q3⟩
 ·exact .inl q
 ·exact .inr ⟨T,oT,ts,q1,aI k q2,q3⟩
noncomputable def iU(P:Program)(w:World):t4:=fun outer H s E e s'=>∃a C d H',e=.ref a∧s'.os=s.os∧AllBare s'.gens∧Un (eE outer) [] H H' s.heap s'.heap∧fS P w H' s'.heap∧
 s.heap.objs.size≤a∧H' a=some (bS a C d true)∧j_ s.heap.objs.size H' a s'.heap∧E (.ref a) none H'
theorem su:jQ (iU P w) X E0:=fun _ _ _ _ _ _ _ ⟨_,_,_,_,_,_,_,_,_,_,_,_,z⟩=>z.elim
noncomputable def dW(X:Cx)(Ex:Addr→L2.St→Hp→Prop):Prop:=∀(pins:List (Addr×Obj))(σ:L2.St)(H:Hp)(s:Shared)(a C:Addr)(d:Option Addr),
 Inv X pins σ H s→H a=some (bS a C d true)→X.s₀.heap.objs.size≤a→j_ X.s₀.heap.objs.size H a s.heap→Ex a σ H→X.xe (.ref a) s
noncomputable abbrev qE:Addr→L2.St→Hp→Prop:=fun _ _ _=>False
theorem dW.no:dW X qE:=fun _ _ _ _ _ _ _ _ _ _ _ z=>z.elim
section
variable{X:Cx}{pins:List (Addr×Obj)}{σ:L2.St}{H:Hp}{s:Shared}{a C:Addr}{d:Option Addr}{h':Heap}{Ex:Addr→L2.St→Hp→Prop}
theorem _root_.L2.Inv.mark(I:Inv X pins σ H s)(e:H a=some (bS a C d false)):Inv X pins σ (bj H a (bS a C d true)) s:=by
 obtain⟨o,vs,g1,g2,g3,g4,g5,_⟩:=cU I.hok e
 exact I.write (x:=a) (e:=a) (h':=s.heap) (t':=s.toks) (o:=bS a C d true) (by rw[e];exact True.intro) (.inl rfl) (fun b u _ q=>q) ⟨o,g1⟩ (iS g1 g2 g3 g4 g5 (fun z=>nomatch z))
theorem gt{b x:Addr}{t:Bool}(e:H a=some (bS a C d t))(e':H b=some (.own x)):b≠a:=fun z=>by
 subst z
 rw[e] at e'
 unfold bS at e'
 cases e'
theorem _root_.L2.Inv.noted{T:Addr}{oe:Obj}{fl:Value}(I:Inv X pins σ H s)(e:H a=some (bS a C d true))(ho:s.heap.get? a=some oe)(z:Noted X.stack a T oe fl s.heap h'):Inv X pins σ H {s with heap:=h'}:=by
 obtain⟨o,vs,g1,g2,g3,g4,g5,_⟩:=cU I.hok e
 rw[ho] at g1
 cases g1
 have na:∀b,H b=none→b≠a:=fun b n q=>by subst q;rw[e] at n;cases n
 have nf:∀b u,H b=some u→b∉BR X.stack:=fun b u q hb=>by rw[I.stkFree b hb] at q;cases q
 refine I.step (g':=s.gens) (t':=s.toks) (d':=s.drawn) (ch:=[]) (fun _ z=>nomatch z) (fun b ob hL hb _ q n=>z.keep b ob (fun m=>(List.mem_cons.mp (I.stkSub b m)).elim hL hb) (na b n) q)
  (fun b ob _ _ _ q n=>z.slot b ob (na b n) q) (fun b ob _ q n=>n) (fun b ob _ q=>?_) (fun _ _ q=>q) (fun _ _ _ q=>q) (fun b ps q=>⟨#[],by rw[q];simp⟩) (fun m hm=>?_) (fun b u eb=>?_) I.bare
 ·by_cases hb:b=a
  ·subst hb;exact⟨_,z.at_⟩
  ·obtain⟨sl,q'⟩:=z.slot b ob hb q
   exact⟨_,q'⟩
 ·obtain⟨ob,es,ep,ho,r⟩:=hm
  obtain⟨sl,q⟩:=z.slot _ ob (na _ I.free) ho
  exact⟨_,es,ep,q,r⟩
 ·by_cases hb:b=a
  ·subst hb
   rw[e] at eb
   cases eb
   refine iS (vs:=vs.setIfInBounds 1 (.ref T)) z.at_ ((Obj.cls_mapFields _ _).trans g2) ?_ (Obj.data_mapFields g4 _) (by simpa using g5) (fun z=>nomatch z)
   obtain⟨c0,d0,t0,s0⟩:=oe
   cases g4
   exact g3
  ·refine(I.hok b u eb).stay (fun c v hc q=>?_) (fun _ q=>q) fun _ _ q=>q
   rcases hc with rfl|hc
   ·exact z.keep c v (nf c _ eb) hb q
   ·exact z.keep c v (nf c _ hc) (gt e hc) q
theorem j_.of_noted{T:Addr}{oe:Obj}{vs:Array Value}(I:Inv X pins σ H s)(ho:s.heap.get? a=some oe)(hd:oe.data=.fields vs)(hz:1<vs.size)(z:Noted X.stack a T oe .none s.heap h')(hn:n≤s.heap.objs.size):j_ n H a h':=by
 obtain⟨oT,ts,t1,t2,t3⟩:=z.tr
 refine⟨_,_,z.at_,Obj.data_mapFields hd _,.inr ⟨T,oT,ts,by simp[hz],aI hn z.new,fun q=>?_,I.hok.fresh z.new,t1,t2,t3⟩⟩
 subst q
 exact absurd (ao (ah ho) z.new) (bg _)
theorem j_.fly{oe:Obj}{vs:Array Value}(hy:j_ n H a s.heap)(ho:s.heap.get? a=some oe)(hd:oe.data=.fields vs)(hz:1<vs.size):B_ n a oe s.heap:=by
 obtain⟨o2,v2,h1,h2,q⟩:=hy
 rw[ho] at h1
 cases h1
 rw[hd] at h2
 cases h2
 refine⟨vs,hd,hz,?_⟩
 rcases q with q|⟨T,oT,ts,q1,q2,q3,q4,q5⟩
 ·exact .inl q
 ·exact .inr ⟨T,oT,ts,q1,q2,q3,q5⟩
theorem pS{K:al}{sc:Scope}{f:Addr}{cd:Value}{outer:List Env}{s0:Shared}{H0:Hp}{E:XK}:
  dW (m_ (iU P w) P w K mg base N qual sc f cd A outer s0 H0 E) (fun a _ H'=>E (.ref a) none H'):=by
 intro pins σ H s a C d I e ha hy q
 obtain⟨o,vs,g1,g2,g3,g4,g5,_⟩:=cU I.hok e
 have hz:1<vs.size:=by omega
 refine ql (L:=(envOfC qual sc s0.heap.objs.size f cd).locals) (outer:=outer) (base:=base) I.ok.frames I.stack rfl g1 (hy.fly g1 g4 hz) fun h' T z=>?_
 have I2:=I.noted e g1 z
 exact⟨a,C,d,H,rfl,I2.os,I2.bare,I2.base,I2.hok,ha,e,j_.of_noted I g1 g4 hz z I.sz,q⟩
theorem iL{k:Nat}{f:Addr}{fd:FuncData}{ps:List Str}(F:FnOk X.prog X.w X.K X.mg X.base (iU X.prog X.w) k f fd ps sp)(hr:Room k X.A)(hb:Binds X.K fd ps [])(hx:dW X Ex)
  (I:Inv X pins σ H s)(r:bf vs us)(h:sp vs H Q (fun v _ H1=>∃a,v=.ref a∧Ex a σ H1)):wpAny (model X.prog X.w) X.A (call (.ref f) us) (EP X pins σ Q) X.xe s:=by
 have hl:(us++[]).length=ps.length:=by rw[List.append_nil,←r.length];exact F.len _ _ _ _ h
 refine wpAny_call (codeAny_mono (F.run X.A X.stack s H ⟨us,[]⟩ us vs Q _ hr I.env0 (by have:=hb s us I.kIn hl;rwa [List.append_nil] at this) r h) fun r s' hq=>?_)
 cases r with
 |error e=>
  obtain⟨a,C,d,H',rfl,os,bare,un,hok,ha,e,hy,b,hb,ex⟩:=hq
  cases hb
  have I':Inv X pins σ H' s':=I.call' (ch:=[]) os un hok bare (fun _ z=>nomatch z)
  exact hx pins σ H' s' a C d I' e (aI I.sz ha) (hy.mono I.sz) ex
 |ok fl=>
  cases fl with
  |ret u=>exact I.after hq
  |next=>exact False.elim hq
  |brk=>exact False.elim hq
  |cont=>exact False.elim hq
noncomputable def w5(sp:Sp)(Ex:Addr→L2.St→Hp→Prop)(t:TA):TE:=fun σ H Q=>t σ H fun vs H1=>sp vs H1 Q (fun v _ H2=>∃a,v=.ref a∧Ex a σ H2)
theorem so{k:Nat}{f:Addr}{fd:FuncData}{ps:List Str}{t:TA}(F:FnOk X.prog X.w X.K X.mg X.base (iU X.prog X.w) k f fd ps sp)(hr:Room k X.A)(hg:Gl X x)(hm:X.mg x=some (.ref f))(hk:PySem.W.keepIn X.K (.ref f)=true)(hb:Binds X.K fd ps [])(hx:dW X Ex)
  (ha:PA X (e::es) t)(hdb:(x==("__debug__":Str))=false) (he:starEach (e::es) X.env=(false,eval e X.env)::starEach es X.env)(hpl:(backTo pos (starEach es X.env)).any (·.1)=false):
  PE X (.Call (.Name x p) (e::es) [] pos) (w5 sp Ex t):=by
 intro pins s σ H Q I h
 refine wpAny_Call_Name_kw (d3 I hg hm ?_ hdb)
 refine PySem.W.callWith_K (h₀:=X.base) I.ok.mod.kin hk (bz (ha pos pins s σ H _ I h) fun us s1 ⟨vs,H1,I1,r,q⟩=>⟨I1.kIn,?_⟩) he hpl
 exact iL F hr hb hx I1 r q
theorem kj{k:Nat}{f:Addr}{fd:FuncData}{ps:List Str}(m:EMk X.K C)(hi:PySem.W.findIn X.K (.ref C) "__init__"=some (some (.ref f)))(hf:PySem.W.isFn X.K (.ref f)=true)
  (F:FnOk X.prog X.w X.K X.mg X.base (iU X.prog X.w) k f fd ps sp)(hr:Room (k+1) X.A)(hb:Binds X.K fd ps [])(I:Inv X pins σ H s)(r:bf vs us)(hz:us.length≤sizeLine)
  (h:∀x,H x=none→X.s₀.heap.objs.size≤x→sp (.ref x::vs) (bj H x (bS x C none false)) (fun v H2=>v=.non∧Q (.ref x) H2) E0):
  wpAny (model X.prog X.w) X.A (call (.ref C) us) (EP X pins σ Q) X.xe s:=by
 have e1:(s.heap.push (dN us)).objs.size=s.heap.objs.size+1:=Heap.size_push _ _
 have I1:Inv X pins σ H {s with heap:=s.heap.push (dN us)}:=I.kept (t':=s.toks) fun b u q=>ac _ q
 have hn:=I1.hok.fresh (a:=s.heap.objs.size+1) (Nat.le_of_eq e1)
 have gE:((s.heap.push (dN us)).push (eP C s.heap.objs.size)).get? (s.heap.objs.size+1)=some (eP C s.heap.objs.size):=by
  have:=ak (s.heap.push (dN us)) (o:=eP C s.heap.objs.size) rfl
  rwa [e1] at this
 have I2:Inv X pins σ (bj H (s.heap.objs.size+1) (bS (s.heap.objs.size+1) C none false)) {s with heap:=(s.heap.push (dN us)).push (eP C s.heap.objs.size)}:=
  I1.laid (a:=s.heap.objs.size+1) (t':=s.toks) (fun b u q=>ac _ q) (Nat.le_of_eq e1) (iS gE rfl rfl rfl rfl (fun _=>rfl))
 have hq:=h (s.heap.objs.size+1) hn (aI I.sz (Nat.le_succ _))
 have r2:bf (V.ref (s.heap.objs.size+1)::vs) (Value.ref (s.heap.objs.size+1)::us):= .cons rfl r
 have hl:(Value.ref (s.heap.objs.size+1)::us++[]).length=ps.length:=by
  have e:=r2.length
  rw[F.len _ _ _ _ hq] at e
  rw[List.append_nil]
  exact e.symm
 refine vV m I.kIn hi (beq_iff_eq.mp hf) hz (wpAny_call (codeAny_mono (F.run _ X.stack _ _ ⟨Value.ref (s.heap.objs.size+1)::us,[]⟩ (Value.ref (s.heap.objs.size+1)::us) _ _ E0 (hr.make C us [])
  (I2.env0.make C us []) (by have:=hb _ (Value.ref (s.heap.objs.size+1)::us) I2.kIn hl;rwa [List.append_nil] at this) r2 hq) fun r s' hq'=>?_))
 cases r with
 |error e=>exact(su (X:=X) pins σ _ _ e s' I2 hq')
 |ok fl=>
  cases fl with
  |ret u=>
   obtain⟨v,H',I3,rv,ev,q3⟩:=I2.after hq'
   subst ev
   exact⟨rv,⟨V.ref (s.heap.objs.size+1),H',I3,rfl,q3⟩⟩
  |next=>exact False.elim hq'
  |brk=>exact False.elim hq'
  |cont=>exact False.elim hq'
noncomputable def RQ(X:Cx)(C:Addr)(Ex:Addr→L2.St→Hp→Prop)(σ:L2.St):VK:=fun v H2=>∃x d,v=.ref x∧X.s₀.heap.objs.size≤x∧H2 x=some (bS x C d false)∧Ex x σ (bj H2 x (bS x C d true))
noncomputable def rf(X:Cx)(C:Addr)(sp:Sp)(Ex:Addr→L2.St→Hp→Prop)(t:TA):TS:=fun _ σ H=>t σ H fun vs H1=>vs.length≤1000∧∀x,H1 x=none→X.s₀.heap.objs.size≤x→
 sp (.ref x::vs) (bj H1 x (bS x C none false)) (fun v H2=>v=.non∧RQ X C Ex σ (.ref x) H2) E0
theorem mD{Q:Flow→Shared→Prop}(hh:X.A.handled=none)(m:EMk X.K C)(mb:PySem.W.mroIn X.K C (.type "BaseException")=some true)(hx:dW X Ex)
  (h:wpAny (model X.prog X.w) X.A (eval e X.env) (EP X pins σ (RQ X C Ex σ)) X.xe s):
  wpAny (model X.prog X.w) X.A (exec (.Raise (some e) none pos) X.env) Q X.xe s:=by
 rw[arm_exec_Raise]
 refine aa (wpAny_standAt (qp (K:=X.K) hh (aa (aA h (fun v s1 q=>aa (wpAny_standAt (ae ?_))) fun _ _ z=>z))))
 obtain⟨u,H2,I2,ru,x,d,rfl,hz,e2,ex⟩:=q
 cases ru
 obtain⟨o,vs,g1,g2,g3,g4,g5,g6⟩:=cU I2.hok e2
 have I3:=I2.mark e2
 obtain⟨c0,d0,t0,s0⟩:=o
 cases g2
 cases g4
 exact⟨x,C,d0,vs,s0,rfl,I2.kIn,m,mb,g1,g6 rfl,hx pins σ _ s1 x C d I3 ba hz ⟨_,vs,g1,rfl,.inl (g6 rfl)⟩ ex⟩
theorem rY{k:Nat}{f:Addr}{fd:FuncData}{ps:List Str}{t:TA}(m:EMk X.K C)(mb:PySem.W.mroIn X.K C (.type "BaseException")=some true)(hkp:PySem.W.keepIn X.K (.ref C)=true)(hi:PySem.W.findIn X.K (.ref C) "__init__"=some (some (.ref f)))(hf:PySem.W.isFn X.K (.ref f)=true)
  (F:FnOk X.prog X.w X.K X.mg X.base (iU X.prog X.w) k f fd ps sp)(hr:Room (k+1) X.A)(hg:Gl X x)(hm:X.mg x=some (.ref C))(hb:Binds X.K fd ps [])(hx:dW X Ex)
  (ha:PA X (e::es) t)(hdb:(x==("__debug__":Str))=false) (he:starEach (e::es) X.env=(false,eval e X.env)::starEach es X.env)(hpl:(backTo cp (starEach es X.env)).any (·.1)=false):
  PS X (.Raise (some (.Call (.Name x p) (e::es) [] cp)) none pos) (rf X C sp Ex t):=by
 intro pins s σ H D I h
 refine mD (pins:=pins) (σ:=σ) hr.hd m mb hx (wpAny_Call_Name_kw (d3 I hg hm ?_ hdb))
 refine PySem.W.callWith_K (h₀:=X.base) I.ok.mod.kin hkp (bz (ha cp pins s σ H _ I h) fun us s1 ⟨vs,H1,I1,r,q⟩=>⟨I1.kIn,?_⟩) he hpl
 exact kj m hi hf F hr hb I1 r (by show us.length≤sizeLine;rw[←r.length];exact aI q.1 (by decide)) q.2
theorem p6{k:Nat}{f:Addr}{fd:FuncData}{ps:List Str}(m:EMk X.K C)(mb:PySem.W.mroIn X.K C (.type "BaseException")=some true)(hkp:PySem.W.keepIn X.K (.ref C)=true)(hi:PySem.W.findIn X.K (.ref C) "__init__"=some (some (.ref f)))(hf:PySem.W.isFn X.K (.ref f)=true)
  (F:FnOk X.prog X.w X.K X.mg X.base (iU X.prog X.w) k f fd ps sp)(hr:Room (k+1) X.A)(hg:Gl X x)(hm:X.mg x=some (.ref C))(hb:Binds X.K fd ps [])(hx:dW X Ex)(hdb:(x==("__debug__":Str))=false):
  PS X (.Raise (some (.Call (.Name x p) [] [] cp)) none pos) (rf X C sp Ex pV):=by
 intro pins s σ H D I h
 refine mD (pins:=pins) (σ:=σ) hr.hd m mb hx (wpAny_Call_Name_kw (d3 I hg hm ?_ hdb))
 exact PySem.W.callWith_K0 I.kIn hkp (kj (us:=[]) (vs:=[]) m hi hf F hr hb I .nil (Nat.zero_le _) h.2)
end
section
variable{X:Cx}{pins:List (Addr×Obj)}{σ:L2.St}{H:Hp}{s:Shared}{a C:Addr}{d:Option Addr}{h':Heap}{f:Str}{e o value:Expr}{ta tv:TE}{pos pos':Pos}
theorem sy{f g:Str}(r:RelV y u):et (([(f,y)]:List (Str×V)).lookup g) (if g=f then some u else none):=by
 by_cases h:g=f
 ·have hb:(g==f)=true:=beq_iff_eq.mpr h
  simp only[List.lookup,hb,if_pos h]
  exact r
 ·have hb:(g==f)=false:=beq_eq_false_iff_ne.mpr h
  simp only[List.lookup,hb,if_neg h]
  exact True.intro
noncomputable def zO(K:al)(ta tv:TE)(f:Str):TS:=fun D σ H=>tv σ H fun y H1=>ta σ H1 fun x H2=>∃a C t,x=.ref a∧ECls K C∧PySem.W.findIn K (.ref C) f=some none∧
 ((H2 a=some (bS a C none t)∧∀dx,H2 dx=none→dx≠a→D.nx σ (bj (bj H2 dx (k_ dx [(f,y)])) a (bS a C (some dx) t)))∨
  ∃dx fs,H2 a=some (bS a C (some dx) t)∧H2 dx=some (k_ dx fs)∧dx≠a∧fs.length≤900∧D.nx σ (bj H2 dx (k_ dx (cK f y fs))))
theorem vn(ha:PE X o ta)(hv:PE X value tv)(hs:swapsWith value (some (.Attribute o f pos')) pos.line X.env=pure false):PS X (.Assign [.Attribute o f pos'] value pos) (zO X.K ta tv f):=by
 intro pins s σ H D I h
 refine plainObj_wpAny_Assign_Attribute (bz (hv pins s σ H _ I h) fun u s1 ⟨y,H1,I1,ry,q⟩=>bz (ha pins s1 σ H1 _ I1 q) fun ov s2 ⟨x,H2,I2,rx,a,C,t,ex,ec,na,q2⟩=>?_) hs
 subst ex
 obtain rfl:ov=Value.ref a:=rx
 rcases q2 with⟨e1,q2⟩|⟨dx,fs,e1,e2,ne,hz,q2⟩
 ·obtain⟨ob,vs,g1,g2,g3,g4,g5,g6⟩:=cU I2.hok e1
  refine s_ ec I2.kIn g1 g2 g3 g4 na fun h' n1 gx k=>?_
  have hf:H2 s2.heap.objs.size=none:=I2.hok.fresh (af _)
  have hne:s2.heap.objs.size≠a:=fun z=>by rw[←z,hf] at e1;cases e1
  refine⟨σ,_,?_,q2 _ hf hne⟩
  have nn:∀b,H2 b=none→b≠a:=fun b n z=>by subst z;rw[e1] at n;cases n
  have ol:∀b v,s2.heap.get? b=some v→b≠s2.heap.objs.size:=fun b v z=>ai (ah z)
  have mv:∀b u,H2 b=some u→b≠s2.heap.objs.size:=fun b u z=>au z hf
  have dif:∀b u,H2 b=some u→(∀C d t,u≠bS a C d t)→b≠a:=fun b u z w q=>by subst q;rw[e1] at z;cases z;exact w _ _ _ rfl
  refine I2.un (t':=s2.toks+2) (h':=h') ⟨fun b v z n _ _=>k b v (nn b n) z,fun b v z n _ _=>⟨v.slots,k b v (nn b n) z⟩,fun b v z n _=>?_,fun b v z _=>?_,fun b xs z=>?_,fun b v xs z=>?_,fun b ps z=>⟨#[],?_⟩⟩ fun b u z=>?_
  ·rw[av (nn b n),av (ol b v z)];exact n
  ·by_cases hb:b=a
   ·subst hb;exact⟨_,gx⟩
   ·exact⟨v,k b v hb z⟩
  ·rw[av (dif b _ z (fun _ _ _ q=>by unfold bS at q;cases q)),av (mv b _ z)];exact z
  ·rw[av (dif b _ z (fun _ _ _ q=>by unfold bS at q;cases q)),av (mv b _ z)];exact z
  ·rw[av (dif b _ z (fun _ _ _ q=>by unfold bS at q;cases q)),av (mv b _ z),z];simp
  ·by_cases hb:b=a
   ·subst hb
    rw[ba] at z
    cases z
    exact iS gx g2 rfl g4 g5 g6
   ·rw[av hb] at z
    by_cases hd:b=s2.heap.objs.size
    ·subst hd
     rw[ba] at z
     cases z
     exact qL n1 (fun g=>sy ry) (fun g hg=>by
      by_cases w:g=f
      ·simp[w]
      ·exact absurd (if_neg w) hg)
    ·rw[av hd] at z
     refine(I2.hok b u z).stay (fun c v hc r=>?_) (fun c r=>?_) fun c xs r=>?_
     ·rcases hc with rfl|hc
      ·exact k c v hb r
      ·exact k c v (gt e1 hc) r
     ·rw[av (gt e1 r),av (mv c _ r)];exact r
     ·rw[av (dif c _ r (fun _ _ _ q=>by unfold bS at q;cases q)),av (mv c _ r)];exact r
 ·obtain⟨ob,vs,g1,g2,g3,g4,g5,g6⟩:=cU I2.hok e1
  obtain⟨mA,n,r,wi⟩:=k9 I2.hok e2
  refine sZ ec I2.kIn g1 g2 g3 g4 n wi (by rw[List.length_map,sizeLine_eq];omega) na fun h' n' sb=>?_
  refine⟨σ,_,?_,q2⟩
  refine I2.write (x:=dx) (e:=dx) (t':=s2.toks+2) (h':=h') (by rw[e2];exact True.intro) (.inl rfl) (fun b q hb z=>(sb.2 b hb).trans z) (let⟨o,_,_,z,_⟩:=n';⟨o,z⟩) (qL n' (fun g=>?_) fun g hg=>?_)
  ·rw[fJ]
   by_cases q:g=f
   ·rw[if_pos q,if_pos q];exact ry
   ·rw[if_neg q,if_neg q];exact r g
  ·by_cases q:g=f
   ·rw[q];exact(eJ f y fs).1
   ·refine(eJ f y fs).2 g (wi g fun z=>hg ?_)
    show(if g=f then some u else mA g)=none
    rw[if_neg q];exact z
noncomputable def zl(K:al)(ta:TE)(f:Str):TE:=fun σ H Q=>ta σ H fun x H1=>∃a C dx fs t v,x=.ref a∧H1 a=some (bS a C (some dx) t)∧H1 dx=some (k_ dx fs)∧ECls K C∧PySem.W.findIn K (.ref C) f=some none∧fs.lookup f=some v∧Q v H1
theorem vv(he:PE X e ta)(hb:attributeBase e f X.env (eval e X.env)=eval e X.env):PE X (.Attribute e f pos) (zl X.K ta f):=by
 intro pins s σ H Q I h
 refine pO hb (bz (he pins s σ H _ I h) fun u s1 hp=>?_)
 obtain⟨x,H1,I1,rx,a,C,dx,fs,t,v,ex,e1,e2,ec,na,l,q⟩:=hp
 subst ex
 obtain rfl:u=Value.ref a:=rx
 obtain⟨ob,vs,g1,g2,g3,g4,g5,g6⟩:=cU I1.hok e1
 obtain⟨mA,n,r,wi⟩:=k9 I1.hok e2
 obtain⟨od,ho,hl⟩:=hZ n
 have J:PySem.W.InstAt s1.heap a ob C (some od):=⟨g1,g2,by unfold PySem.W.notCls;rw[g4],by rw[g3];exact ho⟩
 obtain⟨u',hu,ru⟩:=et.some_of (v:=v) (o:=mA f) (by rw[←l];exact r f)
 exact vW ec I1.kIn J (PySem.W.findObj_own ec.hd na rfl (by rw[hl,hu])) (kB ru) ⟨v,H1,I1.tok _,ru,q⟩
theorem sG{K:al}{x C:Addr}(e:ECls K C):PySem.W.KitX K (.ref x) (.ref C) (fun h=>∃ox od,PySem.W.InstAt h x ox C od) where
 ty:=fun _ _ _ ⟨_,_,I⟩=>I.type
 it:=fun M h K0 _=>by
  obtain⟨cd,hc,_⟩:=PySem.W.any_some e.hd
  unfold PySem.W.clsIn at hc
  split at hc
  ·rename_i z
   intro A Q E s k q
   unfold isType loadHead
   exact aa (wpAny_loadPart (k _ _ (K0 _ _ z)) (ae q))
  ·cases hc
 ne:=fun h tp dd its n sl K0 ht=>by
  obtain⟨cd,hc,_⟩:=PySem.W.any_some e.hd
  refine Bool.eq_false_iff.mpr fun q=>?_
  have q:C=tp:=Value.ref.inj (beq_iff_eq.mp q)
  subst q
  unfold PySem.W.clsIn at hc
  split at hc
  ·rename_i z
   have:=(K0 _ _ z).symm.trans ht
   cases this
  ·cases hc
 ca:=fun K0 ⟨_,_,I⟩ k=>qr e K0 I k
theorem tf{t:Bool}(I:Inv X pins σ H s)(e:H a=some (bS a C d t))(hd:∀dx,d=some dx→∃fs,H dx=some (k_ dx fs)):∃ox od,PySem.W.InstAt s.heap a ox C od:=by
 obtain⟨ob,vs,g1,g2,g3,g4,g5,g6⟩:=cU I.hok e
 cases d with
 |none=>exact⟨ob,none,g1,g2,by unfold PySem.W.notCls;rw[g4],by rw[g3];trivial⟩
 |some dx=>
  obtain⟨fs,e2⟩:=hd dx rfl
  obtain⟨mA,n,r,wi⟩:=k9 I.hok e2
  obtain⟨od,ho,hl⟩:=hZ n
  exact⟨ob,some od,g1,g2,by unfold PySem.W.notCls;rw[g4],by rw[g3];exact ho⟩
noncomputable def zU(K:al):List V→Hp→VK→Prop:=fun xs H Q=>∃a C d t v c b,xs=[.ref a,v]∧H a=some (bS a C d t)∧(∀dx,d=some dx→∃fs,H dx=some (k_ dx fs))∧ECls K C∧(∀u,RelV v u→u=c)∧PySem.W.kitOne K (.ref C) c=some b∧Q (.bl b) H
theorem tO:ei X (.builtin "isinstance") (zU X.K):=by
 intro pins s σ H xs us Q I r ⟨a,C,d,t,v,c,b,ex,e,hd,ec,hv,hk,q⟩
 subst ex
 cases r with
 |cons r1 r2=>
  cases r2 with
  |cons r2 r3=>
   cases r3
   cases r1
   cases hv _ r2
   exact PySem.W.kia_one (sG ec) I.kIn (tf I e hd) hk (fun z=>nomatch z) fun tk=>⟨.bl b,H,I.tok tk,rfl,q⟩
theorem qB:ei X (.builtin "isinstance") (fun xs H Q=>∃v c b,xs=[.non,v]∧(∀u,RelV v u→u=c)∧PySem.W.kitOne X.K (.type "NoneType") c=some b∧Q (.bl b) H):=by
 intro pins s σ H xs us Q I r h
 obtain⟨v,c,b,ex,hv,hk,q⟩:=h
 subst ex
 cases r with
 |cons r1 r2=>
  cases r2 with
  |cons r2 r3=>
   cases r3
   cases(show _=Value.none from r1)
   cases hv _ r2
   exact PySem.W.kia_one PySem.W.kitx_none I.kIn trivial hk (fun z=>nomatch z) fun tk=>⟨.bl b,H,I.tok tk,rfl,q⟩
noncomputable abbrev jK(X:Cx)(pins:List (Addr×Obj))(E:Value→Shared→Prop):Cx:={X with pn:=X.pn++pins,xe:=E}
noncomputable abbrev eh(X:Cx)(a:Addr):Cx:={X with A:=X.A.mark (some (.ref a)),calm:=false,xe:=fun _ _=>False}
theorem vR(I:Inv X pins σ H s):Inv (jK X pins E) [] σ H s:=
 ⟨⟨I.ok.mod,I.ok.kind,I.ok.glob,I.ok.blt,I.ok.above,I.ok.inj,I.ok.has,I.ok.cab,I.ok.hd,I.ok.frames,I.ok.stk,I.ok.exf,I.ok.bs,I.ok.bsz,I.ok.noex,I.ok.exfs,I.ok.funs,I.ok.frf⟩,I.os,I.bare,I.base,I.loc,I.cell,I.free,I.freeC,(fun p hp=>I.pin p (by simpa using hp)),I.hok,I.len⟩
theorem eK{pins':List (Addr×Obj)}(I:Inv (jK X pins E) pins' σ H s):Inv X pins σ H s:=
 ⟨⟨I.ok.mod,I.ok.kind,I.ok.glob,I.ok.blt,I.ok.above,I.ok.inj,I.ok.has,I.ok.cab,I.ok.hd,I.ok.frames,I.ok.stk,I.ok.exf,I.ok.bs,I.ok.bsz,I.ok.noex,I.ok.exfs,I.ok.funs,I.ok.frf⟩,I.os,I.bare,I.base,I.loc,I.cell,I.free,I.freeC,(fun p hp=>I.pin p (List.mem_append_left _ hp)),I.hok,I.len⟩
theorem kA(I:Inv X pins σ H s):Inv (eh X a) pins σ H s:=
 ⟨⟨I.ok.mod,I.ok.kind,I.ok.glob,I.ok.blt,I.ok.above,I.ok.inj,I.ok.has,I.ok.cab,(fun z=>nomatch z),I.ok.frames,I.ok.stk,I.ok.exf,I.ok.bs,I.ok.bsz,I.ok.noex,I.ok.exfs,I.ok.funs,I.ok.frf⟩,I.os,I.bare,I.base,I.loc,I.cell,I.free,I.freeC,I.pin,I.hok,I.len⟩
theorem io(hd:X.calm=true→X.A.handled=none)(I:Inv (eh X a) pins σ H s):Inv X pins σ H s:=
 ⟨⟨I.ok.mod,I.ok.kind,I.ok.glob,I.ok.blt,I.ok.above,I.ok.inj,I.ok.has,I.ok.cab,hd,I.ok.frames,I.ok.stk,I.ok.exf,I.ok.bs,I.ok.bsz,I.ok.noex,I.ok.exfs,I.ok.funs,I.ok.frf⟩,I.os,I.bare,I.base,I.loc,I.cell,I.free,I.freeC,I.pin,I.hok,I.len⟩
theorem mQ{m m':Str→Option Value}(I:Inv X pins σ H s)(hN:X.N.Nodup)(hi:X.N[i]? =some x)(hk:X.env.kindOf x=some .local)(hn:s.heap.Ns X.env.locals m)(hn':h'.Ns X.env.locals m')(hm:∀y,y≠x→m' y=m y)(sb:Heap.SameBut X.env.locals s.heap h')(t:Nat):
  Inv X pins (σ.set i none) H {s with heap:=h',toks:=t}:=by
 obtain⟨m0,hn0,hl⟩:=I.loc
 have e0:m0=m:=by
  obtain⟨o1,es1,ep1,a1,a2,_,a4⟩:=hn0
  obtain⟨o2,es2,ep2,b1,b2,_,b4⟩:=hn
  rw[a1] at b1
  cases b1
  rw[a2] at b2
  cases b2
  funext y
  rw[←a4 y,←b4 y]
 subst e0
 have keepL:∀b ob,b≠X.env.locals→s.heap.get? b=some ob→h'.get? b=some ob:=fun b ob hb z=>(sb.2 b hb).trans z
 have ltL:∀b ob,X.s₀.heap.get? b=some ob→b≠X.env.locals:=fun b ob z=>ai (ao (ah z) I.ok.above)
 refine⟨I.ok,I.os,I.bare,⟨fun b ob z n hb hx=>keepL b ob (ltL b ob z) (I.base.keep b ob z n hb hx),fun b ob z n hb hx=>?_,I.base.free,fun b ob z hx=>?_,I.base.tups,I.base.frzs,I.base.tbls⟩,⟨m',hn',fun j y v e1 e2 e3=>?_⟩,fun y c z=>?_,I.free,I.freeC,fun p hp=>?_,fun b u z=>?_,by simpa using I.len⟩
 ·obtain⟨sl,q⟩:=I.base.slot b ob z n hb hx
  exact⟨sl,keepL b _ (ltL b ob z) q⟩
 ·obtain⟨o',q⟩:=I.base.there b ob z hx
  exact⟨o',keepL b _ (ltL b ob z) q⟩
 ·have hj:j≠i:=fun w=>by
   subst w
   by_cases hlt:j<σ.length
   ·rw[aN hlt] at e2;cases e2
   ·rw[bq (by simpa using hlt)] at e2;cases e2
  rw[aL (Ne.symm hj)] at e2
  obtain⟨u,r,q⟩:=hl j y v e1 e2 e3
  refine⟨u,r,?_⟩
  have hy:y≠x:=fun w=>hj (jh hN e1 (w▸hi))
  rcases q with⟨k1,k2⟩|⟨k1,c,k2,k3⟩
  ·exact .inl ⟨k1,by rw[hm y hy];exact k2⟩
  ·exact .inr ⟨k1,c,k2,k3.sameBut sb (I.cne y c k2)⟩
 ·obtain⟨v,q⟩:=I.cell y c z
  exact⟨v,q.sameBut sb (I.cne y c z)⟩
 ·obtain⟨q1,q2,q3,q4⟩:=I.pin p hp
  exact⟨keepL _ _ q3 q1,q2,q3,q4⟩
 ·refine(I.hok b u z).stay (fun c v hc r=>keepL c v (fun w=>?_) r) (fun _ q=>q) fun _ _ q=>q
  subst w
  rcases hc with w|w
  ·rw[←w,I.free] at z;cases z
  ·rw[I.free] at w;cases w
end
section
variable{X:Cx}
noncomputable def Au(K:al)(D:Addr)(i:Nat)(ts:TS)(Dn:Ends):Addr→L2.St→Hp→Prop:=fun a σ1 H1=>
 (∃C d,H1 a=some (bS a C d true)∧PySem.W.mroIn K C (.ref D)=some true)∧ts {nx:=fun σ2 H2=>Dn.nx (σ2.set i none) H2,rt:=Dn.rt} (σ1.set i (some (.ref a))) H1
noncomputable def Bh(K:al)(D:Addr)(i:Nat)(tb:(Addr→L2.St→Hp→Prop)→TS)(ts:TS):TS:=fun Dn σ H=>tb (Au K D i ts Dn) Dn σ H
theorem vi{body suite:List Stmt}{b₀:Stmt}{n:Str}{D:Addr}{pt hp:Pos}{tb:(Addr→L2.St→Hp→Prop)→TS}{ts:TS}(c:ECat X.K D)(hg:Gl X t)(hm:X.mg t=some (.ref D))(hdb:(t==("__debug__":Str))=false)
  (hN:X.N.Nodup)(hi:X.N[i]? =some n)(hk:X.env.scope.names.lookup n=some .local)(hfn:X.fn n=true)(hst:X.stack=X.env::X.outer∧X.env.frame=some X.env.locals)
  (hb:∀pins E Ex',PassesOwn (model X.prog X.w) X.A X.env E→dW (jK X pins E) Ex'→PSs (jK X pins E) body (tb Ex'))(hs:∀a,PSs (eh X a) (b₀::suite) ts):
  PS X (.Try body [.ExceptHandler (some (.Name t pt)) (some n) (b₀::suite) hp] [] [] pos) (Bh X.K D i tb ts):=by
 intro pins s σ H Dn I h
 have hcls:(X.env.scope.kind== .class||(X.env.scope.kind== .module&&X.env.locals !=X.env.globals))=false:=by rw[I.ok.kind];rfl
 refine wpAny_Try_except ?_
 refine aA (hb pins _ _ PassesOwn.looking ?_ [] s σ H Dn (vR I) h) (fun f s1 q=>?_) (fun _ _ z=>z)
 rotate_left
 ·cases f with
  |next=>obtain⟨σ1,H1,I1,q⟩:=q;exact ae ⟨σ1,H1,eK I1,q⟩
  |brk=>obtain⟨σ1,H1,I1,q⟩:=q;exact⟨σ1,H1,eK I1,q⟩
  |cont=>obtain⟨σ1,H1,I1,q⟩:=q;exact⟨σ1,H1,eK I1,q⟩
  |ret u=>obtain⟨v,σ1,H1,I1,r,q⟩:=q;exact⟨v,σ1,H1,eK I1,r,q⟩
 ·intro pins2 σ1 H1 s1 a _ _ I1 _ ha hy ⟨⟨C,d,e,hsub⟩,q⟩
  have I0:Inv X pins σ1 H1 s1:=eK I1
  obtain⟨o,vs,g1,g2,g3,g4,g5,_⟩:=cU I0.hok e
  have hz:1<vs.size:=by omega
  have hfr:X.A.frames=some (X.env::X.outer):=by rw[I0.ok.frames,hst.1]
  have hfl:s1.heap.FunFrames X.base (X.env::X.outer):=by rw[←hst.1];exact I0.stack
  refine mY hfr hfl hst.2 g1 (hy.fly g1 g4 hz) fun h2 T z2=>jz (s:={s1 with heap:=h2}) g4 hz g1 z2 fun h3 z3=>?_
  have I3:Inv X pins σ1 H1 {s1 with heap:=h3}:=I0.noted e g1 (by rw[hst.1];exact z3)
  refine ow c hsub (d3 (X:=eh X a) (kA I3) hg hm ⟨rfl,I3.kIn,⟨_,z3.at_,(Obj.cls_mapFields _ _).trans g2⟩,?_⟩ hdb)
  refine jz (s:={s1 with heap:=h3}) g4 hz g1 z3 fun h4 z4=>?_
  have I4:Inv (eh X a) pins σ1 H1 {s1 with heap:=h4}:=kA (I0.noted e g1 (by rw[hst.1];exact z4))
  refine fD (X:=eh X a) I4 hN hi (.inl hk) (v:= .ref a) rfl (fun s5 I5=>?_) (.inl hfn)
  refine aA (hs a pins s5 _ H1 _ I5 q) (fun f s6 z=>?_) (fun _ _ z=>z)
  cases f with
  |next=>
   obtain⟨σ6,H6,I6,q6⟩:=z
   obtain⟨m,hn,_⟩:=I6.loc
   exact ku hk hn hcls fun h7 m7 hn7 k7 sb=>⟨σ6.set i none,H6,mQ (io I.ok.hd I6) hN hi hk hn hn7 k7 sb _,q6⟩
  |brk=>obtain⟨_,_,_,q6⟩:=z;exact q6.elim
  |cont=>obtain⟨_,_,_,q6⟩:=z;exact q6.elim
  |ret u=>
   obtain⟨v,σ6,H6,I6,r6,q6⟩:=z
   obtain⟨m,hn,_⟩:=I6.loc
   exact ku hk hn hcls fun h7 m7 hn7 k7 sb=>⟨v,σ6.set i none,H6,mQ (io I.ok.hd I6) hN hi hk hn hn7 k7 sb _,r6,q6⟩
end
open PySem PySem.W
section
end
section
end
theorem jk{name:Str}{apos:Pos}{env:Env}{Q:Value→Shared→Prop}
  (hbase:attributeBase o name env (eval o env)=eval o env)
  (hfew:methodCallForm (args.length+([]:List Keyword).length) (backTo pos (starEach args env)) (backToKw pos (keywordEach [] env))=true)
  (hline:(apos.endLine==pos.line)=true)
  (h:wpAny (model prog w) A (eval o env) (fun ov s₁=>∀pl,wpAny (model prog w) A (getMethod ov name pl) (fun fx s₂=>wpAny (model prog w) A (callWith pos fx.1 fx.2 (backTo pos (starEach args env)) (backToKw pos (keywordEach [] env))) Q E s₂) E s₁) E s):
  wpAny (model prog w) A (eval (.Call (.Attribute o name apos) args [] pos) env) Q E s:=by
 rw[arm_eval_Call,hbase]
 refine aa (aA h (fun ov s₁ h₁=>?_) fun _ _ e=>e)
 refine aa (wpAny_standAt ?_)
 have hpos:methodCallPos true o env apos pos=pure pos:=by unfold methodCallPos;simp[hline]
 unfold methodCall
 rw[hfew]
 refine aa (wpAny_holding (aA (h₁ _) (fun fx s2 h2=>?_) fun _ _ e=>e))
 exact aa (wpAny_of_eq hpos h2)
noncomputable def rg(X:Cx)(m:Str)(ta:TE)(t:TA):TE:=fun σ H Q=>ta σ H fun x H1=>∃a C dx fs f k fd ps sp,x=.ref a∧H1 a=some (.ins C dx fs)∧fs.lookup m=none∧Cls X.K C∧Meth X.K C m f∧
 FnOk X.prog X.w X.K X.mg X.base (iU X.prog X.w) k f fd ps sp∧Room k X.A∧Binds X.K fd ps []∧t σ H1 fun vs H2=>∀E:XK,sp (.ref a::vs) H2 Q E
section
variable{X:Cx}{m:Str}{o e:Expr}{es:List Expr}{ta:TE}{t:TA}{apos pos:Pos}
theorem si(he:PE X o ta)(hbase:attributeBase o m X.env (eval o X.env)=eval o X.env)(hline:(apos.endLine==pos.line)=true)
  (hfew:methodCallForm ((e::es).length+([]:List Keyword).length) (backTo pos (starEach (e::es) X.env)) (backToKw pos (keywordEach [] X.env))=true)(ha:PA X (e::es) t)
  (hst:starEach (e::es) X.env=(false,eval e X.env)::starEach es X.env)(hpl:(backTo pos (starEach es X.env)).any (·.1)=false):PE X (.Call (.Attribute o m apos) (e::es) [] pos) (rg X m ta t):=by
 intro pins s σ H Q I h
 refine jk hbase hfew hline (bz (he pins s σ H _ I h) fun u s1 hp pl=>?_)
 obtain⟨x,H1,I1,rx,a,C,dx,fs,f,k,fd,ps,sp,ex,ea,l,c,hm,F,hr,hb,q⟩:=hp
 subst ex
 obtain rfl:u=Value.ref a:=rx
 refine jx I1 ea c hm l ?_
 refine PySem.W.callWith_K (first:=[.ref a]) (h₀:=X.base) I.ok.mod.kin hm.kp (bz (ha pos pins s1 σ H1 _ I1 q) fun us s2 ⟨vs,H2,I2,r,q2⟩=>⟨I2.kIn,?_⟩) hst hpl
 exact iL (us:= .ref a::us) (vs:= .ref a::vs) (Ex:=qE) F hr hb dW.no I2 (.cons rfl r) (q2 _)
theorem p9(he:PE X o ta)(hbase:attributeBase o m X.env (eval o X.env)=eval o X.env)(hline:(apos.endLine==pos.line)=true):PE X (.Call (.Attribute o m apos) [] [] pos) (rg X m ta pV):=by
 intro pins s σ H Q I h
 refine jk hbase rfl hline (bz (he pins s σ H _ I h) fun u s1 hp pl=>?_)
 obtain⟨x,H1,I1,rx,a,C,dx,fs,f,k,fd,ps,sp,ex,ea,l,c,hm,F,hr,hb,q⟩:=hp
 subst ex
 obtain rfl:u=Value.ref a:=rx
 refine jx I1 ea c hm l ?_
 exact PySem.W.callWith_K0 (first:=[.ref a]) I1.kIn hm.kp (iL (us:=[.ref a]) (vs:=[.ref a]) (Ex:=qE) F hr hb dW.no I1 (.cons rfl .nil) (q _))
structure UMeth(K:al)(C:Addr)(m:Str)(f:Addr):Prop where
 ga:PySem.W.specialIn K (.ref C) "__getattribute__"=some (some (.builtin "type.__getattribute__"))
 rd:PySem.W.readsIn K C (.type "type")=true
 at_:PySem.W.findCls K (.ref C) (.type "type") m=some (.val (.ref f))
 hd:PySem.W.handedIn (.ref f)=true
 kp:PySem.W.keepIn K (.ref f)=true
theorem zZ{f:Addr}{k:Nat}{fd:FuncData}{ps:List Str}{px:Pos}(hg:Gl X x)(hm:X.mg x=some (.ref C))(hdb:(x==("__debug__":Str))=false)(u:UMeth X.K C m f)(F:FnOk X.prog X.w X.K X.mg X.base (iU X.prog X.w) k f fd ps sp)(hr:Room k X.A)(hb:Binds X.K fd ps [])
  (hline:(apos.endLine==pos.line)=true)(hfew:methodCallForm ((e::es).length+([]:List Keyword).length) (backTo pos (starEach (e::es) X.env)) (backToKw pos (keywordEach [] X.env))=true)(ha:PA X (e::es) t)
  (hst:starEach (e::es) X.env=(false,eval e X.env)::starEach es X.env)(hpl:(backTo pos (starEach es X.env)).any (·.1)=false):PE X (.Call (.Attribute (.Name x px) m apos) (e::es) [] pos) (fun σ H Q=>t σ H fun vs H1=>∀E:XK,sp vs H1 Q E):=by
 intro pins s σ H Q I h
 refine jk rfl hfew hline (d3 I hg hm (fun pl=>?_) hdb)
 refine PySem.W.method_cls I.kIn u.ga (PySem.W.cls_value I.kIn u.rd u.at_ u.hd ?_)
 have I1:Inv X pins σ H {s with toks:=s.toks+1}:=I.tok _
 refine PySem.W.callWith_K (first:=[]) (h₀:=X.base) I.ok.mod.kin u.kp (bz (ha pos pins _ σ H _ I1 h) fun us s2 ⟨vs,H2,I2,r,q2⟩=>⟨I2.kIn,?_⟩) hst hpl
 exact iL (us:=us) (vs:=vs) (Ex:=qE) F hr hb dW.no I2 r (q2 _)
end
theorem _root_.L2.PE.or{X:Cx}{e:Expr}{t u:TE}(h1:PE X e t)(h2:PE X e u):PE X e (fun σ H Q=>t σ H Q∨u σ H Q):=fun pins s σ H Q I h=>h.elim (h1 pins s σ H Q I) (h2 pins s σ H Q I)
theorem _root_.L2.PS.or{X:Cx}{e:Stmt}{t u:TS}(h1:PS X e t)(h2:PS X e u):PS X e (fun D σ H=>t D σ H∨u D σ H):=fun pins s σ H D I h=>h.elim (h1 pins s σ H D I) (h2 pins s σ H D I)
open PySem.SeqAt
theorem yM{x:V}{v:Value}(ry:RelV y u)(rx:RelV x v)(fy:cC y=true)(fx:cC x=true):RcAt A s u v (oz y x):=by
 cases y with
 |non=>
  cases ry
  cases x with
  |non=>cases rx;exact RcAt.none_none
  |bl b=>cases rx;exact RcAt.none_bool b
  |int b=>obtain⟨tb,rfl⟩:=rx;exact RcAt.none_int b tb
  |str b=>obtain⟨tb,rfl⟩:=rx;exact RcAt.none_str b tb
  |_=>exact jC fx
 |bl a=>
  cases ry
  cases x with
  |non=>cases rx;exact RcAt.bool_none a
  |bl b=>cases rx;exact RcAt.bool_bool a b
  |int b=>obtain⟨tb,rfl⟩:=rx;exact RcAt.bool_int a b tb
  |str b=>obtain⟨tb,rfl⟩:=rx;exact RcAt.bool_str a b tb
  |_=>exact jC fx
 |int a=>
  obtain⟨ta,rfl⟩:=ry
  cases x with
  |non=>cases rx;exact RcAt.int_none a ta
  |bl b=>cases rx;exact RcAt.int_bool a ta b
  |int b=>obtain⟨tb,rfl⟩:=rx;exact RcAt.int_int a ta b tb
  |str b=>obtain⟨tb,rfl⟩:=rx;exact RcAt.int_str a ta b tb
  |_=>exact jC fx
 |str a=>
  obtain⟨ta,rfl⟩:=ry
  cases x with
  |non=>cases rx;exact RcAt.str_none a ta
  |bl b=>cases rx;exact RcAt.str_bool a ta b
  |int b=>obtain⟨tb,rfl⟩:=rx;exact RcAt.str_int a ta b tb
  |str b=>obtain⟨tb,rfl⟩:=rx;exact RcAt.str_str a ta b tb
  |_=>exact jC fx
 |_=>exact jC fy
theorem tU{x:V}{v:Value}(ry:RelV y u)(rx:RelV x v)(fy:cC y=true)(fx:cC x=true):RcNeAt A s u v (!oz y x):=by
 cases y with
 |non=>
  cases ry
  cases x with
  |non=>cases rx;exact RcNeAt.none_none
  |bl b=>cases rx;exact RcNeAt.none_bool b
  |int b=>obtain⟨tb,rfl⟩:=rx;exact RcNeAt.none_int b tb
  |str b=>obtain⟨tb,rfl⟩:=rx;exact RcNeAt.none_str b tb
  |_=>exact jC fx
 |bl a=>
  cases ry
  cases x with
  |non=>cases rx;exact RcNeAt.bool_none a
  |bl b=>cases rx;exact RcNeAt.bool_bool a b
  |int b=>obtain⟨tb,rfl⟩:=rx;exact RcNeAt.bool_int a b tb
  |str b=>obtain⟨tb,rfl⟩:=rx;exact RcNeAt.bool_str a b tb
  |_=>exact jC fx
 |int a=>
  obtain⟨ta,rfl⟩:=ry
  cases x with
  |non=>cases rx;exact RcNeAt.int_none a ta
  |bl b=>cases rx;exact RcNeAt.int_bool a ta b
  |int b=>obtain⟨tb,rfl⟩:=rx;exact RcNeAt.int_int a ta b tb
  |str b=>obtain⟨tb,rfl⟩:=rx;exact RcNeAt.int_str a ta b tb
  |_=>exact jC fx
 |str a=>
  obtain⟨ta,rfl⟩:=ry
  cases x with
  |non=>cases rx;exact RcNeAt.str_none a ta
  |bl b=>cases rx;exact RcNeAt.str_bool a ta b
  |int b=>obtain⟨tb,rfl⟩:=rx;exact RcNeAt.str_int a ta b tb
  |str b=>obtain⟨tb,rfl⟩:=rx;exact RcNeAt.str_str a ta b tb
  |_=>exact jC fx
 |_=>exact jC fy
theorem jO{items:Array Value}(hl:s.heap.IsList l items)(hu:A.units<cLine){x:V}{v:Value}(rx:RelV x v)(fx:cC x=true):RcAt A s (.ref l) v false:=by
 cases x with
 |non=>cases rx;exact RcAt.list_none hl hu
 |bl b=>cases rx;exact RcAt.list_bool b hl hu
 |int b=>obtain⟨tb,rfl⟩:=rx;exact RcAt.list_int b tb hl hu
 |str b=>obtain⟨tb,rfl⟩:=rx;exact RcAt.list_str b tb hl hu
 |_=>exact jC fx
theorem jP{items:Array Value}(hl:s.heap.IsList l items)(hu:A.units<cLine){x:V}{v:Value}(rx:RelV x v)(fx:cC x=true):RcAt A s v (.ref l) false:=by
 cases x with
 |non=>cases rx;exact RcAt.none_list hl hu
 |bl b=>cases rx;exact RcAt.bool_list b hl hu
 |int b=>obtain⟨tb,rfl⟩:=rx;exact RcAt.int_list b tb hl hu
 |str b=>obtain⟨tb,rfl⟩:=rx;exact RcAt.str_list b tb hl hu
 |_=>exact jC fx
theorem mf{items:Array Value}(hl:s.heap.IsList l items)(hu:A.units<cLine){x:V}{v:Value}(rx:RelV x v)(fx:cC x=true):RcNeAt A s (.ref l) v true:=by
 cases x with
 |non=>cases rx;exact RcNeAt.list_none hl hu
 |bl b=>cases rx;exact RcNeAt.list_bool b hl hu
 |int b=>obtain⟨tb,rfl⟩:=rx;exact RcNeAt.list_int b tb hl hu
 |str b=>obtain⟨tb,rfl⟩:=rx;exact RcNeAt.list_str b tb hl hu
 |_=>exact jC fx
theorem mh{items:Array Value}(hl:s.heap.IsList l items)(hu:A.units<cLine){x:V}{v:Value}(rx:RelV x v)(fx:cC x=true):RcNeAt A s v (.ref l) true:=by
 cases x with
 |non=>cases rx;exact RcNeAt.none_list hl hu
 |bl b=>cases rx;exact RcNeAt.bool_list b hl hu
 |int b=>obtain⟨tb,rfl⟩:=rx;exact RcNeAt.int_list b tb hl hu
 |str b=>obtain⟨tb,rfl⟩:=rx;exact RcNeAt.str_list b tb hl hu
 |_=>exact jC fx
theorem iy{items:Array Value}(hl:s.heap.IsTuple l items)(hu:A.units<cLine){x:V}{v:Value}(rx:RelV x v)(fx:cC x=true):RcAt A s (.ref l) v false:=by
 cases x with
 |non=>cases rx;exact RcAt.tuple_none hl hu
 |bl b=>cases rx;exact RcAt.tuple_bool b hl hu
 |int b=>obtain⟨tb,rfl⟩:=rx;exact RcAt.tuple_int b tb hl hu
 |str b=>obtain⟨tb,rfl⟩:=rx;exact RcAt.tuple_str b tb hl hu
 |_=>exact jC fx
theorem iz{items:Array Value}(hl:s.heap.IsTuple l items)(hu:A.units<cLine){x:V}{v:Value}(rx:RelV x v)(fx:cC x=true):RcAt A s v (.ref l) false:=by
 cases x with
 |non=>cases rx;exact RcAt.none_tuple hl hu
 |bl b=>cases rx;exact RcAt.bool_tuple b hl hu
 |int b=>obtain⟨tb,rfl⟩:=rx;exact RcAt.int_tuple b tb hl hu
 |str b=>obtain⟨tb,rfl⟩:=rx;exact RcAt.str_tuple b tb hl hu
 |_=>exact jC fx
theorem j8{items:Array Value}(hl:s.heap.IsTuple l items)(hu:A.units<cLine){x:V}{v:Value}(rx:RelV x v)(fx:cC x=true):RcNeAt A s (.ref l) v true:=by
 cases x with
 |non=>cases rx;exact RcNeAt.tuple_none hl hu
 |bl b=>cases rx;exact RcNeAt.tuple_bool b hl hu
 |int b=>obtain⟨tb,rfl⟩:=rx;exact RcNeAt.tuple_int b tb hl hu
 |str b=>obtain⟨tb,rfl⟩:=rx;exact RcNeAt.tuple_str b tb hl hu
 |_=>exact jC fx
theorem j9{items:Array Value}(hl:s.heap.IsTuple l items)(hu:A.units<cLine){x:V}{v:Value}(rx:RelV x v)(fx:cC x=true):RcNeAt A s v (.ref l) true:=by
 cases x with
 |non=>cases rx;exact RcNeAt.none_tuple hl hu
 |bl b=>cases rx;exact RcNeAt.bool_tuple b hl hu
 |int b=>obtain⟨tb,rfl⟩:=rx;exact RcNeAt.int_tuple b tb hl hu
 |str b=>obtain⟨tb,rfl⟩:=rx;exact RcNeAt.str_tuple b tb hl hu
 |_=>exact jC fx
theorem k8{b:Value}{k:Bool}(hne:(Value.ref l==b)=false)(h:RcAt A s (.ref l) b k):EqAt A s (.ref l) b k:=fun prog w E Q hq=>by
 unfold eqBool
 refine wpAny_holding ?_
 refine wpAny_ite_split (fun hab=>absurd hab (by rw[hne];exact aq)) (fun _=>?_)
 exact aa (h prog w E _ (wpAny_truthy_bool hq))
theorem k6{a:Value}{k:Bool}(hne:(a==Value.ref l)=false)(h:RcAt A s a (.ref l) k):EqAt A s a (.ref l) k:=fun prog w E Q hq=>by
 unfold eqBool
 refine wpAny_holding ?_
 refine wpAny_ite_split (fun hab=>absurd hab (by rw[hne];exact aq)) (fun _=>?_)
 cases a<;>exact aa (h prog w E _ (wpAny_truthy_bool hq))
noncomputable def At(K:al)(H:Hp)(ι:Nat→Addr)(m:Nat)(d:D)(u:Value):Prop:=∃v,VRel K H ι m d v∧RelV v u
noncomputable def wq(K:al)(H:Hp)(ι:Nat→Addr)(m:Nat)(ds:List D)(us:List Value):Prop:=∃vs,VRels K H ι m ds vs∧bf vs us
theorem wq.length{K:al}{ds:List D}(h:wq K H ι m ds us):ds.length=us.length:=by
 obtain⟨vs,a,b⟩:=h
 rw[a.length,b.length]
inductive ShAt(K:al)(H:Hp)(ι:Nat→Addr)(m:Nat)(s:Shared):Sh→Value→Prop where
 |sc {v:V}{u:Value}(f:cC v=true)(r:RelV v u):ShAt K H ι m s (.sc v) u
 |t {a:Addr}{xs:List D}{its:Array Value}(h:s.heap.IsTuple a its)(r:wq K H ι m xs its.toList):ShAt K H ι m s (.t xs) (.ref a)
 |l {a:Addr}{xs:List D}{its:Array Value}(h:s.heap.IsList a its)(r:wq K H ι m xs its.toList):ShAt K H ι m s (.l xs) (.ref a)
 |d {a:Addr}(h:tW s.heap a):ShAt K H ι m s .d (.ref a)
theorem mw{st:aQ}{d:D}{sh:Sh}(I:Inv X pins σ H s)(S:Sim X.K H ι st)(h:At X.K H ι st.length d u)(e:shape st d=some sh):
  ShAt X.K H ι st.length s sh u:=by
 obtain⟨v,hv,r⟩:=h
 cases hv with
 |non=>cases e;exact .sc rfl r
 |bl b=>cases e;exact .sc rfl r
 |int i=>cases e;exact .sc rfl r
 |str x=>cases e;exact .sc rfl r
 |tup h hr=>
  cases e;cases r
  obtain⟨its,rv,p,_⟩:=I.tuple h
  exact .t p ⟨_,hr,by simpa using rv⟩
 |fl h hr=>
  cases e;cases r
  obtain⟨its,rv,p,_⟩:=I.list h.sql
  exact .l p.isList ⟨_,hr,by simpa using rv⟩
 | @ref n hn=>
  cases r
  simp only[shape] at e
  cases q:st[n]? with
  |none=>rw[q] at e;cases e
  |some o=>
   rw[q] at e
   have ho:=S.ob n o q
   cases o with
   |lst xs=>
    cases e
    obtain⟨vs,h1,h2⟩:=ho
    obtain⟨its,rv,p,_⟩:=I.list (du.of h1)
    exact .l p.isList ⟨_,h2,by simpa using rv⟩
   |dct kvs=>
    cases e
    obtain⟨ws,ho,_⟩:=ho
    obtain⟨hz,hS,vs,rv,o,es,ep,h1,h2,h3,_⟩:=(show bI X.prog X.w H s.heap (ι n) (.dK ws) from I.hok _ _ ho)
    obtain⟨c1,c2,c3⟩:=h2
    refine .d ⟨es,ep,?_⟩
    rw[h1]
    obtain⟨cls,dd,data,sl⟩:=o
    simp only at c1 c2 c3 h3
    subst c1 c2 c3 h3
    rfl
   |_=>cases e
theorem all_cons{e:Nat→Bool}{x:Bool}:(List.range (n+1)).all (fun j=>match j with|0=>x|j+1=>e j)=(x&&(List.range n).all e):=by
 rw[List.range_succ_eq_map,List.all_cons,List.all_map]
 rfl
theorem jm{a:Addr}{o:Obj}(I:Inv X pins σ H s)(h:X.K.lookup a=some o):H a=none:=(I.bs a o (I.ok.mod.kin a o h)).2
theorem nO{a:Addr}(I:Inv X pins σ H s)(h:eN X.K H a xs)(h':du X.K H a ys):False:=by
 obtain⟨_,_,p,_⟩:=I.tuple h
 obtain⟨_,_,q,_⟩:=I.list h'
 exact ne_of_list_tuple q.isList p rfl
theorem lq{a:Addr}(I:Inv X pins σ H s)(h:eN X.K H a xs):(∃zs,H a=some (.tup zs))∨(∃o u,H a=some (.frz o u))∨H a=none:=by
 rcases h with(h|⟨o,h⟩)|⟨o,_,_,h,_⟩
 ·exact .inl ⟨_,h⟩
 ·exact .inr (.inl ⟨_,_,h⟩)
 ·exact .inr (.inr (jm I h))
theorem sV{a:Addr}(I:Inv X pins σ H s)(h:t9 X.K H a xs):(∃o u,H a=some (.frz o u))∨H a=none:=by
 rcases h with⟨o,h⟩|⟨o,_,_,h,_⟩
 ·exact .inl ⟨_,_,h⟩
 ·exact .inr (jm I h)
theorem Sim.obj{K:al}{st:aQ}(S:Sim K H ι st)(h:n<st.length):∃u,H (ι n)=some u∧(∀xs,u≠ .tup xs)∧∀ob w,u≠ .frz ob w:=
 (S.ob n st[n] (by simp[h])).there
mutual
theorem VRel.uniq{st:aQ}(I:Inv X pins σ H s)(S:Sim X.K H ι st):∀{d d':D}{v:V},VRel X.K H ι st.length d v→VRel X.K H ι st.length d' v→d=d'
 |_,_,_,.non,h=>by cases h;rfl
 |_,_,_,.bl b,h=>by cases h;rfl
 |_,_,_,.int i,h=>by cases h;rfl
 |_,_,_,.str x,h=>by cases h;rfl
 |_,_,_,.tup h r,h'=>by
  cases h' with
  |tup q r'=>rw[I.tuple_inj h q] at r;rw[VRels.uniq I S r r']
  |fl q _=>exact(nO I h q.sql).elim
  |ref q=>
   obtain⟨u,e',n1,n2⟩:=S.obj q;rcases lq I h with⟨_,e⟩|⟨_,_,e⟩|e<;>rw[e] at e'<;>first|(cases e';done)|(cases e';exact absurd rfl (n1 _))|(cases e';exact absurd rfl (n2 _ _))
 |_,_,_,.fl h r,h'=>by
  cases h' with
  |tup q _=>exact(nO I q h.sql).elim
  |fl q r'=>rw[I.list_inj h.sql q.sql] at r;rw[VRels.uniq I S r r']
  |ref q=>
   obtain⟨u,e',n1,n2⟩:=S.obj q;rcases sV I h with⟨_,_,e⟩|e<;>rw[e] at e'<;>first|(cases e';done)|(cases e';exact absurd rfl (n1 _))|(cases e';exact absurd rfl (n2 _ _))
 |_,_,_,.ref (n:=n) q,h'=>by
  generalize hz:V.ref (ι n)=z at h'
  cases h' with
  |tup h _=>
   injection hz with hz
   rw[←hz] at h
   obtain⟨u,e',n1,n2⟩:=S.obj q;rcases lq I h with⟨_,e⟩|⟨_,_,e⟩|e<;>rw[e] at e'<;>first|(cases e';done)|(cases e';exact absurd rfl (n1 _))|(cases e';exact absurd rfl (n2 _ _))
  |fl h _=>
   injection hz with hz
   rw[←hz] at h
   obtain⟨u,e',n1,n2⟩:=S.obj q;rcases sV I h with⟨_,_,e⟩|e<;>rw[e] at e'<;>first|(cases e';done)|(cases e';exact absurd rfl (n1 _))|(cases e';exact absurd rfl (n2 _ _))
  |ref q'=>injection hz with hz;rw[S.inj _ _ q q' hz]
  |_=>cases hz
theorem VRels.uniq{st:aQ}(I:Inv X pins σ H s)(S:Sim X.K H ι st):∀{ds ds':List D}{vs:List V},VRels X.K H ι st.length ds vs→VRels X.K H ι st.length ds' vs→ds=ds'
 |_,_,_,.nil,h=>by cases h;rfl
 |_,_,_,.cons r t,h=>by
  cases h with
  |cons r' t'=>rw[VRel.uniq I S r r',VRels.uniq I S t t']
end
theorem At.uniq{st:aQ}{a b:D}(I:Inv X pins σ H s)(S:Sim X.K H ι st)(ha:At X.K H ι st.length a u)(hb:At X.K H ι st.length b u):a=b:=by
 obtain⟨v,h1,r1⟩:=ha
 obtain⟨w,h2,r2⟩:=hb
 rw[r1.inj r2] at h1
 exact h1.uniq I S h2
theorem tw(h:cC v=true):oz v v=true:=by cases v<;>simp_all [oz,cC]
theorem nN{st:aQ}{d:D}(h:shape st d=some (.sc v)):cC v=true:=by
 cases d with
 |ref n=>simp only[shape] at h;split at h<;>cases h
 |_=>cases h<;>rfl
theorem gv{f:D→D→Option Bool}(hf:∀x k,f x x=some k→k=true):∀{xs:List D}{k:Bool},dU f xs xs=some k→k=true
 |[],k,e=>(ag e).symm
 |x::xs,k,e=>by
  unfold dU at e
  cases e1:f x x with
  |none=>rw[e1] at e;simp at e
  |some p=>
   cases e2:dU f xs xs with
   |none=>rw[e1,e2] at e;simp at e
   |some q=>
    rw[e1,e2] at e
    have e':(p&&q)=k:=ag e
    rw[←e',hf _ _ e1,gv hf e2];rfl
theorem mO{f:D→D→Option Bool}(hf:∀x k,f x x=some k→k=true){x:D}{k:Bool}(e:nB f x x=some k):k=true:=by
 unfold nB at e
 split at e
 ·split at e
  ·exact(ag e).symm
  ·exact hf _ _ e
 ·exact hf _ _ e
theorem jD{st:aQ}:∀(n:Nat){a:D}{k:Bool},fO n st a a=some k→k=true
 |0,_,_,e=>by unfold fO at e;cases e
 |n+1,a,k,e=>by
  unfold fO at e
  cases ea:shape st a with
  |none=>rw[ea] at e;simp at e
  |some sa=>
   rw[ea] at e
   cases sa with
   |sc v=>have e':oz v v=k:=ag e;rw[←e',tw (nN ea)]
   |t xs=>exact gv (fun _ _=>mO fun _ _=>jD n) e
   |l xs=>exact gv (fun _ _=>mO fun _ _=>jD n) e
   |d=>cases e
theorem pF(ry:RelV y u)(fy:cC y=true):(u==Value.ref l)=false:=by
 cases y with
 |non=>cases ry;rfl
 |bl b=>cases ry;rfl
 |int i=>obtain⟨t,rfl⟩:=ry;rfl
 |str i=>obtain⟨t,rfl⟩:=ry;rfl
 |_=>cases fy
theorem pr(ry:RelV y u)(fy:cC y=true):(Value.ref l==u)=false:=by
 cases y with
 |non=>cases ry;rfl
 |bl b=>cases ry;rfl
 |int i=>obtain⟨t,rfl⟩:=ry;rfl
 |str i=>obtain⟨t,rfl⟩:=ry;rfl
 |_=>cases fy
theorem pJ{X:Cx}{pins:List (Addr×Obj)}{σ:L2.St}{H:Hp}{s:Shared}{ι:Nat→Addr}{st:aQ}(I:Inv X pins σ H s)(S:Sim X.K H ι st){n:Nat}
  (ih:∀{a b:D}{u v:Value}{A:Around}{k:Bool},nB (fO n st) a b=some k→At X.K H ι st.length a u→At X.K H ι st.length b v→A.units+n<cLine→EqAt A s u v k):
  ∀{xs ys:List D}{us vs:List Value}{A:Around}{k:Bool},dU (nB (fO n st)) xs ys=some k→wq X.K H ι st.length xs us→wq X.K H ι st.length ys vs→A.units+n<cLine→
  ∃e:Nat→Bool,(∀j (h1:j<us.length)(h2:j<vs.length),EqAt A s us[j] vs[j] (e j))∧k=((List.range (min us.length vs.length)).all e&&us.length==vs.length)
 |xs,ys,us,vs,A,k,e,ha,hb,hu=>by
  have la:=ha.length
  have lb:=hb.length
  unfold dU at e
  cases xs with
  |nil=>
   cases us with
   |cons _ _=>simp at la
   |nil=>
    refine⟨fun _=>true,fun j h1 _=>absurd h1 (Nat.not_lt_zero _),?_⟩
    cases ys with
    |nil=>
     cases vs with
     |cons _ _=>simp at lb
     |nil=>rw[←ag e];rfl
    |cons y ys=>
     cases vs with
     |nil=>simp at lb
     |cons _ _=>rw[←ag e];simp
  |cons x xs=>
   cases us with
   |nil=>simp at la
   |cons u us=>
    cases ys with
    |nil=>
     cases vs with
     |cons _ _=>simp at lb
     |nil=>exact⟨fun _=>true,fun j _ h2=>absurd h2 (Nat.not_lt_zero _),by rw[←ag e];simp⟩
    |cons y ys=>
     cases vs with
     |nil=>simp at lb
     |cons v vs=>
      obtain⟨_,r1,q1⟩:=ha
      obtain⟨_,r2,q2⟩:=hb
      cases q1 with
      |cons w1 w2=>
       cases q2 with
       |cons z1 z2=>
        cases r1 with
        |cons m1 m2=>
         cases r2 with
         |cons n1 n2=>
          simp only at e
          cases e1:nB (fO n st) x y with
          |none=>rw[e1] at e;simp at e
          |some p=>
           cases e2:dU (nB (fO n st)) xs ys with
           |none=>rw[e1,e2] at e;simp at e
           |some q=>
            rw[e1,e2] at e
            have hE:=ih (A:=A) e1 ⟨_,m1,w1⟩ ⟨_,n1,z1⟩ hu
            obtain⟨f,hf,hk⟩:=pJ I S ih (A:=A) e2 ⟨_,m2,w2⟩ ⟨_,n2,z2⟩ hu
            refine⟨fun j=>match j with|0=>p|j+1=>f j,fun j h1 h2=>?_,?_⟩
            ·cases j with
             |zero=>exact hE
             |succ j=>exact hf j (by simpa using h1) (by simpa using h2)
            ·have e3:min (u::us).length (v::vs).length=min us.length vs.length+1:=by simp only[List.length_cons];omega
             have e4:((u::us).length==(v::vs).length)=(us.length==vs.length):=by simp
             rw[e3,e4,all_cons,←ag e,hk,Bool.and_assoc]
theorem vY{st:aQ}{f:D→D→Option Bool}{a b:D}{v:Value}{k:Bool}(h:f a b=some k→EqAt A s u v k)(e:nB f a b=some k)(pa:At X.K H ι st.length a u)(pb:At X.K H ι st.length b v):EqAt A s u v k:=by
 unfold nB at e
 split at e
 ·rename_i i j
  split at e
  ·rename_i hij
   subst hij
   obtain⟨y,q1,r1⟩:=pa
   obtain⟨z,q2,r2⟩:=pb
   cases q1
   cases q2
   cases r1
   cases r2
   rw[←ag e]
   exact EqAt.same _
  ·exact h e
 ·exact h e
theorem l7{X:Cx}{pins:List (Addr×Obj)}{σ:L2.St}{H:Hp}{s:Shared}{ι:Nat→Addr}{st:aQ}(I:Inv X pins σ H s)(S:Sim X.K H ι st):∀(n:Nat){a b:D}{u v:Value}{A:Around}{k:Bool},fO n st a b=some k→At X.K H ι st.length a u→At X.K H ι st.length b v→A.units+n<cLine→
  RcAt A s u v k∧RcNeAt A s u v (!k)∧EqAt A s u v k
 |0,_,_,_,_,_,_,e,_,_,_=>by unfold fO at e;cases e
 |n+1,a,b,u,v,A,k,e,pa,pb,hu=>by
  have hu0:A.units<cLine:=by omega
  have hu1:A.in1.units+n<cLine:=by show A.units+1+n<cLine;omega
  have e0:=e
  unfold fO at e
  cases ea:shape st a with
  |none=>rw[ea] at e;simp at e
  |some sa=>
   cases eb:shape st b with
   |none=>rw[ea,eb] at e;simp at e
   |some sb=>
    rw[ea,eb] at e
    have ua:=mw I S pa ea
    have ub:=mw I S pb eb
    have refs:∀{l l':Addr},u=.ref l→v=.ref l'→RcAt A s u v k→RcNeAt A s u v (!k)→RcAt A s u v k∧RcNeAt A s u v (!k)∧EqAt A s u v k:=fun{l l'} h1 h2 h3 h4=>by
     refine⟨h3,h4,?_⟩
     by_cases hl:l=l'
     ·have huv:u=v:=by rw[h1,h2,hl]
      subst huv
      have:=pa.uniq I S pb
      subst this
      rw[jD _ e0]
      exact EqAt.same _
     ·subst h1 h2
      exact EqAt.of_refs hl h3
    have seqs:∀{xs ys:List D}{us vs:List Value},dU (nB (fO n st)) xs ys=some k→wq X.K H ι st.length xs us→wq X.K H ι st.length ys vs→
      ∃e:Nat→Bool,(∀j (h1:j<us.length)(h2:j<vs.length),EqAt A.in1 s us[j] vs[j] (e j))∧k=((List.range (min us.length vs.length)).all e&&us.length==vs.length):=fun q ra rb=>pJ I S (fun a b c d=>vY (X:=X) (H:=H) (ι:=ι) (st:=st) (fun a=>(l7 I S n a b c d).2.2) a b c) q ra rb hu1
    cases ua with
    |sc fa ra=>
     cases ub with
     |sc fb rb=>cases e;exact⟨yM ra rb fa fb,tU ra rb fa fb,yr ra rb fa fb⟩
     |t hb _=>cases e;exact⟨iz hb hu0 ra fa,j9 hb hu0 ra fa,k6 (pF ra fa) (iz hb hu0 ra fa)⟩
     |l hb _=>cases e;exact⟨jP hb hu0 ra fa,mh hb hu0 ra fa,k6 (pF ra fa) (jP hb hu0 ra fa)⟩
     |d hb=>cases e
    | @t a1 xs its ha ra=>
     cases ub with
     |sc fb rb=>cases e;exact⟨iy ha hu0 rb fb,j8 ha hu0 rb fb,k8 (pr rb fb) (iy ha hu0 rb fb)⟩
     | @t b1 ys its2 hb rb=>
      obtain⟨f,hf,hk⟩:=seqs e ra rb
      have hf':∀j (h1:j<its.size)(h2:j<its2.size),EqAt A.in1 s its[j] its2[j] (f j):=fun j h1 h2=>by
       have q:=hf j (by simpa using h1) (by simpa using h2)
       rw[Array.getElem_toList,Array.getElem_toList] at q
       exact q
      have q1:=RcAt.tuples ha hb hu0 hf'
      have q2:=RcNeAt.tuples ha hb hu0 hf'
      have ek:((List.range (min its.size its2.size)).all f&&its.size==its2.size)=k:=by rw[hk];simp
      rw[ek] at q1 q2
      exact refs rfl rfl q1 q2
     |l hb _=>cases e;exact refs rfl rfl (RcAt.tuple_list ha hb hu0) (RcNeAt.tuple_list ha hb hu0)
     |d hb=>cases e
    | @l a1 xs its ha ra=>
     cases ub with
     |sc fb rb=>cases e;exact⟨jO ha hu0 rb fb,mf ha hu0 rb fb,k8 (pr rb fb) (jO ha hu0 rb fb)⟩
     |t hb _=>cases e;exact refs rfl rfl (RcAt.list_tuple ha hb hu0) (RcNeAt.list_tuple ha hb hu0)
     | @l b1 ys its2 hb rb=>
      obtain⟨f,hf,hk⟩:=seqs e ra rb
      have hf':∀j (h1:j<its.size)(h2:j<its2.size),EqAt A.in1 s its[j] its2[j] (f j):=fun j h1 h2=>by
       have q:=hf j (by simpa using h1) (by simpa using h2)
       rw[Array.getElem_toList,Array.getElem_toList] at q
       exact q
      by_cases hsz:its.size=its2.size
      ·have q1:=RcAt.lists ha hb hsz hu0 hf'
       have q2:=RcNeAt.lists ha hb hsz hu0 hf'
       have ek:(List.range its.size).all f=k:=by rw[hk];simp[hsz]
       rw[ek] at q1 q2
       exact refs rfl rfl q1 q2
      ·have ek:k=false:=by rw[hk];simp[hsz]
       subst ek
       exact refs rfl rfl (RcAt.lists_lengths ha hb (by simpa using hsz) hu0) (RcNeAt.lists_lengths ha hb (by simpa using hsz) hu0)
     |d hb=>cases e
    |d ha=>
     cases ub with
     |l hb _=>cases e;exact refs rfl rfl (RcAt.dict_list ha hb hu0) (RcNeAt.dict_list ha hb hu0)
     |_=>cases e
theorem bs{o:Option α}{f:α→Option β}{b:β}(h:o.bind f=some b):∃a,o=some a∧f a=some b:=by
 cases o with
 |none=>cases h
 |some a=>exact⟨a,rfl,h⟩
theorem eS{c:Prop}[Decidable c]{x:Option β}{b:β}(h:(if c then x else none)=some b):c∧x=some b:=by
 by_cases k:c
 ·rw[if_pos k] at h;exact⟨k,h⟩
 ·rw[if_neg k] at h;cases h
theorem Cd{c:Prop}[Decidable c]{x y:Option β}{b:β}(h:(if c then x else y)=some b):(c∧x=some b)∨y=some b:=by
 by_cases k:c
 ·rw[if_pos k] at h;exact .inl ⟨k,h⟩
 ·rw[if_neg k] at h;exact .inr h
theorem lN{o:Option α}{G:Option β}{F:α→Option β}{b:β}(h:o.elim G F=some b):(∃a,o=some a∧F a=some b)∨(o=none∧G=some b):=by
 cases o with
 |none=>exact .inr ⟨rfl,h⟩
 |some a=>exact .inl ⟨a,rfl,h⟩
theorem map_some{f:α→β}{o:Option α}{b:β}(h:o.map f=some b):∃a,o=some a∧b=f a:=by
 cases o with
 |none=>cases h
 |some a=>exact⟨a,rfl,(ag h).symm⟩
noncomputable def one{α:Type}:List α→Option α
 |[a]=>some a
 |_=>none
theorem cw{l:List α}{a:α}(h:one l=some a):l=[a]:=by
 rcases l with _|⟨b,_|⟨c,l⟩⟩<;>cases h
 rfl
noncomputable def mH{α:Type}:List α→Option (α×α)
 |[a,b]=>some (a,b)
 |_=>none
theorem fU{l:List α}{p:α×α}(h:mH l=some p):l=[p.1,p.2]:=by
 rcases l with _|⟨b,_|⟨c,_|⟨d,l⟩⟩⟩<;>cases h
 rfl
noncomputable def i6:List (Key×D)→Key→Option D
 |[],_=>none
 |p::r,k=>if p.1=k then some p.2 else i6 r k
noncomputable abbrev Loc:=List (Option D)
inductive Bo where
 |add|sub|mul|fdiv|mod|pow
inductive Bt where
 |len|list|tuple|int|all|dict
inductive Ty where
 |int|bool|list|tuple
inductive Ex where
 |c (d:D)|v (i:Nat)|tup (es:List Ex)|lst (es:List Ex)|emp
 |bin (op:Bo)(a b:Ex)|neg (a:Ex)|not (a:Ex)|and (a b:Ex)|or (a b:Ex)
 |cmp (op:CmpOp)(a b:Ex)|chain (op op':CmpOp)(a b c:Ex)
 |ix (a b:Ex)|sl (a lo hi:Ex)(hl hh:Bool)
 |fn (f:Nat) (args:List Ex)|bt (f:Bt)(args:List Ex)|isi (a:Ex)(t:Ty)
 |comp (rng:Bool)(src elt:Ex)
 |ite (c a b:Ex)|compE (src elt:Ex)|dict (ks:List Str) (vs:List Ex)|pop (o:Ex)(fr:Bool)
 |fld (a:Ex)(f:Str)(cs ics:List Str)|isc (a:Ex)(yes no:List Str)
 |new (x:Str) (f:Nat) (args:List Ex)|meth (o:Ex)(m:Str)(ms:List (Str×Nat))(args:List Ex)
 |lrev (a:Ex)|compU (src elt:Ex)|compZ (a b elt:Ex)|dictP (a:Ex)|inG (ks:List Str)(a:Ex)
noncomputable def alloc(xs:List D):M D:=fun st=>.ok (.ref st.length) (st++[.lst xs])
noncomputable def allocD:M D:=fun st=>.ok (.ref st.length) (st++[.dct []])
noncomputable def cJ(st:aQ):D→Option (List D)
 | .tup xs=>some xs
 | .fl xs=>some xs
 | .ref n=>match st[n]? with
  |some (.lst xs)=>some xs
  |_=>none
 |_=>none
noncomputable def xJ(fr:Bool)(x:D):M D:=fun st=>match x with
 | .ref n=>match st[n]? with
  |some (.lst xs)=>if fr then .bad else(match xs[xs.length - 1]? with
   |some y=>.ok y (st.set n (.lst xs.dropLast))
   |none=>.bad)
  |_=>.bad
 |_=>.bad
noncomputable def big:Int:=18446744073709551616
noncomputable def cW(op:Bo)(x y:D):M D:=fun st=>match op,x,y with
 | .add,.int i,.int j=>.ok (.int (i+j)) st
 | .add,.tup (a::as),.tup bs=>if(a::as).length+bs.length≤1000000 then .ok (.tup (a::as++bs)) st else .bad
 | .add,.tup [],.tup bs=>.ok (.tup bs) st
 | .add,.ref m,.ref n=>match st[m]?,st[n]? with
  |some (.lst as),some (.lst bs)=>if as.length+bs.length≤1000000 then alloc (as++bs) st else .bad
  |_,_=>.bad
 | .sub,.int i,.int j=>.ok (.int (i - j)) st
 | .mul,.int i,.int j=>if((-big<i∧i<big)∨(-big<j∧j<big))∨(i.natAbs<2^1000∧j.natAbs<2^1000) then .ok (.int (i*j)) st else .bad
 | .mul,.ref m,.int j=>match st[m]? with
  |some (.lst as)=>if 0≤j∧j≤1000∧as.length≤1000 then alloc (List.flatten (List.replicate j.toNat as)) st else .bad
  |_=>.bad
 | .mul,.tup as,.int j=>if 1≤j∧j≤1000∧0<as.length∧as.length≤1000 then .ok (.tup (List.flatten (List.replicate j.toNat as))) st else .bad
 | .fdiv,.int i,.int j=>if j≠0∧j.natAbs<2^200 then .ok (.int (i.fdiv j)) st else .bad
 | .mod,.int i,.int j=>if j≠0 then .ok (.int (i.fmod j)) st else .bad
 | .pow,.int i,.int j=>if 0≤j∧j≤1000∧i.natAbs<1000 then .ok (.int (i^j.toNat)) st else .bad
 |_,_,_=>.bad
noncomputable def iw(st:aQ)(x:D):List D→Option Bool
 |[]=>some false
 |y::ys=>match fO 60 st y x,iw st x ys with
  |some a,some b=>some (a||b)
  |_,_=>none
noncomputable def il(o:D):M Unit:=fun st=>match o with
 | .ref n=>match st[n]? with
  |some (.lst _)=>.ok () st
  |_=>.bad
 |_=>.bad
noncomputable def allB:List D→Option Bool
 |[]=>some true
 | .bl b::ds=>match allB ds with
  |some k=>some (b&&k)
  |none=>none
 |_::_=>none
noncomputable def vM:D→Option Key
 | .int i=>some (.inl i)
 | .str s=>some (.inr s)
 |_=>none
noncomputable def l9(st:aQ)(x y:D):Option Bool:=match vM x,y with
 |some k,.ref n=>match st[n]? with
  |some (.dct kvs)=>some (i6 kvs k).isSome
  |_=>none
 |_,_=>none
noncomputable def Am(x y:D):Option Bool:=match y with
 | .non=>some (match x with| .non=>true|_=>false)
 |_=>none
noncomputable def ce(op:CmpOp)(x y:D):M D:=fun st=>match op with
 | .Eq=>match fO 60 st x y with
  |some k=>.ok (.bl k) st
  |none=>.bad
 | .NotEq=>match fO 60 st x y with
  |some k=>.ok (.bl (!k)) st
  |none=>.bad
 | .Lt=>match x,y with
  | .int i,.int j=>.ok (.bl (decide (i<j))) st
  |_,_=>.bad
 | .LtE=>match x,y with
  | .int i,.int j=>.ok (.bl (decide (i≤j))) st
  |_,_=>.bad
 | .Gt=>match x,y with
  | .int i,.int j=>.ok (.bl (decide (j<i))) st
  |_,_=>.bad
 | .In=>match cJ st y with
  |some ys=>match iw st x ys with
   |some k=>.ok (.bl k) st
   |none=>.bad
  |none=>match l9 st x y with
   |some k=>.ok (.bl k) st
   |none=>.bad
 | .NotIn=>match cJ st y with
  |some ys=>match iw st x ys with
   |some k=>.ok (.bl (!k)) st
   |none=>.bad
  |none=>match l9 st x y with
   |some k=>.ok (.bl (!k)) st
   |none=>.bad
 | .Is=>match Am x y with
  |some k=>.ok (.bl k) st
  |none=>.bad
 | .IsNot=>match Am x y with
  |some k=>.ok (.bl (!k)) st
  |none=>.bad
 |_=>.bad
noncomputable def AL(st:aQ)(x:D)(k:Key):R D:=match x with
 | .ref n=>match st[n]? with
  |some (.dct kvs)=>match i6 kvs k with
   |some d=>.ok d st
   |none=>.bad
  |_=>.bad
 |_=>.bad
noncomputable def index(x y:D):M D:=fun st=>match x,y with
 |x,.int i=>match cJ st x with
  |some xs=>match qD xs i with
   |some d=>.ok d st
   |none=>.bad
  |none=>AL st x (.inl i)
 |x,.str k=>AL st x (.inr k)
 |_,_=>.bad
noncomputable def f9(f:Bt)(ds:List D):M D:=fun st=>match f,ds with
 | .len,[x]=>match cJ st x with
  |some xs=>.ok (.int xs.length) st
  |none=>.bad
 | .list,[x]=>match cJ st x with
  |some xs=>alloc xs st
  |none=>.bad
 | .tuple,[.tup xs]=>.ok (.tup xs) st
 | .tuple,[x]=>match cJ st x with
  |some xs=>.ok (.tup xs) st
  |none=>.bad
 | .int,[.int i]=>.ok (.int i) st
 | .int,[.bl b]=>.ok (.int (if b then 1 else 0)) st
 | .all,[.ref n]=>match st[n]? with
  |some (.lst xs)=>match allB xs with
   |some k=>.ok (.bl k) st
   |none=>.bad
  |_=>.bad
 | .dict,[.ref n]=>match st[n]? with
  |some (.dct kvs)=>.ok (.ref st.length) (st++[.dct kvs])
  |_=>.bad
 |_,_=>.bad
noncomputable def bY(st:aQ)(t:Ty):D→Option Bool
 | .non=>some false
 | .bl _=>some (match t with| .int=>true| .bool=>true|_=>false)
 | .int _=>some (match t with| .int=>true|_=>false)
 | .str _=>some false
 | .tup _=>some (match t with| .tuple=>true|_=>false)
 | .fl _=>some (match t with| .list=>true|_=>false)
 | .ref n=>match st[n]? with
  |some (.lst _)=>some (match t with| .list=>true|_=>false)
  |some (.dct _)=>some false
  |_=>none
inductive Src where
 |its (xs:List D)|at(n:Nat)|en (n:Nat)|zp (xs:List D) (n:Nat)
noncomputable def c9(n:Nat):List D:=(List.range n).map fun(i:Nat)=>D.int (i:Int)
noncomputable def c8(rng:Bool)(d:D):Option Src:=match rng,d with
 |true,.int j=>if -1000000≤j∧j≤1000000 then some (.its (c9 j.toNat)) else none
 |false,.tup xs=>some (.its xs)
 |false,.fl xs=>some (.its xs)
 |false,.ref n=>some (.at n)
 |_,_=>none
noncomputable def jE(k:Nat):List D→List D
 |[]=>[]
 |x::xs=>.tup [.int (k:Int),x]::jE (k+1) xs
theorem kH:∀(xs:List D)(k i:Nat),(jE k xs)[i]? =xs[i]?.map fun x=>.tup [.int ((k+i:Nat):Int),x]
 |[],k,i=>by simp[jE]
 |x::xs,k,0=>by simp[jE]
 |x::xs,k,i+1=>by
  simp only[jE,List.getElem?_cons_succ]
  rw[kH xs (k+1) i,show k+1+i=k+(i+1) by omega]
noncomputable def kG:D→Option Src
 | .ref n=>some (.en n)
 | .tup xs=>some (.its (jE 0 xs))
 |_=>none
noncomputable def yV:D→D→Option Src
 | .tup xs,.ref n=>some (.zp xs n)
 |_,_=>none
noncomputable def gm(s:Src)(i:Nat)(st:aQ):Option (Option D):=match s with
 | .its xs=>some xs[i]?
 | .at n=>match st[n]? with
  |some (.lst xs)=>some xs[i]?
  |_=>none
 | .en n=>match st[n]? with
  |some (.lst xs)=>some (xs[i]?.map fun x=>.tup [.int (i:Int),x])
  |_=>none
 | .zp xs n=>match st[n]? with
  |some (.lst ys)=>some (match xs[i]?,ys[i]? with
   |some x,some y=>some (.tup [x,y])
   |_,_=>none)
  |_=>none
noncomputable def ej(s:Src)(st:aQ):Nat:=match s with
 | .its xs=>xs.length
 | .at n=>match st[n]? with
  |some (.lst xs)=>xs.length
  |_=>0
 | .en n=>match st[n]? with
  |some (.lst xs)=>xs.length
  |_=>0
 | .zp xs _=>xs.length
noncomputable def cV(f:D→M (Option D))(s:Src):Nat→Nat→List D→M (List D)
 |0,_,_=>stuck
 |k+1,i,acc=>fun st=>match gm s i st with
  |some (some x)=>aW (f x) (fun o=>match o with
   |some y=>cV f s k (i+1) (acc++[y])
   |none=>cV f s k (i+1) acc) st
  |some none=>.ok acc st
  |none=>.bad
noncomputable def bK(f:D→M (Option D))(s:Src):M D:=fun st=>if ej s st≤1000000 then aW (cV f s (ej s st+1) 0 []) alloc st else .bad
noncomputable def iu:D→Option Bool
 | .bl b=>some b
 |_=>none
noncomputable def jr:D→Option Int
 | .int i=>some i
 |_=>none
noncomputable def cutD(xs:List D)(lo hi:Option Int):List D:=(xs.drop (HT.cZ xs.length 0 lo)).take (HT.cZ xs.length xs.length hi - HT.cZ xs.length 0 lo)
noncomputable def slice(x:D)(lo hi:Option Int):M D:=fun st=>match x with
 | .tup xs=>if HT.cZ xs.length 0 lo=0∧HT.cZ xs.length xs.length hi=xs.length then .bad else .ok (.tup (cutD xs lo hi)) st
 |x=>match cJ st x with
  |some xs=>alloc (cutD xs lo hi) st
  |none=>.bad
noncomputable def tQ(ks:List Str)(ds:List D):M D:=fun st=>if ks.length=ds.length∧ks.Nodup then .ok (.ref st.length) (st++[.dct ((ks.zip ds).map fun p=>(Sum.inr p.1,p.2))]) else .bad
noncomputable def om(f:Str)(cs ics:List Str)(x:D):M D:=fun st=>match x with
 | .ref n=>match st[n]? with
  |some (.ins c fs)=>match fs.lookup f with
   |some d=>if c∈ics then .ok d st else .bad
   |none=>.bad
  |some (.err c (some m) _)=>match st[m]? with
   |some (.edc fs)=>match fs.lookup f with
    |some d=>if c∈cs then .ok d st else .bad
    |none=>.bad
   |_=>.bad
  |_=>.bad
 |_=>.bad
noncomputable def jI(st:aQ):Option Nat→Bool
 |none=>true
 |some m=>match st[m]? with
  |some (.edc _)=>true
  |_=>false
noncomputable def vP(yes no:List Str)(x:D):M D:=fun st=>match x with
 | .non=>.ok (.bl false) st
 | .ref n=>match st[n]? with
  |some (.err c d _)=>if jI st d=true then(if c∈yes then .ok (.bl true) st else if c∈no then .ok (.bl false) st else .bad) else .bad
  |_=>.bad
 |_=>.bad
noncomputable def Cy(yes no:List Str)(x:D):M D:=fun st=>match x with
 | .ref n=>match st[n]? with
  |some (.ins c _)=>if c∈yes then .ok (.bl true) st else if c∈no then .ok (.bl false) st else .bad
  |_=>.bad
 |_=>.bad
noncomputable def qz(x:D):M Str:=fun st=>match x with
 | .ref n=>match st[n]? with
  |some (.ins c _)=>.ok c st
  |_=>.bad
 |_=>.bad
noncomputable def pw(m:Str)(ms:List (Str×Nat))(x:D):M Nat:=fun st=>match x with
 | .ref n=>match st[n]? with
  |some (.ins c fs)=>match fs.lookup m,ms.lookup c with
   |none,some j=>.ok j st
   |_,_=>.bad
  |_=>.bad
 |_=>.bad
inductive Rs where
 |v (d:D)|x (n:Nat)
noncomputable def Rs.val?:Rs→Option D
 | .v d=>some d
 | .x _=>none
noncomputable abbrev cY:=Nat→List D→M Rs
noncomputable def sB(g:cY)(x:Str)(f:Nat)(ds:List D):M D:=fun st=>aW (g f (.ref st.length::ds)) (fun r=>match r with
 | .v .non=>ret (.ref st.length)
 |_=>stuck) (st++[.ins x []])
noncomputable def ko(kvs:List (Key×D))(k:Key)(v:D):List (Key×D):=if(kvs.any fun kv=>decide (kv.1=k)) then kvs.map (fun kv=>if kv.1=k then(kv.1,v) else kv) else kvs++[(k,v)]
noncomputable def BA(x:D):M D:=fun st=>match x with
 | .tup xs=>alloc xs.reverse st
 |_=>.bad
noncomputable def Cu:D→Option (Key×D)
 | .tup xs=>(mH xs).bind fun p=>(vM p.1).map fun k=>(k,p.2)
 |_=>none
noncomputable def vp:List D→Option (List (Key×D))
 |[]=>some []
 |x::r=>(Cu x).bind fun p=>(vp r).map fun q=>p::q
noncomputable def m4(ps:List (Key×D)):List (Key×D):=ps.foldl (fun acc p=>ko acc p.1 p.2) []
noncomputable def oA(x:D):M D:=fun st=>match x with
 | .ref n=>match st[n]? with
  |some (.lst xs)=>match vp xs with
   |some ps=>.ok (.ref st.length) (st++[.dct (m4 ps)])
   |none=>.bad
  |_=>.bad
 |_=>.bad
noncomputable def BO(ks:List Str):D→Option D
 | .str s=>some (.bl (ks.contains s))
 |_=>none
noncomputable def pairF(f:D→D→M D):D→M (Option D):=fun x=>match x with
 | .tup [a,b]=>aW (f a b) fun y=>ret (some y)
 |_=>stuck
mutual
noncomputable def run(g:cY):Ex→Loc→M D
 | .c d,_=>ret d
 | .v i,loc=>dX (loc[i]?.join)
 | .tup es,loc=>aW (runs g es loc) fun ds=>ret (.tup ds)
 | .lst es,loc=>aW (runs g es loc) alloc
 | .emp,_=>allocD
 | .bin op a b,loc=>aW (run g a loc) fun x=>aW (run g b loc) fun y=>cW op x y
 | .neg a,loc=>aW (run g a loc) fun x=>aW (dX (jr x)) fun i=>ret (.int (-i))
 | .not a,loc=>aW (run g a loc) fun x=>aW (dX (iu x)) fun b=>ret (.bl (!b))
 | .and a b,loc=>aW (run g a loc) fun x=>aW (dX (iu x)) fun k=>if k then run g b loc else ret (.bl false)
 | .or a b,loc=>aW (run g a loc) fun x=>aW (dX (iu x)) fun k=>if k then ret (.bl true) else run g b loc
 | .cmp op a b,loc=>aW (run g a loc) fun x=>aW (run g b loc) fun y=>ce op x y
 | .chain op op' a b c,loc=>aW (run g a loc) fun x=>aW (run g b loc) fun y=>aW (ce op x y) fun z=>aW (dX (iu z)) fun k=>if k then aW (run g c loc) fun w=>ce op' y w else ret (.bl false)
 | .ix a b,loc=>aW (run g a loc) fun x=>aW (run g b loc) fun y=>index x y
 | .sl a lo hi hl hh,loc=>aW (run g a loc) fun x=>aW (if hl then aW (run g lo loc) fun z=>aW (dX (jr z)) fun i=>ret (some i) else ret none) fun l=>
   aW (if hh then aW (run g hi loc) fun z=>aW (dX (jr z)) fun i=>ret (some i) else ret none) fun h=>slice x l h
 | .fn f args,loc=>aW (runs g args loc) fun ds=>aW (g f ds) fun r=>dX r.val?
 | .bt f args,loc=>aW (runs g args loc) fun ds=>f9 f ds
 | .isi a t,loc=>aW (run g a loc) fun x=>fun st=>match bY st t x with
  |some k=>.ok (.bl k) st
  |none=>.bad
 | .comp rng src elt,loc=>aW (run g src loc) fun d=>aW (dX (c8 rng d)) fun s=>bK (fun x=>aW (run g elt (some x::loc)) fun y=>ret (some y)) s
 | .ite c a b,loc=>aW (run g c loc) fun x=>aW (dX (iu x)) fun k=>if k then run g a loc else run g b loc
 | .compE src elt,loc=>aW (run g src loc) fun d=>aW (dX (kG d)) fun s=>
   bK (fun x=>match x with
    | .tup [a,b]=>aW (run g elt (some a::some b::loc)) fun y=>ret (some y)
    |_=>stuck) s
 | .dict ks es,loc=>aW (runs g es loc) fun ds=>tQ ks ds
 | .pop o fr,loc=>aW (run g o loc) fun x=>xJ fr x
 | .fld a f cs ics,loc=>aW (run g a loc) fun x=>om f cs ics x
 | .isc a yes no,loc=>aW (run g a loc) fun x=>vP yes no x
 | .new x f args,loc=>aW (runs g args loc) fun ds=>sB g x f ds
 | .meth o m ms args,loc=>aW (run g o loc) fun x=>aW (pw m ms x) fun j=>aW (runs g args loc) fun ds=>aW (g j (x::ds)) fun r=>dX r.val?
 | .lrev a,loc=>aW (run g a loc) fun x=>BA x
 | .compU src elt,loc=>aW (run g src loc) fun d=>aW (dX (c8 false d)) fun s=>bK (pairF fun a b=>run g elt (some a::some b::loc)) s
 | .compZ a b elt,loc=>aW (run g a loc) fun x=>aW (run g b loc) fun y=>aW (dX (yV x y)) fun s=>bK (pairF fun a b=>run g elt (some a::some b::loc)) s
 | .dictP a,loc=>aW (run g a loc) fun x=>oA x
 | .inG ks a,loc=>aW (run g a loc) fun x=>dX (BO ks x)
noncomputable def runs(g:cY):List Ex→Loc→M (List D)
 |[],_=>ret []
 |e::es,loc=>aW (run g e loc) fun d=>aW (runs g es loc) fun ds=>ret (d::ds)
end
inductive Tg where
 |no|set (i:Nat)
inductive S where
 |set (i:Nat)(e:Ex)|setix (o i e:Ex)|ret (e:Ex)|ret0|ex (e:Ex)|app (o e:Ex)|pass
 |ite (c:Ex)(a b:List S)|for_ (i:Nat)(rng:Bool)(src:Ex)(body:List S)
 |whil (c:Ex)(body:List S)|forE (is:List Nat)(src:Ex)(body:List S)
 |setf (o:Ex)(f:Str)(e:Ex)(cs ics:List Str)|augf (o:Ex)(f:Str)(e:Ex)(ics:List Str)|callx (k:Tg)(f:Nat) (args:List Ex)|rais (x:Str) (f:Nat) (args:List Ex)
 |aug (i:Nat)(e:Ex)|ext (o e:Ex)|forU (is:List Nat)(src:Ex)(body:List S)|tryx (body:List S) (yes:List Str) (i:Nat) (suite:List S)
 |stop
inductive Fl where
 |nx (loc:Loc)|rt (d:D)|ex (n:Nat)(loc:Loc)
noncomputable def gy(o i v:D):M Unit:=fun st=>match o with
 | .ref n=>match st[n]? with
  |some (.lst xs)=>match i with
   | .int k=>match t5 xs.length k with
    |some j=>.ok () (st.set n (.lst (xs.set j v)))
    |none=>.bad
   |_=>.bad
  |some (.dct kvs)=>match vM i with
   |some k=>if kvs.length<1000000 then .ok () (st.set n (.dct (ko kvs k v))) else .bad
   |none=>.bad
  |_=>.bad
 |_=>.bad
noncomputable def append(o v:D):M Unit:=fun st=>match o with
 | .ref n=>match st[n]? with
  |some (.lst xs)=>if xs.length<1000000 then .ok () (st.set n (.lst (xs++[v]))) else .bad
  |_=>.bad
 |_=>.bad
noncomputable def extend(o v:D):M Unit:=fun st=>match o,v with
 | .ref n,.ref m=>match st[n]?,st[m]? with
  |some (.lst xs),some (.lst ys)=>if xs.length+ys.length≤10000000 then .ok () (st.set n (.lst (xs++ys))) else .bad
  |_,_=>.bad
 |_,_=>.bad
noncomputable def tR(x y:D):M D:=fun st=>match x,y with
 | .int i,.int j=>.ok (.int (i+j)) st
 |_,_=>.bad
noncomputable def f8(f:D→Loc→M Fl)(s:Src):Nat→Nat→Loc→M Fl
 |0,_,_=>stuck
 |k+1,i,loc=>fun st=>match gm s i st with
  |some (some x)=>aW (f x loc) (fun r=>match r with
   | .nx loc'=>f8 f s k (i+1) loc'
   | .rt d=>ret (.rt d)
   | .ex n l=>ret (.ex n l)) st
  |some none=>.ok (.nx loc) st
  |none=>.bad
noncomputable def gq(f:D→Loc→M Fl)(s:Src)(loc:Loc):M Fl:=fun st=>f8 f s (ej s st+1) 0 loc st
noncomputable def gj(c:Loc→M D)(f:Loc→M Fl):Nat→Loc→M Fl
 |0,_=>stuck
 |k+1,loc=>aW (c loc) fun x=>aW (dX (iu x)) fun b=>if b then aW (f loc) (fun r=>match r with
   | .nx loc'=>gj c f k loc'
   | .rt d=>ret (.rt d)
   | .ex n l=>ret (.ex n l)) else ret (.nx loc)
noncomputable def yp:Nat:=1000000000
noncomputable def jW:List Nat→List D→Loc→Loc
 |i::is,d::ds,loc=>jW is ds (loc.set i (some d))
 |_,_,loc=>loc
noncomputable def items?(n:Nat)(d:D):M (List D):=fun st=>match cJ st d with
 |some xs=>if xs.length=n then .ok xs st else .bad
 |none=>.bad
noncomputable def fE(cs ics:List Str)(o:D)(f:Str)(v:D):M Unit:=fun st=>match o with
 | .ref n=>match st[n]? with
  |some (.ins c fs)=>if fs.length<900∧c∈ics then .ok () (st.set n (.ins c (putD f v fs))) else .bad
  |some (.err c none t)=>if c∈cs then .ok () (st.set n (.err c (some st.length) t)++[.edc [(f,v)]]) else .bad
  |some (.err c (some m) _)=>match st[m]? with
   |some (.edc fs)=>if fs.length<900∧c∈cs then .ok () (st.set m (.edc (putD f v fs))) else .bad
   |_=>.bad
  |_=>.bad
 |_=>.bad
noncomputable def As(k:Tg)(d:D)(loc:Loc):M Fl:=match k with
 | .no=>ret (.nx loc)
 | .set i=>ret (.nx (loc.set i (some d)))
noncomputable def sW(k:Tg)(loc:Loc):Rs→M Fl
 | .v d=>As k d loc
 | .x n=>ret (.ex n loc)
noncomputable def jj(g:cY)(x:Str)(f:Nat)(ds:List D):M Nat:=fun st=>aW (g f (.ref st.length::ds)) (fun r=>match r with
 | .v .non=>fun st1=>match st1[st.length]? with
  |some (.err c d false)=>if c=x then .ok st.length (st1.set st.length (.err c d true)) else .bad
  |_=>.bad
 |_=>stuck) (st++[.err x none false])
mutual
noncomputable def exec(g:cY):S→Loc→M Fl
 | .set i e,loc=>aW (run g e loc) fun d=>ret (.nx (loc.set i (some d)))
 | .setix o i e,loc=>aW (run g e loc) fun d=>aW (run g o loc) fun x=>aW (run g i loc) fun k=>aW (gy x k d) fun _=>ret (.nx loc)
 | .ret e,loc=>aW (run g e loc) fun d=>ret (.rt d)
 | .ret0,_=>ret (.rt .non)
 | .ex e,loc=>aW (run g e loc) fun _=>ret (.nx loc)
 | .app o e,loc=>aW (run g o loc) fun x=>aW (il x) fun _=>aW (run g e loc) fun d=>aW (append x d) fun _=>ret (.nx loc)
 | .pass,loc=>ret (.nx loc)
 | .ite c a b,loc=>aW (run g c loc) fun x=>aW (dX (iu x)) fun k=>if k then execs g a loc else execs g b loc
 | .for_ i rng src body,loc=>aW (run g src loc) fun d=>aW (dX (c8 rng d)) fun s=>gq (fun x loc'=>execs g body (loc'.set i (some x))) s loc
 | .whil c body,loc=>gj (run g c) (execs g body) yp loc
 | .forE is src body,loc=>aW (run g src loc) fun d=>aW (dX (kG d)) fun s=>gq (fun x loc'=>aW (items? is.length x) fun ds=>execs g body (jW is ds loc')) s loc
 | .setf o f e cs ics,loc=>aW (run g e loc) fun d=>aW (run g o loc) fun x=>aW (fE cs ics x f d) fun _=>ret (.nx loc)
 | .augf o f e ics,loc=>aW (run g o loc) fun x=>aW (om f [] ics x) fun y=>aW (qz x) fun c=>aW (run g e loc) fun z=>aW (tR y z) fun w=>aW (qz x) fun c'=>if c=c' then aW (fE [] ics x f w) fun _=>ret (.nx loc) else stuck
 | .callx k f args,loc=>aW (runs g args loc) fun ds=>aW (g f ds) fun r=>sW k loc r
 | .rais x f args,loc=>aW (runs g args loc) fun ds=>aW (jj g x f ds) fun n=>ret (.ex n loc)
 | .aug i e,loc=>aW (run g (.v i) loc) fun x=>aW (run g e loc) fun y=>aW (tR x y) fun z=>ret (.nx (loc.set i (some z)))
 | .ext o e,loc=>aW (run g o loc) fun x=>aW (il x) fun _=>aW (run g e loc) fun d=>aW (extend x d) fun _=>ret (.nx loc)
 | .forU is src body,loc=>aW (run g src loc) fun d=>aW (dX (c8 false d)) fun s=>gq (fun x loc'=>aW (items? is.length x) fun ds=>execs g body (jW is ds loc')) s loc
 | .tryx body yes i suite,loc=>aW (execs g body loc) fun r=>match r with
  | .nx l=>ret (.nx l)
  | .rt d=>ret (.rt d)
  | .ex n l=>fun st=>match st[n]? with
   |some (.err x _ true)=>if x∈yes then aW (execs g suite (l.set i (some (.ref n)))) (fun r=>match r with
     | .nx l2=>ret (.nx (l2.set i none))
     | .rt d=>ret (.rt d)
     | .ex _ _=>stuck) st else .bad
   |_=>.bad
 | .stop,_=>stuck
noncomputable def execs(g:cY):List S→Loc→M Fl
 |[],loc=>ret (.nx loc)
 |s::ss,loc=>aW (exec g s loc) fun r=>match r with
  | .nx loc'=>execs g ss loc'
  | .rt d=>ret (.rt d)
  | .ex n l=>ret (.ex n l)
end
structure Fn where
 ar:Nat
 nl:Nat
 body:List S
noncomputable def nr(g:cY)(f:Fn)(ds:List D):M Rs:=if ds.length=f.ar then aW (execs g f.body (ds.map some++List.replicate (f.nl - ds.length) none)) fun r=>match r with
  | .nx _=>ret (.v .non)
  | .rt d=>ret (.v d)
  | .ex n _=>ret (.x n)
 else stuck
noncomputable def calls(tab:List Fn):Nat→cY
 |0,_,_=>stuck
 |k+1,f,ds=>match tab[f]? with
  |some fn=>nr (calls tab k) fn ds
  |none=>stuck
noncomputable def ck(K:al)(H:Hp)(ι:Nat→Addr)(st:aQ)(r:R D)(Q:VK):Prop:=match r with
 | .ok d st'=>∀H' ι' v,Ext H H' ι ι' st.length st'.length→Sim K H' ι' st'→VRel K H' ι' st'.length d v→Q v H'
 | .bad=>False
section
variable{K:al}{H:Hp}{ι:Nat→Addr}{st:aQ}{Q:VK}
theorem ck.same{d:D}(S:Sim K H ι st)(P:ck K H ι st (.ok d st) Q)(r:VRel K H ι st.length d v):Q v H:=P H ι v (Ext.refl _ _ _) S r
theorem ck.mono{H1:Hp}{st1:aQ}{r:R D}(P:ck K H ι st r Q)(E:Ext H H1 ι ι1 st.length st1.length):ck K H1 ι1 st1 r Q:=by
 cases r with
 |ok d st'=>exact fun H' ι' v E' S' r'=>P H' ι' v (E.trans E') S' r'
 |bad=>exact P
theorem ck.alloc{xs:List D}(S:Sim K H ι st)(P:ck K H ι st (alloc xs st) Q)(r:VRels K H ι st.length xs vs):∀p,H p=none→Q (.ref p) (bj H p (.lst vs)):=fun p hp=>by
 obtain⟨ι',E,e,S'⟩:=S.laid (o:= .lst xs) (ho:= .lst vs) hp (fun ι' h1 h2=>⟨vs,ba,VRels.ext0 ⟨Nat.le_succ _,h1,fun b xs e=>by rw[av (au e hp)];exact e,fun b ob u e=>by rw[av (au e hp)];exact e⟩ r⟩)
 have l:(st++[O.lst xs]).length=st.length+1:=by simp
 refine P _ ι' _ (by rw[l];exact E) S' ?_
 rw[←e,l]
 exact .ref (aB _)
theorem ck.allocD(S:Sim K H ι st)(P:ck K H ι st (allocD st) Q):∀p,H p=none→Q (.ref p) (bj H p (.dK [])):=fun p hp=>by
 obtain⟨ι',E,e,S'⟩:=S.laid (o:= .dct []) (ho:= .dK []) hp (fun ι' h1 h2=>⟨[],ba,.nil⟩)
 have l:(st++[O.dct []]).length=st.length+1:=by simp
 refine P _ ι' _ (by rw[l];exact E) S' ?_
 rw[←e,l]
 exact .ref (aB _)
theorem ck.tup{xs:List D}(S:Sim K H ι st)(P:ck K H ι st (.ok (.tup xs) st) Q)(r:VRels K H ι st.length xs vs):∀p,H p=none→Q (.ref p) (bj H p (.tup vs)):=fun p hp=>by
 have hK:∀n,n<st.length→ι n≠p:=fun n hn=>by
  obtain⟨_,h,_⟩:=S.obj hn;exact au h hp
 have E:Ext H (bj H p (.tup vs)) ι ι st.length st.length:=⟨⟨af _,fun _ _=>rfl,fun b xs e=>by rw[av (au e hp)];exact e,fun b ob u e=>by rw[av (au e hp)];exact e⟩,fun b ob e k=>⟨by rw[av (au e hp)];exact e,k⟩⟩
 refine P _ ι _ E ⟨S.inj,fun n o e=>?_⟩ (.tup (eN.of ba) (r.ext E))
 have hn:n<st.length:=(aH e).1
 have old:=S.ob n o e
 exact old.move E.toExt0 (av (hK n hn))
theorem VRel.seq{d:D}{xs:List D}(S:Sim K H ι st)(r:VRel K H ι st.length d v)(e:cJ st d=some xs):∃a vs,v=.ref a∧(du K H a vs∨eN K H a vs)∧VRels K H ι st.length xs vs:=by
 cases r with
 |non=>cases e
 |bl b=>cases e
 |int i=>cases e
 |str x=>cases e
 |tup h r=>cases e;exact⟨_,_,rfl,.inr h,r⟩
 |fl h r=>cases e;exact⟨_,_,rfl,.inl h.sql,r⟩
 | @ref n hn=>
  simp only[cJ] at e
  cases q:st[n]? with
  |none=>rw[q] at e;cases e
  |some o=>
   rw[q] at e
   cases o with
   |lst zs=>
    cases e
    obtain⟨vs,h1,h2⟩:=S.ob n _ q
    exact⟨_,vs,rfl,.inl (du.of h1),h2⟩
   |_=>cases e
theorem VRels.inv1{d:D}(r:VRels K H ι st.length [d] vs):∃v,vs=[v]∧VRel K H ι st.length d v:=by
 cases r with
 |cons h t=>cases t;exact⟨_,rfl,h⟩
end
noncomputable def rD(K:al)(op:D→D→M D):R2:=fun vx vy H Q=>∃ι st dx dy,Sim K H ι st∧VRel K H ι st.length dx vx∧VRel K H ι st.length dy vy∧ck K H ι st (op dx dy st) Q
noncomputable def Bo.op:Bo→Operator
 | .add=> .Add
 | .sub=> .Sub
 | .mul=> .Mult
 | .fdiv=> .FloorDiv
 | .mod=> .Mod
 | .pow=> .Pow
theorem jA{K:al}{H:Hp}{ι:Nat→Addr}{m:Nat}{as:List D}{vs:List V}(r:VRels K H ι m as vs):∀n:Nat,VRels K H ι m (List.replicate n as).flatten (List.replicate n vs).flatten
 |0=>.nil
 |n+1=>by
  rw[List.replicate_succ,List.replicate_succ,List.flatten_cons,List.flatten_cons]
  exact r.append (jA r n)
theorem sx:iA X (binaryOp .FloorDiv) (rI (fun _ j=>j≠0∧j.natAbs<2^200) fun i j=>.int (i.fdiv j)):=A2 fun i j _ _ _ _ _ hc q=>floordiv_int hc.1 q (.inl (PyProof.noPylong_of_log2 (by
 have h0:j.natAbs≠0:=by have:=hc.1;omega
 have:j.natAbs.log2<200:=(Nat.log2_lt h0).mpr hc.2
 omega)))
theorem tL{t b:Addr}{ws:List Value}{Q:Value→Shared→Prop}(ht:IsTup s.heap t ([]:List Value).toArray)(hb:IsTup s.heap b ws.toArray)(h:Q (.ref b) s):wpAny (model prog w) A (binaryOp .Add (.ref t) (.ref b)) Q E s:=by
 obtain⟨⟨cls,dd,data,sl⟩,ho,hc,n,hd⟩:=id ht
 obtain⟨⟨cls2,dd2,data2,sl2⟩,ho2,hc2,n2,hd2⟩:=id hb
 simp only at hc hd hc2 hd2
 subst hc hd hc2 hd2
 exact concat_meets ⟨_,ho,rfl⟩ ⟨_,ho2,rfl⟩ noFill_tuple_add seq_tuple_add PySem.F.slot_tuple_add PySem.F.entry_tuple_add (PySem.F.args_tuple_add_2 _ _)
   (tuple_addW0 t b _ ws.toArray n n2 dd dd2 sl sl2 (by simp)) ⟨ho,ho2,h⟩
theorem vD:iA X (binaryOp .Mult) (rI (fun i j=>yO i j∨(i.natAbs<2^1000∧j.natAbs<2^1000)) fun i j=>.int (i*j)):=A2 fun _ _ _ _ _ _ _ hc q=>mul_int q (by
 rcases hc with hc|hc
 ·exact hc.ok
 ·exact .of_bits (aI (PyProof.Rows.intBits_le hc.1) (by decide)) (aI (PyProof.Rows.intBits_le hc.2) (by decide)))
theorem x3(op:Bo):iA X (binaryOp op.op) (rD X.K (cW op)):=by
 intro pins s σ H vx vy ux uy Q I rx ry h
 obtain⟨ι,st,dx,dy,S,hx,hy,P⟩:=h
 have sz:sizeLine=16777216:=sizeLine_eq
 unfold cW at P
 split at P
 ·cases hx;cases hy
  exact x4 pins s σ H _ _ _ _ Q I rx ry ⟨_,_,rfl,rfl,P.same S (.int _)⟩
 ·split at P
  ·rename_i hl
   cases hx with
   |tup ha ra=>
    cases hy with
    |tup hb rb=>
     have l1:=ra.length
     have l2:=rb.length
     refine vF pins s σ H _ _ _ _ Q I rx ry ⟨_,_,_,_,rfl,rfl,ha,hb,?_,by omega,fun e=>?_,fun e=>P.tup S (ra.append rb)⟩
     ·intro z;rw[z] at l1;simp at l1
     ·subst e
      cases rb
      rw[List.append_nil] at P
      exact P.same S (.tup ha ra)
  ·exact False.elim P
 ·cases hx with
  |tup ha ra=>
   cases hy with
   |tup hb rb=>
    cases ra
    cases rx
    cases ry
    obtain⟨its,r1,p1,_⟩:=I.tuple ha
    obtain⟨its2,r2,p2,_⟩:=I.tuple hb
    cases r1
    exact tL p1 p2 ⟨.ref _,H,I,rfl,P.same S (.tup hb rb)⟩
 ·split at P
  ·rename_i m n _ _ as bs e1 e2
   split at P
   ·rename_i hl
    cases hx with
    |ref h1=>
     cases hy with
     |ref h2=>
      obtain⟨v1,g1,r1⟩:=S.ob _ _ e1
      obtain⟨v2,g2,r2⟩:=S.ob _ _ e2
      have l1:=r1.length
      have l2:=r2.length
      exact xZ pins s σ H _ _ _ _ Q I rx ry ⟨_,_,_,_,rfl,rfl,g1,g2,by omega,P.alloc S (r1.append r2)⟩
   ·exact False.elim P
  ·exact False.elim P
 ·cases hx;cases hy
  exact xW pins s σ H _ _ _ _ Q I rx ry ⟨_,_,rfl,rfl,P.same S (.int _)⟩
 ·split at P
  ·rename_i hc
   cases hx;cases hy
   exact vD pins s σ H _ _ _ _ Q I rx ry ⟨_,_,rfl,rfl,hc,P.same S (.int _)⟩
  ·exact False.elim P
 ·split at P
  ·rename_i m j _ as e1
   split at P
   ·rename_i hl
    cases hx with
    |ref h1=>
     cases hy
     obtain⟨v1,g1,r1⟩:=S.ob _ _ e1
     have l1:=r1.length
     have hj:v1.length*j.toNat≤1000*1000:=Nat.mul_le_mul (by omega) (by omega)
     exact xX pins s σ H _ _ _ _ Q I rx ry ⟨_,_,_,rfl,rfl,g1,by omega,by omega,by omega,P.alloc S (jA r1 _)⟩
   ·exact False.elim P
  ·exact False.elim P
 ·split at P
  ·rename_i as j hl
   cases hx with
   |tup ha ra=>
    cases hy
    have l1:=ra.length
    refine vC pins s σ H _ _ _ _ Q I rx ry ⟨_,_,_,rfl,rfl,ha,hl.1,hl.2.1,?_,by omega,fun e=>?_,fun e=>P.tup S (jA ra _)⟩
    ·intro z;rw[z] at l1;have:=hl.2.2.1;simp at l1;rw[l1] at this;simp at this
    ·subst e
     have e1:(List.replicate (1:Int).toNat as).flatten=as:=by simp
     rw[e1] at P
     exact P.same S (.tup ha ra)
  ·exact False.elim P
 ·split at P
  ·rename_i hc
   cases hx;cases hy
   exact sx pins s σ H _ _ _ _ Q I rx ry ⟨_,_,rfl,rfl,hc,P.same S (.int _)⟩
  ·exact False.elim P
 ·split at P
  ·rename_i hc
   cases hx;cases hy
   exact vE pins s σ H _ _ _ _ Q I rx ry ⟨_,_,rfl,rfl,hc,P.same S (.int _)⟩
  ·exact False.elim P
 ·split at P
  ·rename_i hc
   cases hx;cases hy
   exact xY pins s σ H _ _ _ _ Q I rx ry ⟨_,_,rfl,rfl,⟨hc.1,by omega,by omega⟩,P.same S (.int _)⟩
  ·exact False.elim P
 ·exact False.elim P
open Classical in
noncomputable def qu(K:al)(H:Hp)(ι:Nat→Addr)(st:aQ)(x:D)(z:Value):Bool:=if h:∃d,At K H ι st.length d z then(fO 60 st h.choose x).getD false else false
theorem yC{st:aQ}(I:Inv X pins σ H s)(S:Sim X.K H ι st){x y:D}(h:At X.K H ι st.length y u):qu X.K H ι st x u=(fO 60 st y x).getD false:=by
 unfold qu
 have h':∃d,At X.K H ι st.length d u:=⟨y,h⟩
 rw[dif_pos h',h'.choose_spec.uniq I S h]
theorem jN{X:Cx}{pins:List (Addr×Obj)}{σ:L2.St}{H:Hp}{s:Shared}{ι:Nat→Addr}{st:aQ}(I:Inv X pins σ H s)(S:Sim X.K H ι st){x:D}{ux:Value}{A:Around}(hx:At X.K H ι st.length x ux)(hu:A.units+60<cLine):
  ∀{ys:List D}{us:List Value}{k:Bool},iw st x ys=some k→wq X.K H ι st.length ys us→(∀u∈us,SeqAt.EqAt A s u ux (qu X.K H ι st x u))∧us.any (qu X.K H ι st x)=k
 |[],us,k,h,r=>by
  have l:=r.length
  cases us with
  |cons _ _=>simp at l
  |nil=>exact⟨fun u hu=>(by cases hu),ag h⟩
 |y::ys,us,k,h,r=>by
  have l:=r.length
  cases us with
  |nil=>simp at l
  |cons u us=>
   obtain⟨_,r1,q1⟩:=r
   cases q1 with
   |cons w1 w2=>
    cases r1 with
    |cons m1 m2=>
     unfold iw at h
     cases e1:fO 60 st y x with
     |none=>rw[e1] at h;simp at h
     |some a=>
      cases e2:iw st x ys with
      |none=>rw[e1,e2] at h;simp at h
      |some b=>
       rw[e1,e2] at h
       obtain⟨he,hk⟩:=jN I S hx hu e2 ⟨_,m2,w2⟩
       obtain⟨_,_,hE⟩:=l7 I S 60 (A:=A) e1 ⟨_,m1,w1⟩ hx hu
       have ea:qu X.K H ι st x u=a:=by rw[yC I S ⟨_,m1,w1⟩,e1];rfl
       refine⟨fun z hz=>?_,?_⟩
       ·rcases List.mem_cons.mp hz with rfl|hz
        ·rw[ea];exact hE
        ·exact he z hz
       ·rw[List.any_cons,ea,hk]
        exact ag h
theorem DRels.look{K:al}{k:Key}{kvs:List (Key×D)}{vs:List (Key×V)}(h:DRels K H ι m kvs vs):
  (match i6 kvs k with|some d=>∃v,eG vs k=some v∧VRel K H ι m d v|none=>eG vs k=none):=by
 induction h with
 |nil=>exact qY
 | @cons k' d v ds vs hv t ih=>
  unfold i6
  by_cases e:k'=k
  ·rw[if_pos e]
   exact⟨v,fC e,hv⟩
  ·rw[if_neg e,dQ (p:=(k',v)) (r:=vs) e]
   exact ih
theorem lR{K:al}{x:D}{k:Key}(h:vM x=some k)(r:VRel K H ι m x v):v=kV k:=by
 cases r<;>cases h<;>rfl
theorem sK{K:al}{x y:D}{k:Bool}(e:Am x y=some k)(hx:VRel K H ι m x vx)(hy:VRel K H ι m y vy)(rx:RelV vx ux)(ry:RelV vy uy):plainIs ux uy=true∧(ux==uy)=k:=by
 unfold Am at e
 split at e
 ·cases hy
  cases ry
  have e:=ag e
  subst e
  cases hx with
  |non=>cases rx;exact⟨rfl,rfl⟩
  |bl b=>cases rx;exact⟨rfl,rfl⟩
  |int i=>obtain⟨t,rfl⟩:=rx;exact⟨rfl,rfl⟩
  |str i=>obtain⟨t,rfl⟩:=rx;exact⟨rfl,rfl⟩
  |tup _ _=>cases rx;exact⟨rfl,rfl⟩
  |fl _ _=>cases rx;exact⟨rfl,rfl⟩
  |ref _=>cases rx;exact⟨rfl,rfl⟩
 ·cases e
theorem kN{K:al}{st:aQ}{x y:D}{k:Bool}(S:Sim K H ι st)(e:l9 st x y=some k)(hx:VRel K H ι st.length x vx)(hy:VRel K H ι st.length y vy):∃a o,vy=.ref a∧ka H a vx o∧o.isSome=k:=by
 unfold l9 at e
 split at e
 ·rename_i s n hk
  split at e
  ·rename_i kvs q
   have e:=ag e
   subst e
   have hv:=lR hk hx
   subst hv
   cases hy
   obtain⟨vs,h1,r⟩:=S.ob _ _ q
   refine⟨_,_,rfl,ka.k (k:=s) h1,?_⟩
   have l:=r.look (k:=s)
   cases q2:i6 kvs s with
   |none=>rw[q2] at l;rw[show eG vs s=none from l];rfl
   |some d=>rw[q2] at l;obtain⟨v,l,_⟩:=l;rw[show eG vs s=some v from l];rfl
  ·cases e
 ·cases e
theorem hJ(hu:X.A.units+100<cLine)(op:CmpOp):iA X (compareOp op) (rD X.K (ce op)):=by
 intro pins s σ H vx vy ux uy Q I rx ry h
 obtain⟨ι,st,dx,dy,S,hx,hy,P⟩:=h
 have ax:At X.K H ι st.length dx ux:=⟨_,hx,rx⟩
 have ay:At X.K H ι st.length dy uy:=⟨_,hy,ry⟩
 unfold ce at P
 split at P
 ·split at P
  ·rename_i k e
   obtain⟨h1,_,_⟩:=l7 I S 60 (A:=X.A) e ax ay (by omega)
   exact h1 _ _ _ _ ⟨.bl k,H,I,rfl,P.same S (.bl k)⟩
  ·exact False.elim P
 ·split at P
  ·rename_i k e
   obtain⟨_,h1,_⟩:=l7 I S 60 (A:=X.A) e ax ay (by omega)
   exact h1 _ _ _ _ ⟨.bl (!k),H,I,rfl,P.same S (.bl (!k))⟩
  ·exact False.elim P
 ·split at P
  ·cases hx;cases hy
   exact Ac pins s σ H _ _ _ _ Q I rx ry ⟨_,_,rfl,rfl,P.same S (.bl _)⟩
  ·exact False.elim P
 ·split at P
  ·cases hx;cases hy
   exact Ad pins s σ H _ _ _ _ Q I rx ry ⟨_,_,rfl,rfl,P.same S (.bl _)⟩
  ·exact False.elim P
 ·split at P
  ·cases hx;cases hy
   exact Ae pins s σ H _ _ _ _ Q I rx ry ⟨_,_,rfl,rfl,P.same S (.bl _)⟩
  ·exact False.elim P
 ·split at P
  ·rename_i ys es
   split at P
   ·rename_i k ek
    obtain⟨a,vs,rfl,hq,rv⟩:=hy.seq S es
    cases ry
    rcases hq with hq|hq
    ·obtain⟨its,r',pl,hz⟩:=I.list hq
     obtain⟨hE,hk⟩:=jN I S (A:=X.A.in1) ax (by show X.A.units+1+60<cLine;omega) ek ⟨_,rv,r'⟩
     refine SeqAt.in_listAt _ pl.isList (fun w hw=>hE w (by simpa using hw)) ⟨.bl _,H,I,rfl,?_⟩
     rw[show its.toArray.any (qu X.K H ι st dx)=its.any (qu X.K H ι st dx) by simp,hk]
     exact P.same S (.bl k)
    ·obtain⟨its,r',pl,hz⟩:=I.tuple hq
     obtain⟨hE,hk⟩:=jN I S (A:=X.A.in1) ax (by show X.A.units+1+60<cLine;omega) ek ⟨_,rv,r'⟩
     refine SeqAt.in_tupleAt _ pl (fun w hw=>hE w (by simpa using hw)) ⟨.bl _,H,I,rfl,?_⟩
     rw[show its.toArray.any (qu X.K H ι st dx)=its.any (qu X.K H ι st dx) by simp,hk]
     exact P.same S (.bl k)
   ·exact False.elim P
  ·split at P
   ·rename_i k ek
    obtain⟨a,o,rfl,g,ho⟩:=kN S ek hx hy
    cases ry
    refine B0 (by omega) I g rx fun s' I'=>⟨.bl k,H,I',by rw[ho];rfl,P.same S (.bl k)⟩
   ·exact False.elim P
 ·split at P
  ·rename_i ys es
   split at P
   ·rename_i k ek
    obtain⟨a,vs,rfl,hq,rv⟩:=hy.seq S es
    cases ry
    rcases hq with hq|hq
    ·obtain⟨its,r',pl,hz⟩:=I.list hq
     obtain⟨hE,hk⟩:=jN I S (A:=X.A.in1) ax (by show X.A.units+1+60<cLine;omega) ek ⟨_,rv,r'⟩
     refine SeqAt.notIn_listAt _ pl.isList (fun w hw=>hE w (by simpa using hw)) ⟨.bl _,H,I,rfl,?_⟩
     rw[show its.toArray.any (qu X.K H ι st dx)=its.any (qu X.K H ι st dx) by simp,hk]
     exact P.same S (.bl (!k))
    ·obtain⟨its,r',pl,hz⟩:=I.tuple hq
     obtain⟨hE,hk⟩:=jN I S (A:=X.A.in1) ax (by show X.A.units+1+60<cLine;omega) ek ⟨_,rv,r'⟩
     refine SeqAt.notIn_tupleAt _ pl (fun w hw=>hE w (by simpa using hw)) ⟨.bl _,H,I,rfl,?_⟩
     rw[show its.toArray.any (qu X.K H ι st dx)=its.any (qu X.K H ι st dx) by simp,hk]
     exact P.same S (.bl (!k))
   ·exact False.elim P
  ·split at P
   ·rename_i k ek
    obtain⟨a,o,rfl,g,ho⟩:=kN S ek hx hy
    cases ry
    refine wd (by omega) I g rx fun s' I'=>⟨.bl (!k),H,I',by rw[ho];rfl,P.same S (.bl (!k))⟩
   ·exact False.elim P
 ·split at P
  ·rename_i k e
   obtain⟨h1,h2⟩:=sK e hx hy rx ry
   exact wpAny_is_plain h1 ⟨.bl k,H,I,by rw[h2];rfl,P.same S (.bl k)⟩
  ·exact False.elim P
 ·split at P
  ·rename_i k e
   obtain⟨h1,h2⟩:=sK e hx hy rx ry
   exact wpAny_isNot_plain h1 ⟨.bl (!k),H,I,by rw[h2];rfl,P.same S (.bl (!k))⟩
  ·exact False.elim P
 ·exact False.elim P
theorem wl{K:al}{ds:List D}{i:Int}{d:D}(r:VRels K H ι m ds vs)(e:qD ds i=some d):∃v,qD vs i=some v∧VRel K H ι m d v:=by
 unfold qD at e ⊢
 rw[←r.length]
 cases q:t5 ds.length i with
 |none=>rw[q] at e;cases e
 |some j=>
  rw[q] at e
  exact r.get e
theorem tH(hu:X.A.units+100<cLine){value slice:Expr}{st:aQ}{dx:D}{k:Key}(I:L2.Inv X pins σ H s)(S:Sim X.K H ι st)(hx:VRel X.K H ι st.length dx vx)
  (rx:RelV vx ux)(ry:RelV (kV k) uy)(hs:subscripted slice false ux uy=operate [ux,uy] (getItem ux uy))(P:ck X.K H ι st (AL st dx k) Q):wpAny (model X.prog X.w) X.A (subscriptTail value slice ux uy) (EP X pins σ Q) X.xe s:=by
 unfold AL at P
 split at P
 ·rename_i n
  split at P
  ·rename_i kvs e1
   split at P
   ·rename_i d ek
    cases hx
    cases rx
    obtain⟨vs,h1,r⟩:=S.ob _ _ e1
    have l:=r.look (k:=k)
    rw[ek] at l
    obtain⟨w,ew,rw'⟩:=l
    have g:ka H (ι n) (kV k) (some w):=by rw[←ew];exact ka.k (k:=k) h1
    exact tail_any (m9 I g) PySem.F.slot_dict_getitem.lookup (qw (by omega) I g ry fun w' s' I' rw2=>⟨w,H,I',rw2,P.same S rw'⟩) hs
   ·exact False.elim P
  ·exact False.elim P
 ·exact False.elim P
theorem BK(hu:X.A.units+100<cLine):A6 X (rD X.K index):=by
 intro value slice pins s σ H vx vy ux uy Q I rx ry h hs
 obtain⟨ι,st,dx,dy,S,hx,hy,P⟩:=h
 have sz:sizeLine=16777216:=sizeLine_eq
 unfold index at P
 split at P
 ·split at P
  ·rename_i xs es
   split at P
   ·rename_i d ed
    cases hy
    obtain⟨a,vs,rfl,hq,rv⟩:=hx.seq S es
    obtain⟨w,ew,rw'⟩:=wl rv ed
    rcases hq with hq|hq
    ·exact vN value slice pins s σ H _ _ _ _ Q I rx ry ⟨_,_,_,_,rfl,rfl,hq,ew,P.same S rw'⟩ hs
    ·exact yh value slice pins s σ H _ _ _ _ Q I rx ry ⟨_,_,_,_,rfl,rfl,hq,ew,P.same S rw'⟩ hs
   ·exact False.elim P
  ·cases hy
   exact tH (k:= .inl _) hu I S hx rx ry hs P
 ·cases hy
  exact tH (k:= .inr _) hu I S hx rx ry hs P
 ·exact False.elim P
noncomputable def Ty.name:Ty→String
 | .int=> "int"
 | .bool=> "bool"
 | .list=> "list"
 | .tuple=> "tuple"
theorem yi{st:aQ}{d:D}{t:Ty}{k:Bool}(I:Inv X pins σ H s)(S:Sim X.K H ι st)(hv:VRel X.K H ι st.length d v)(r:RelV v u)
  (e:bY st t d=some k)(q:Q (.bl k) H):wpAny (model X.prog X.w) X.A (call (.builtin "isinstance") [u,.type t.name]) (EP X pins σ Q) X.xe s:=by
 have fin:∀tk,EP X pins σ Q (.bool k) {s with toks:=tk}:=fun tk=>⟨.bl k,H,I.tok _,rfl,q⟩
 have fin0:EP X pins σ Q (.bool k) s:=⟨.bl k,H,I,rfl,q⟩
 cases hv with
 |non=>
  cases r
  cases e
  cases t
  ·exact call_isinstance (isinstance_false_none (by decide+kernel) F.isi_meta_int F.sub_NoneType_int) (fin _)
  ·exact call_isinstance (isinstance_false_none (by decide+kernel) F.isi_meta_bool F.sub_NoneType_bool) (fin _)
  ·exact call_isinstance (isinstance_false_none (by decide+kernel) F.isi_meta_list F.sub_NoneType_list) (fin _)
  ·exact call_isinstance (isinstance_false_none (by decide+kernel) F.isi_meta_tuple F.sub_NoneType_tuple) (fin _)
 |bl b=>
  cases r
  cases t
  ·cases e;exact IsiPair.bool_int fin0
  ·cases e;exact IsiPair.bool_bool fin0
  ·cases e;exact IsiPair.bool_list (fin _)
  ·cases e;exact IsiPair.bool_tuple (fin _)
 |int i=>
  obtain⟨tk,rfl⟩:=r
  cases t
  ·cases e;exact IsiPair.int_int fin0
  ·cases e;exact IsiPair.int_bool (fin _)
  ·cases e;exact IsiPair.int_list (fin _)
  ·cases e;exact IsiPair.int_tuple (fin _)
 |str x=>
  obtain⟨tk,rfl⟩:=r
  cases t
  ·cases e;exact IsiPair.str_int (fin _)
  ·cases e;exact IsiPair.str_bool (fin _)
  ·cases e;exact IsiPair.str_list (fin _)
  ·cases e;exact IsiPair.str_tuple (fin _)
 |tup h _=>
  cases r
  obtain⟨_,_,⟨o,h1,h2,_⟩,_⟩:=I.tuple h
  cases t
  ·cases e;exact IsiPair.tuple_int h1 h2 (fin _)
  ·cases e;exact IsiPair.tuple_bool h1 h2 (fin _)
  ·cases e;exact IsiPair.tuple_list h1 h2 (fin _)
  ·cases e;exact IsiPair.tuple_tuple h1 h2 fin0
 |fl h _=>
  cases r
  obtain⟨_,_,p,_⟩:=I.list h.sql
  obtain⟨o,h1,h2,_⟩:=p.isList
  cases t
  ·cases e;exact IsiPair.list_int h1 h2 (fin _)
  ·cases e;exact IsiPair.list_bool h1 h2 (fin _)
  ·cases e;exact IsiPair.list_list h1 h2 fin0
  ·cases e;exact IsiPair.list_tuple h1 h2 (fin _)
 | @ref n hn=>
  cases r
  simp only[bY] at e
  cases q':st[n]? with
  |none=>rw[q'] at e;cases e
  |some ob=>
   rw[q'] at e
   have ho:=S.ob n ob q'
   cases ob with
   |lst xs=>
    obtain⟨vs,g1,g2⟩:=ho
    obtain⟨_,_,p,_⟩:=I.list (du.of g1)
    obtain⟨o,h1,h2,_⟩:=p.isList
    cases t
    ·cases e;exact IsiPair.list_int h1 h2 (fin _)
    ·cases e;exact IsiPair.list_bool h1 h2 (fin _)
    ·cases e;exact IsiPair.list_list h1 h2 fin0
    ·cases e;exact IsiPair.list_tuple h1 h2 (fin _)
   |dct kvs=>
    obtain⟨ws,ho,_⟩:=ho
    obtain⟨_,_,_,_,o,es,ep,h1,h2,_⟩:=(show bI X.prog X.w H s.heap (ι n) (.dK ws) from I.hok _ _ ho)
    cases t
    ·cases e;exact IsiPair.dict_int h1 h2.1 (fin _)
    ·cases e;exact IsiPair.dict_bool h1 h2.1 (fin _)
    ·cases e;exact IsiPair.dict_list h1 h2.1 (fin _)
    ·cases e;exact IsiPair.dict_tuple h1 h2.1 (fin _)
   |_=>cases e
theorem pL{K:al}{ds:List D}(r:VRels K H ι m ds vs)(lo hi:Option Int):VRels K H ι m (cutD ds lo hi) (nb vs lo hi):=by
 unfold cutD nb
 rw[←r.length]
 exact(r.drop _).take _
theorem Bw:A4 X (fun vx lo hi H Q=>∃ι st dx,Sim X.K H ι st∧VRel X.K H ι st.length dx vx∧ck X.K H ι st (slice dx lo hi st) Q):=by
 intro pins s σ H x v vl vu lo hi sl Q I rx hs pl pu h
 obtain⟨ι,st,dx,S,hx,P⟩:=h
 have sz:sizeLine=16777216:=sizeLine_eq
 unfold slice at P
 split at P
 ·split at P
  ·exact False.elim P
  ·rename_i hw
   cases hx with
   |tup ha ra=>
    exact w9 pins s σ H _ v vl vu lo hi sl Q I rx hs pl pu ⟨_,_,rfl,ha,by rw[←ra.length];exact hw,P.tup S (pL ra lo hi)⟩
 ·split at P
  ·rename_i xs es
   obtain⟨a,vs,rfl,hq,rv⟩:=hx.seq S es
   rcases hq with hq|hq
   ·exact uJ pins s σ H _ v vl vu lo hi sl Q I rx hs pl pu ⟨_,_,rfl,hq,P.alloc S (pL rv lo hi)⟩
   ·exfalso
    cases hx with
    |tup _ _=>simp_all
    |fl h _=>exact nO I hq h.sql
    |ref h=>
     obtain⟨u,e',n1,n2⟩:=S.obj h;rcases lq I hq with⟨_,e⟩|⟨_,_,e⟩|e<;>rw[e] at e'<;>first|(cases e';done)|(cases e';exact absurd rfl (n1 _))|(cases e';exact absurd rfl (n2 _ _))
  ·exact False.elim P
noncomputable def rB(K:al)(f:Bt):List V→Hp→VK→Prop:=fun vs H Q=>∃ι st ds,Sim K H ι st∧VRels K H ι st.length ds vs∧ck K H ι st (f9 f ds st) Q
noncomputable def Bt.val:Bt→Value
 | .len=>.builtin "len"
 | .list=>.type "list"
 | .tuple=>.type "tuple"
 | .int=>.type "int"
 | .all=>.builtin "all"
 | .dict=>.type "dict"
theorem pR{K:al}{H:Hp}{ι:Nat→Addr}{m:Nat}:∀{ds:List D}{vs:List V}{us:List Value}{k:Bool},allB ds=some k→VRels K H ι m ds vs→bf vs us→∃tr:Nat→Bool,(∀(i:Nat)(u:Value),us[i]? =some u→u=Value.bool (tr i))∧(List.range us.length).all tr=k
 |[],_,_,k,e,r,q=>by
  cases r;cases q
  exact⟨fun _=>true,fun i u h=>by simp at h,ag e⟩
 |d::ds,_,_,k,e,r,q=>by
  cases r with
  |cons r1 r2=>
   cases q with
   |cons q1 q2=>
    cases r1 with
    |bl b=>
     simp only[allB] at e
     cases e1:allB ds with
     |none=>rw[e1] at e;cases e
     |some k'=>
      rw[e1] at e
      obtain⟨tr,h1,h2⟩:=pR e1 r2 q2
      cases q1
      refine⟨fun j=>match j with|0=>b|j+1=>tr j,fun i u h=>?_,?_⟩
      ·cases i with
       |zero=>simp at h;exact h.symm
       |succ i=>exact h1 i u (by simpa using h)
      ·rw[List.length_cons]
       refine(show _=_ from all_cons (e:=tr) (x:=b)).trans ?_
       rw[h2]
       exact ag e
    |_=>cases e
theorem oF(hc:X.calm=true):ei X (.builtin "all") (fun xs H Q=>∃a vs us k,xs=[.ref a]∧du X.K H a vs∧(∀its,bf vs its→∃tr:Nat→Bool,(∀(i:Nat)(u:Value),its[i]? =some u→u=Value.bool (tr i))∧(List.range its.length).all tr=k)∧us=k∧Q (.bl k) H):=by
 intro pins s σ H xs us Q I r h
 obtain⟨a,vs,_,k,rfl,hq,htr,_,q⟩:=h
 obtain⟨u,rfl,rx⟩:=vals1 r
 cases rx
 obtain⟨its,r',pl,hz⟩:=I.list hq
 obtain⟨tr,h1,h2⟩:=htr its r'
 have hlt:a<s.heap.objs.size:=by obtain⟨_,e,_⟩:=pl.isList;exact ah e
 refine call_all_walk (wpAny_pyIter_list pl.isList ?_)
 refine⟨s.heap.objs.size,_,_,_,_,_,tr,rfl,Walks.list (A:=X.A.in1) (I.ok.hd hc) s.heap.objs.size a (ai hlt) its.toArray,⟨⟨_,ak _ rfl,rfl,rfl⟩,pl.isList.push _⟩,fun i v s' Q' E' hP hQ=>?_,fun h' tk hk=>?_⟩
 ·rw[h1 i v (by simpa using hP)]
  exact wpAny_truthy_bool hQ
 ·rw[List.size_toArray,h2]
  refine⟨.bl k,H,?_,rfl,q⟩
  have I1:Inv X pins σ H {s with heap:=s.heap.push {cls:= .type "list_iterator",data:= .fields #[.ref a,.int 0 0]}}:=I.kept (t':=s.toks) fun b o e=>ac _ e
  refine I.kept (t':=tk) fun b o e=>hk b o (fun z=>?_) (ac _ e)
  have zb:b=s.heap.objs.size:=by simpa using z
  rw[zb] at e
  exact absurd (ah e) (bg _)
theorem yF(hc:X.calm=true)(f:Bt):ei X f.val (rB X.K f):=by
 intro pins s σ H xs us Q I r h
 obtain⟨ι,st,ds,S,rv,P⟩:=h
 have sz:sizeLine=16777216:=sizeLine_eq
 unfold f9 at P
 split at P
 ·split at P
  ·rename_i hx ys es
   obtain⟨v,rfl,hv⟩:=rv.inv1
   obtain⟨a,vs,rfl,hq,rr⟩:=hv.seq S es
   exact me pins s σ H _ us Q I r ⟨_,_,rfl,hq,by rw[←rr.length];exact P.same S (.int _)⟩
  ·exact False.elim P
 ·split at P
  ·rename_i ys es
   obtain⟨v,rfl,hv⟩:=rv.inv1
   obtain⟨a,vs,rfl,hq,rr⟩:=hv.seq S es
   exact md pins s σ H _ us Q I r ⟨_,_,rfl,hq,P.alloc S rr⟩
  ·exact False.elim P
 ·obtain⟨v,rfl,hv⟩:=rv.inv1
  cases hv with
  |tup h rr=>exact em pins s σ H _ us Q I r ⟨_,_,rfl,.inr ⟨h,P.same S (.tup h rr)⟩⟩
 ·split at P
  ·rename_i hnt ys es
   obtain⟨v,rfl,hv⟩:=rv.inv1
   obtain⟨a,vs,rfl,hq,rr⟩:=hv.seq S es
   rcases hq with hq|hq
   ·exact em pins s σ H _ us Q I r ⟨_,_,rfl,.inl ⟨hq,P.tup S rr⟩⟩
   ·exact em pins s σ H _ us Q I r ⟨_,_,rfl,.inr ⟨hq,P.same S (.tup hq rr)⟩⟩
  ·exact False.elim P
 ·obtain⟨v,rfl,hv⟩:=rv.inv1
  cases hv
  exact kR pins s σ H _ us Q I r (.inl ⟨_,rfl,P.same S (.int _)⟩)
 ·obtain⟨v,rfl,hv⟩:=rv.inv1
  cases hv
  exact kR pins s σ H _ us Q I r (.inr ⟨_,rfl,P.same S (.int _)⟩)
 ·split at P
  ·rename_i n ys es
   split at P
   ·rename_i k ek
    obtain⟨v,rfl,hv⟩:=rv.inv1
    cases hv with
    |ref hn=>
     obtain⟨vs,g1,g2⟩:=S.ob _ _ es
     exact oF hc pins s σ H _ us Q I r ⟨_,_,_,k,rfl,du.of g1,fun its q=>pR ek g2 q,rfl,P.same S (.bl k)⟩
   ·exact False.elim P
  ·exact False.elim P
 ·split at P
  ·rename_i n kvs es
   obtain⟨v,rfl,hv⟩:=rv.inv1
   cases hv with
   |ref hn=>
    obtain⟨vs,g1,g2⟩:=S.ob _ _ es
    obtain⟨u,rfl,ru⟩:=vals1 r
    cases ru
    refine tI I (.inl g1) fun p s' hp I'=>⟨.ref p,_,I',rfl,?_⟩
    obtain⟨ι',E,e,S'⟩:=S.laid (o:= .dct kvs) (ho:= .dK vs) hp (fun ι' h1 h2=>⟨vs,ba,g2.ext0 ⟨Nat.le_succ _,h1,fun b xs e=>by rw[av (au e hp)];exact e,fun b ob u e=>by rw[av (au e hp)];exact e⟩⟩)
    have l:(st++[O.dct kvs]).length=st.length+1:=by simp
    refine P _ ι' _ (by rw[l];exact E) S' ?_
    rw[←e,l]
    exact .ref (aB _)
  ·exact False.elim P
 ·exact False.elim P
structure ICl where
 x:Str
 anc:List Str
 flds:List Str
 mts:List (Str×Nat)
structure Tab where
 fns:List Str
 csts:List (Str×D)
 cls:List (Str×List Str)
 cats:List Str
 ini:List (Str×Nat)
 flds:List Str
 calm:Bool
 rz:Bool
 icl:List ICl
 icats:List Str
 mks:List (Str×Nat)
 ums:List (Str×Str×Nat)
 gds:List (Str×List Str)
noncomputable def Tab.yes(T:Tab)(ts:List Str):List Str:=(T.cls.filter fun p=>ts.any fun t=>p.2.contains t).map (·.1)
noncomputable def Tab.no(T:Tab)(ts:List Str):List Str:=(T.cls.filter fun p=> !(ts.any fun t=>p.2.contains t)).map (·.1)
noncomputable def Tab.ics(T:Tab)(f:Str):List Str:=(T.icl.filter fun c=>c.flds.contains f).map (·.x)
noncomputable def Tab.ims(T:Tab)(m:Str):List (Str×Nat):=T.icl.filterMap fun c=>(c.mts.lookup m).map fun j=>(c.x,j)
noncomputable def Tab.ecs(T:Tab)(f:Str):List Str:=if T.flds.contains f then T.cls.map (·.1) else []
noncomputable def dS:List Str→Str→Option Nat
 |[],_=>none
 |y::r,x=>if y=x then some 0 else(dS r x).map (· +1)
theorem bX:∀{N:List Str}{x:Str}{i:Nat},dS N x=some i→N[i]? =some x
 |[],_,_,h=>by cases h
 |y::r,x,i,h=>by
  unfold dS at h
  split at h
  ·rename_i e;cases h;rw[e];rfl
  ·cases q:dS r x with
   |none=>rw[q] at h;cases h
   |some j=>
    rw[q] at h
    have:j+1=i:=ag h
    subst this
    simpa using bX q
noncomputable def yG:List (Str×Bt):=[("len",.len),("list",.list),("tuple",.tuple),("int",.int),("all",.all),("dict",.dict)]
noncomputable def uz:List (Str×Ty):=[("int",.int),("bool",.bool),("list",.list),("tuple",.tuple)]
noncomputable def qC:List Str:=["reversed","enumerate","len","list","tuple","int","all","bool","dict","isinstance","range","ValueError","zip"]
noncomputable def AQ:Operator→Option Bo
 | .Add=>some .add
 | .Sub=>some .sub
 | .Mult=>some .mul
 | .FloorDiv=>some .fdiv
 | .Mod=>some .mod
 | .Pow=>some .pow
 |_=>none
noncomputable def dz(sc scope:Scope)(N:List Str)(x:Str):Bool:=
 (scope.kind== .function)&&(scope.names.lookup x==some .local)&& !(N.contains x)&&(x != "__debug__")&&(x != "__classdict__")&&
 scope.names.all fun y=>(y.2 != .cell)&&(y.2 != .local||(scope.names.lookup y.1==some .local&& !(N.contains y.1)))&&(y.2 != .free||sc.names.lookup y.1==some .cell||sc.names.lookup y.1==some .free)
noncomputable def cy(sc scope:Scope)(N:List Str)(x y:Str):Bool:=
 dz sc scope N x&&(scope.names.lookup y==some .local)&& !(N.contains y)&&(x !=y)&&(y != "__debug__")&&(y != "__classdict__")
noncomputable def je(sc scope:Scope):Scope:=
 {scope with names:=scope.names.map fun(n,k)=>if(k== .free&&sc.kind== .function&&sc.names.lookup n==some .cell) then(n,.cell) else(n,k)}
noncomputable def uu:List (Str×Str×Nat)→Str→Str→Option Nat
 |[],_,_=>none
 |(a,b,j)::r,x,m=>if a=x∧b=m then some j else uu r x m
theorem mq:∀{l:List (Str×Str×Nat)}{x m:Str}{j:Nat},uu l x m=some j→(x,m,j)∈l
 |[],_,_,_,h=>by cases h
 |(a,b,i)::r,x,m,j,h=>by
  unfold uu at h
  split at h
  ·rename_i e
   cases h
   obtain⟨rfl,rfl⟩:=e
   exact .head _
  ·exact .tail _ (mq h)
noncomputable def aV(sc:Scope)(x:Str):Bool:=sc.names.lookup x==some .globalImplicit
noncomputable def gC:Expr→Bool
 | .Slice .. =>false
 |_=>true
noncomputable def sA:Expr→Option Str
 | .Name x _=>some x
 |_=>none
theorem dg(h:sA e=some x):∃p,e= .Name x p:=by
 cases e<;>cases h
 exact⟨_,rfl⟩
noncomputable def tP:Expr→Option (Str×List Expr)
 | .Call f as ks _=>(match ks with
  |[]=>(sA f).map fun x=>(x,as)
  |_=>none)
 |_=>none
theorem gR{as:List Expr}(h:tP e=some (x,as)):∃p q,e= .Call (.Name x p) as [] q:=by
 cases e with
 |Call f as ks q=>
  cases ks with
  |nil=>
   obtain⟨y,h1,h2⟩:=map_some h
   cases h2
   obtain⟨p,rfl⟩:=dg h1
   exact⟨p,q,rfl⟩
  |cons=>cases h
 |_=>cases h
noncomputable def kT(e:Expr):Option (Str×Expr):=(tP e).bind fun p=>(one p.2).map fun a=>(p.1,a)
theorem fX{r:Str}(h:kT e=some (r,a)):∃p q,e= .Call (.Name r p) [a] [] q:=by
 obtain⟨⟨x,as⟩,h1,h⟩:=bs h
 obtain⟨b,h2,h3⟩:=map_some h
 cases h3
 cases cw h2
 exact gR h1
noncomputable def zr:Option Expr→Option Str
 |some (.Constant c _ _)=>(match c with
  | .str k=>some k
  |_=>none)
 |_=>none
theorem rj{o:Option Expr}{k:Str}(h:zr o=some k):∃p q,o=some (.Constant (.str k) p q):=by
 cases o with
 |none=>cases h
 |some e=>
  cases e with
  |Constant c _ _=>
   cases c with
   |str=>cases h;exact⟨_,_,rfl⟩
   |_=>cases h
  |_=>cases h
noncomputable def pK:List (Option Expr)→Option (List Str)
 |[]=>some []
 |k::r=>(zr k).bind fun x=>(pK r).map (x:: ·)
noncomputable def fV:Expr→Bool
 | .Name .. =>true
 | .Attribute .. =>true
 | .Subscript .. =>true
 | .Call (.Attribute ..) .. =>true
 | .Call (.Name ..) (_::_) .. =>true
 |_=>false
noncomputable def sJ(s:Str):Bool:=s== "pop"
theorem sI{a b:Str}(h:(if f=a then(one args).bind fun c=>(kT c).bind fun p=>if p.1=b then some p.2 else none else none)=some e):f=a∧∃p q,args=[.Call (.Name b p) [e] [] q]:=by
 obtain⟨h1,h⟩:=eS h
 obtain⟨c,h2,h⟩:=bs h
 obtain⟨⟨r,x⟩,h3,h⟩:=bs h
 obtain⟨h4,h⟩:=eS h
 cases h
 cases h4
 cases cw h2
 obtain⟨p,q,rfl⟩:=fX h3
 exact⟨h1,p,q,rfl⟩
noncomputable def tM(T:Tab)(sc:Scope)(t:Str):Bool:=aV sc t&&(T.cats.contains t||t== "ValueError")
noncomputable def A0(T:Tab)(sc:Scope)(o:Expr)(m:Str):Option Nat:=(sA o).bind fun x=>if aV sc x=true then uu T.ums x m else none
theorem uv{T:Tab}{sc:Scope}{m:Str}(h:A0 T sc o m=some j):∃x p,o= .Name x p∧aV sc x=true∧(x,m,j)∈T.ums:=by
 obtain⟨x,h1,h⟩:=bs h
 obtain⟨p,rfl⟩:=dg h1
 obtain⟨h2,h⟩:=eS h
 exact⟨x,p,rfl,h2,mq h⟩
noncomputable def Ap:List Comprehension→Option (Expr×Expr×List Expr)
 |[⟨t,it,ifs,k⟩]=>if k=0 then some (t,it,ifs) else none
 |_=>none
theorem sT{gs:List Comprehension}{p:Expr×Expr×List Expr}(h:Ap gs=some p):gs=[⟨p.1,p.2.1,p.2.2,0⟩]:=by
 rcases gs with _|⟨⟨t,it,ifs,k⟩,_|⟨c,l⟩⟩
 ·cases h
 ·obtain⟨h1,h⟩:=eS h
  cases h1
  cases h
  rfl
 ·cases h
noncomputable def wE:Expr→Option (Str×Str)
 | .Tuple [a,b] _ _=>(sA a).bind fun x=>(sA b).map fun y=>(x,y)
 |_=>none
theorem qa{z:Str×Str}(h:wE e=some z):∃p q k r,e= .Tuple [.Name z.1 p,.Name z.2 q] k r:=by
 cases e with
 |Tuple l k r=>
  rcases l with _|⟨a,_|⟨b,_|⟨c,l⟩⟩⟩
  ·cases h
  ·cases h
  ·obtain⟨x,h1,h⟩:=bs h
   obtain⟨y,h2,rfl⟩:=map_some h
   obtain⟨p,rfl⟩:=dg h1
   obtain⟨q,rfl⟩:=dg h2
   exact⟨p,q,k,r,rfl⟩
  ·cases h
 |_=>cases h
noncomputable def Cc:Expr→Option (Option Expr×Option Expr)
 | .Slice lo hi st _=>(match st with
  |none=>some (lo,hi)
  |_=>none)
 |_=>none
theorem uI{q:Option Expr×Option Expr}(h:Cc e=some q):∃p,e= .Slice q.1 q.2 none p:=by
 cases e with
 |Slice lo hi st p=>
  cases st with
  |none=>cases h;exact⟨p,rfl⟩
  |some=>cases h
 |_=>cases h
noncomputable def tx(sc:Scope)(e:Expr):Option Expr:=(kT e).bind fun p=>if p.1= "enumerate" ∧aV sc p.1=true then some p.2 else none
theorem kI{sc:Scope}(h:tx sc e=some a):aV sc "enumerate"=true∧∃p q,e= .Call (.Name "enumerate" p) [a] [] q:=by
 obtain⟨⟨r,b⟩,h1,h⟩:=bs h
 obtain⟨⟨e,hg⟩,h⟩:=eS h
 cases h
 cases e
 exact⟨hg,fX h1⟩
noncomputable def yW(sc:Scope)(e:Expr):Option (Expr×Expr):=(tP e).bind fun p=>if p.1= "zip" ∧aV sc p.1=true then mH p.2 else none
theorem qG{sc:Scope}{z:Expr×Expr}(h:yW sc e=some z):aV sc "zip"=true∧∃p q,e= .Call (.Name "zip" p) [z.1,z.2] [] q:=by
 obtain⟨⟨r,as⟩,h1,h⟩:=bs h
 obtain⟨⟨e,hg⟩,h⟩:=eS h
 cases e
 cases fU h
 exact⟨hg,gR h1⟩
noncomputable def zQ(sc:Scope)(e:Expr):Option Expr:=(kT e).bind fun p=>if p.1= "range" ∧aV sc p.1=true then some p.2 else none
theorem rP{sc:Scope}(h:zQ sc e=some a):aV sc "range"=true∧∃p q,e= .Call (.Name "range" p) [a] [] q:=by
 obtain⟨⟨r,b⟩,h1,h⟩:=bs h
 obtain⟨⟨e,hg⟩,h⟩:=eS h
 cases h
 cases e
 exact⟨hg,fX h1⟩
noncomputable def CC(T:Tab)(sc:Scope)(ops:List CmpOp)(bs:List Expr):Option (List Str):=(one ops).bind fun op=>match op with
 | .In=>(one bs).bind fun b=>(sA b).bind fun x=>if aV sc x=true then T.gds.lookup x else none
 |_=>none
noncomputable def Al(f:Str)(args:List Expr):Option Expr:=if f= "list" then(one args).bind fun c=>(kT c).bind fun p=>if p.1= "reversed" then some p.2 else none else none
noncomputable def BN(f:Str)(args:List Expr):Option Expr:=if f= "dict" then(one args).bind fun c=>match c with
 | .ListComp a b c d=>some (.ListComp a b c d)
 |_=>none else none
mutual
noncomputable def cE(T:Tab)(n:Nat)(sc:Scope)(N:List Str)(e:Expr):Option Ex:=match n with
 |0=>none
 |n+1=>match e with
  | .Constant k _ _=>(match k with
   | .int i=>some (.c (.int i))
   | .str s=>some (.c (.str s))
   | .bool b=>some (.c (.bl b))
   | .none=>some (.c .non)
   |_=>none)
  | .Name x _=>(sc.names.lookup x).bind fun k=>match k with
   | .local=>(dS N x).map .v
   | .cell=>(dS N x).map .v
   | .free=>(dS N x).map .v
   | .globalImplicit=>(T.csts.lookup x).map .c
   |_=>none
  | .Tuple es _ _=>if es.length≤1000 then(nC T n sc N es).map .tup else none
  | .List es _=>if es.length≤1000 then(nC T n sc N es).map .lst else none
  | .Dict ks vs _=>(match ks with
   |[]=>(match vs with
    |[]=>some .emp
    |_=>none)
   |k::ks=>(pK (k::ks)).bind fun ks'=>(nC T n sc N vs).bind fun vs'=>if ks'.length=vs.length∧ks'.length≤15∧ks'.Nodup then some (.dict ks' vs') else none)
  | .BinOp a op b _=>(cE T n sc N a).bind fun a'=>(AQ op).bind fun o=>(cE T n sc N b).map fun b'=>.bin o a' b'
  | .UnaryOp op a _=>(match op with
   | .Not=>(cE T n sc N a).map .not
   | .USub=>(cE T n sc N a).map .neg
   |_=>none)
  | .BoolOp op es p=>(match es with
   |[]=>none
   |a::r=>match r with
    |[]=>cE T n sc N a
    |b::r=>(cE T n sc N a).bind fun a'=>(cE T n sc N (.BoolOp op (b::r) p)).map fun b'=>match op with
     | .And=>.and a' b'
     | .Or=>.or a' b')
  | .Compare a ops bs _=>(CC T sc ops bs).elim ((one ops).elim ((mH ops).bind fun o=>(mH bs).bind fun b=>(cE T n sc N a).bind fun a'=>(cE T n sc N b.1).bind fun b'=>(cE T n sc N b.2).map fun c'=>.chain o.1 o.2 a' b' c')
   fun op=>(one bs).bind fun b=>(cE T n sc N a).bind fun a'=>(cE T n sc N b).map fun b'=>.cmp op a' b') fun ks=>(cE T n sc N a).map (.inG ks)
  | .Subscript a b _=>(Cc b).elim (if gC b=true then(cE T n sc N a).bind fun a'=>(cE T n sc N b).map fun b'=>.ix a' b' else none)
   fun q=>match q.1 with
    |none=>q.2.bind fun h=>(cE T n sc N a).bind fun a'=>(cE T n sc N h).map fun h'=>.sl a' h' h' false true
    |some l=>(cE T n sc N a).bind fun a'=>(cE T n sc N l).bind fun l'=>match q.2 with
     |none=>some (.sl a' l' l' true false)
     |some h=>(cE T n sc N h).map fun h'=>.sl a' l' h' true true
  | .Call f args kws cp=>(match kws with
   |[]=>(match f with
   | .Name f _=>if aV sc f=true then(Al f args).elim ((BN f args).elim (match args with
     |[]=>none
     |a::as=>(dS T.fns f).elim ((T.mks.lookup f).elim ((yG.lookup f).elim (if f= "isinstance" then(one as).bind fun t'=>(sA t').bind fun t=>if aV sc t=true then(cE T n sc N a).bind fun a'=>(uz.lookup t).elim (if tM T sc t=true then some (.isc a' (T.yes [t]) (T.no [t])) else none)
       fun ty=>some (.isi a' ty) else none else none)
       fun b=>if T.calm=true then(nC T n sc N (a::as)).map (.bt b) else none)
       fun j=>(nC T n sc N (a::as)).map (.new f j))
       fun i=>(nC T n sc N (a::as)).map (.fn i))
     fun a=>if dS T.fns "dict"=none∧T.calm=true then(cE T n sc N a).map .dictP else none)
     fun a=>if(aV sc "reversed"=true∧dS T.fns "list"=none)∧T.calm=true then(cE T n sc N a).map .lrev else none
    else none
   | .Attribute o m ap=>(A0 T sc o m).elim (if(sJ m&&(ap.endLine==cp.line)&&fV o)=true then(match args with
     |[]=>(cE T n sc N o).map fun o'=>.pop o' false
     |_=>none) else if(fV o&&(ap.endLine==cp.line)&&decide (args.length<29))=true then(cE T n sc N o).bind fun o'=>(nC T n sc N args).map fun as'=>.meth o' m (T.ims m) as' else none)
     fun j=>if((ap.endLine==cp.line)&&decide (args.length<29)&& !args.isEmpty)=true then(nC T n sc N args).map (.fn j) else none
   |_=>none)
   |_=>none)
  | .ListComp elt gens scope _=>(Ap gens).bind fun q=>(sA q.1).elim ((wE q.1).bind fun z=>if cy sc scope N z.1 z.2=true∧T.calm=true then
     (cE T n (je sc scope) (z.1::z.2::N) elt).bind fun e'=>match q.2.2 with
      |[]=>(tx sc q.2.1).elim ((yW sc q.2.1).elim ((cE T n sc N q.2.1).map fun a'=>.compU a' e') fun p=>(cE T n sc N p.1).bind fun a'=>(cE T n sc N p.2).map fun b'=>.compZ a' b' e') fun a=>(cE T n sc N a).map fun a'=>.compE a' e'
      |_=>none
    else none)
    fun x=>if T.calm=true∧dz sc scope N x=true then
     (kT q.2.1).elim (kU T n sc N false q.2.1 x elt q.2.2 scope) fun ra=>if ra.1= "range" ∧aV sc ra.1=true then kU T n sc N true ra.2 x elt q.2.2 scope else kU T n sc N false q.2.1 x elt q.2.2 scope
    else none
  | .IfExp c a b _=>(cE T n sc N c).bind fun c'=>(cE T n sc N a).bind fun a'=>(cE T n sc N b).map fun b'=>.ite c' a' b'
  | .Attribute o f _=>if fV o=true then(cE T n sc N o).map (fun o'=>.fld o' f (T.ecs f) (T.ics f)) else none
  |_=>none
noncomputable def nC(T:Tab)(n:Nat)(sc:Scope)(N:List Str)(es:List Expr):Option (List Ex):=match n with
 |0=>none
 |n+1=>match es with
  |[]=>some []
  |e::r=>(cE T n sc N e).bind fun e'=>(nC T n sc N r).map fun r'=>e'::r'
noncomputable def kU(T:Tab)(n:Nat)(sc:Scope)(N:List Str)(rng:Bool)(src:Expr)(x:Str)(elt:Expr)(ifs:List Expr)(scope:Scope):Option Ex:=match n with
 |0=>none
 |n+1=>(cE T n sc N src).bind fun s'=>(cE T n (je sc scope) (x::N) elt).bind fun e'=>match ifs with
   |[]=>some (.comp rng s' e')
   |_=>none
end
structure LRel(K:al)(H:Hp)(ι:Nat→Addr)(m:Nat)(loc:Loc)(σ:L2.St):Prop where
 len:loc.length=σ.length
 at_:∀(i:Nat)(d:D),loc[i]? =some (some d)→∃v:V,σ[i]? =some (some v)∧VRel K H ι m d v
theorem LRel.ext{K:al}{loc:Loc}(L:LRel K H ι m loc σ)(E:Ext H H' ι ι' m m'):LRel K H' ι' m' loc σ:=
 ⟨L.len,fun i d e=>let⟨v,h1,h2⟩:=L.at_ i d e;⟨v,h1,h2.ext E⟩⟩
theorem LRel.cons{K:al}{loc:Loc}{d:D}(L:LRel K H ι m loc σ)(r:VRel K H ι m d v):LRel K H ι m (some d::loc) (some v::σ):=
 ⟨by simp[L.len],fun i e h=>by
  cases i with
  |zero=>
   have:d=e:=by simpa using h
   subst this
   exact⟨v,rfl,r⟩
  |succ i=>simpa using L.at_ i e (by simpa using h)⟩
theorem LRel.set{K:al}{loc:Loc}{d:D}(L:LRel K H ι m loc σ)(j:Nat)(r:VRel K H ι m d v):LRel K H ι m (loc.set j (some d)) (σ.set j (some v)):=
 ⟨by simp[L.len],fun i e h=>by
  by_cases hj:j=i
  ·subst hj
   have hl:j<loc.length:=by
    have:=(aH h).1
    simpa using this
   rw[aN hl] at h
   cases h
   exact⟨v,by rw[aN (by rw[←L.len];exact hl)],r⟩
  ·rw[aL hj] at h
   obtain⟨w,h1,h2⟩:=L.at_ i e h
   exact⟨w,by rw[aL hj];exact h1,h2⟩⟩
noncomputable def tE(K:al)(m:Loc→M D):TE:=fun σ H Q=>∃ι st loc,Sim K H ι st∧LRel K H ι st.length loc σ∧ck K H ι st (m loc st) Q
noncomputable def gW(K:al)(H:Hp)(ι:Nat→Addr)(st:aQ)(r:R D)(Q:Bool→Hp→Prop):Prop:=match r with
 | .ok (.bl k) st'=>∀H' ι',Ext H H' ι ι' st.length st'.length→Sim K H' ι' st'→Q k H'
 |_=>False
noncomputable def tT(K:al)(m:Loc→M D):TT:=fun σ H Q=>∃ι st loc,Sim K H ι st∧LRel K H ι st.length loc σ∧gW K H ι st (m loc st) Q
noncomputable def tV(K:al)(H:Hp)(ι:Nat→Addr)(st:aQ)(r:R (List D))(Q:List V→Hp→Prop):Prop:=match r with
 | .ok ds st'=>∀H' ι' vs,Ext H H' ι ι' st.length st'.length→Sim K H' ι' st'→VRels K H' ι' st'.length ds vs→Q vs H'
 | .bad=>False
noncomputable def tA(K:al)(m:Loc→M (List D)):TA:=fun σ H Q=>∃ι st loc,Sim K H ι st∧LRel K H ι st.length loc σ∧tV K H ι st (m loc st) Q
section
variable{K:al}{H:Hp}{ι:Nat→Addr}{st:aQ}{σ:L2.St}{loc:Loc}
theorem aZ{m:Loc→M D}{d:D}{st1:aQ}(S:Sim K H ι st)(L:LRel K H ι st.length loc σ)(e:m loc st=.ok d st1)(k:∀H1 ι1 v,Ext H H1 ι ι1 st.length st1.length→Sim K H1 ι1 st1→VRel K H1 ι1 st1.length d v→Q v H1):tE K m σ H Q:=
 ⟨ι,st,loc,S,L,by rw[e];exact k⟩
theorem i9{m:Loc→M D}{Q:Bool→Hp→Prop}{b:Bool}{st1:aQ}(S:Sim K H ι st)(L:LRel K H ι st.length loc σ)(e:m loc st=.ok (.bl b) st1)(k:∀H1 ι1,Ext H H1 ι ι1 st.length st1.length→Sim K H1 ι1 st1→Q b H1):tT K m σ H Q:=
 ⟨ι,st,loc,S,L,by rw[e];exact k⟩
theorem f_{m:Loc→M (List D)}{Q:List V→Hp→Prop}{ds:List D}{st1:aQ}(S:Sim K H ι st)(L:LRel K H ι st.length loc σ)(e:m loc st=.ok ds st1)(k:∀H1 ι1 vs,Ext H H1 ι ι1 st.length st1.length→Sim K H1 ι1 st1→VRels K H1 ι1 st1.length ds vs→Q vs H1):tA K m σ H Q:=
 ⟨ι,st,loc,S,L,by rw[e];exact k⟩
theorem aO{m:M α}{f:α→M D}{st0:aQ}(P:ck K H ι st (aW m f st0) Q):∃a st1,m st0=.ok a st1∧ck K H ι st (f a st1) Q:=by
 unfold aW at P
 cases e:m st0 with
 |ok a st1=>rw[e] at P;exact⟨a,st1,rfl,P⟩
 |bad=>rw[e] at P;exact P.elim
theorem dq{m:M α}{f:α→M D}{st0:aQ}{Q:Bool→Hp→Prop}(P:gW K H ι st (aW m f st0) Q):∃a st1,m st0=.ok a st1∧gW K H ι st (f a st1) Q:=by
 unfold aW at P
 cases e:m st0 with
 |ok a st1=>rw[e] at P;exact⟨a,st1,rfl,P⟩
 |bad=>rw[e] at P;exact P.elim
theorem nu{m:M α}{f:α→M (List D)}{st0:aQ}{Q:List V→Hp→Prop}(P:tV K H ι st (aW m f st0) Q):∃a st1,m st0=.ok a st1∧tV K H ι st (f a st1) Q:=by
 unfold aW at P
 cases e:m st0 with
 |ok a st1=>rw[e] at P;exact⟨a,st1,rfl,P⟩
 |bad=>rw[e] at P;exact P.elim
theorem bw{o:Option α}{a:α}{st0 st1:aQ}(e:dX o st0=.ok a st1):o=some a∧st1=st0:=by
 unfold dX at e
 cases o with
 |none=>cases e
 |some b=>cases e;exact⟨rfl,rfl⟩
theorem bT{x:D}{b:Bool}(e:iu x=some b):x=.bl b:=by
 cases x<;>cases e
 rfl
theorem mU{x:D}{b:Int}(e:jr x=some b):x=.int b:=by
 cases x<;>cases e
 rfl
theorem gW.inv{r:R D}{Q:Bool→Hp→Prop}(P:gW K H ι st r Q):∃b st1,r=.ok (.bl b) st1∧∀H' ι',Ext H H' ι ι' st.length st1.length→Sim K H' ι' st1→Q b H':=by
 unfold gW at P
 split at P
 ·exact⟨_,_,rfl,P⟩
 ·exact P.elim
theorem gW.mono{r:R D}{Q:Bool→Hp→Prop}{H1:Hp}{st1:aQ}(P:gW K H ι st r Q)(E:Ext H H1 ι ι1 st.length st1.length):gW K H1 ι1 st1 r Q:=by
 obtain⟨b,st2,rfl,k⟩:=P.inv
 exact fun H' ι' E' S'=>k H' ι' (E.trans E') S'
end
theorem _root_.L2.PE.imp{X:Cx}{e:Expr}{t t':TE}(h:PE X e t)(k:∀σ H Q,t' σ H Q→t σ H Q):PE X e t':=fun pins s σ H Q I q=>h pins s σ H Q I (k σ H Q q)
theorem _root_.L2.PT.imp{X:Cx}{e:Expr}{t t':TT}(h:PT X e t)(k:∀σ H Q,t' σ H Q→t σ H Q):PT X e t':=fun pins s σ H Q I q=>h pins s σ H Q I (k σ H Q q)
theorem _root_.L2.PA.imp{X:Cx}{es:List Expr}{t t':TA}(h:PA X es t)(k:∀σ H Q,t' σ H Q→t σ H Q):PA X es t':=fun pos pins s σ H Q I q=>h pos pins s σ H Q I (k σ H Q q)
noncomputable def dB(K:al)(E:XK)(H:Hp)(ι:Nat→Addr)(st:aQ)(r:R Rs)(Q:VK):Prop:=match r with
 | .ok (.v d) st'=>∀H' ι' v,Ext H H' ι ι' st.length st'.length→Sim K H' ι' st'→VRel K H' ι' st'.length d v→Q v H'
 | .ok (.x n) st'=>∀H' ι',Ext H H' ι ι' st.length st'.length→Sim K H' ι' st'→E (.ref (ι' n)) none H'
 | .bad=>False
theorem dB.mono{K:al}{E:XK}{st:aQ}{r:R Rs}{H1:Hp}{st1:aQ}(P:dB K E H ι st r Q)(E1:Ext H H1 ι ι1 st.length st1.length):dB K E H1 ι1 st1 r Q:=by
 cases r with
 |ok f st2=>
  cases f with
  |v d=>exact fun H' ι' v E' S' r'=>P H' ι' v (E1.trans E') S' r'
  |x n=>exact fun H' ι' E' S'=>P H' ι' (E1.trans E') S'
 |bad=>exact P
theorem dB.val{K:al}{st:aQ}{m:M Rs}{st1:aQ}{E:XK}(P:ck K H ι st (aW m (fun r=>dX r.val?) st1) Q):dB K E H ι st (m st1) Q:=by
 obtain⟨r,st2,e,P⟩:=aO P
 rw[e]
 cases r with
 |v d=>exact P
 |x n=>exact P.elim
noncomputable def wA(K:al)(n:Nat)(f:List D→M Rs):Sp:=fun vs H Q E=>vs.length=n∧∃ι st ds,Sim K H ι st∧VRels K H ι st.length ds vs∧dB K E H ι st (f ds st) Q
noncomputable def mi(P:Program)(w:World)(K:al)(a:Addr)(ks:List Str):Prop:=(a==sysModules)=false∧∃o,K.lookup a=some o∧∀h:Heap,h.get? a=some o→∃vs,h.DictOf (bD P w) a vs∧vs.map (·.1)=ks.map Sum.inr
structure Ctx(T:Tab)(g:cY)(X:Cx)(sc:Scope)(N:List Str):Prop where
 sc:X.env.scope=sc
 n:X.N=N
 nd:N.Nodup
 nm:∀x∈N,(x==("__debug__":Str))=false∧(x==("__classdict__":Str))=false
 calm:T.calm=true→X.calm=true
 un:X.A.units+100<cLine
 fns:∀i f,T.fns[i]? =some f→(f==("__debug__":Str))=false∧∃a fd ps k,X.mg f=some (.ref a)∧PySem.W.keepIn X.K (.ref a)=true∧Binds X.K fd ps []∧Room k X.A∧(∀ds st,ds.length≠ps.length→g i ds st=R.bad)∧FnOk X.prog X.w X.K X.mg X.base (iU X.prog X.w) k a fd ps (wA X.K ps.length (g i))
 csts:∀x d,T.csts.lookup x=some d→(x==("__debug__":Str))=false∧∃u v,X.mg x=some u∧RelV v u∧∀H ι m,VRel X.K H ι m d v
 blt:∀x∈qC,X.mg x=none
 cats:∀t,t∈T.cats→(t==("__debug__":Str))=false∧∃D,PySem.W.nsIn X.K mainGlobals t=some (some (.ref D))∧X.mg t=some (.ref D)∧ECat X.K D
 cls:∀x anc,(x,anc)∈T.cls→∃C,PySem.W.nsIn X.K mainGlobals x=some (some (.ref C))∧ECls X.K C∧(∀f∈T.flds,PySem.W.findIn X.K (.ref C) f=some none)∧
  (∀t∈T.cats,∀D,PySem.W.nsIn X.K mainGlobals t=some (some (.ref D))→PySem.W.kitOne X.K (.ref C) (.ref D)=some (anc.contains t)∧PySem.W.mroIn X.K C (.ref D)=some (anc.contains t))∧PySem.W.kitOne X.K (.ref C) (.type "ValueError")=some (anc.contains "ValueError")
 ini:∀x j,(x,j)∈T.ini→(x==("__debug__":Str))=false∧∃C a fd ps k,PySem.W.nsIn X.K mainGlobals x=some (some (.ref C))∧X.mg x=some (.ref C)∧EMk X.K C∧PySem.W.mroIn X.K C (.type "BaseException")=some true∧PySem.W.keepIn X.K (.ref C)=true∧
  PySem.W.findIn X.K (.ref C) "__init__"=some (some (.ref a))∧PySem.W.isFn X.K (.ref a)=true∧Binds X.K fd ps []∧Room (k+1) X.A∧(∀ds st,ds.length≠ps.length→g j ds st=R.bad)∧FnOk X.prog X.w X.K X.mg X.base (iU X.prog X.w) k a fd ps (wA X.K ps.length (g j))
 icl:∀c∈T.icl,∃C,PySem.W.nsIn X.K mainGlobals c.x=some (some (.ref C))∧Cls X.K C∧(∀f∈c.flds,ez X.K C f)∧(∀m j,(m,j)∈c.mts→∃a fd ps k,Meth X.K C m a∧Binds X.K fd ps []∧Room k X.A∧(∀ds st,ds.length≠ps.length→g j ds st=R.bad)∧FnOk X.prog X.w X.K X.mg X.base (iU X.prog X.w) k a fd ps (wA X.K ps.length (g j)))∧
  (PySem.W.findIn X.K (.ref C) "__class__"=some (some (.builtin "object.__class__"))∧PySem.W.specialIn X.K (.builtin "object.__class__") "__get__"=some (some (.builtin "getset_descriptor.__get__"))∧PySem.W.takesIn X.K (.builtin "object.__class__")=some true∧PySem.W.mroIn X.K C (.type "object")=some true)∧
  ∀t∈T.icats,∀D,PySem.W.nsIn X.K mainGlobals t=some (some (.ref D))→PySem.W.kitOne X.K (.ref C) (.ref D)=some (c.anc.contains t)
 icats:∀t,t∈T.icats→(t==("__debug__":Str))=false∧∃D,PySem.W.nsIn X.K mainGlobals t=some (some (.ref D))∧X.mg t=some (.ref D)
 mks:∀x j,(x,j)∈T.mks→(x==("__debug__":Str))=false∧∃C a fd ps k,PySem.W.nsIn X.K mainGlobals x=some (some (.ref C))∧X.mg x=some (.ref C)∧Mk X.K C a∧Binds X.K fd ps []∧Room (k+1) X.A∧(∀ds st,ds.length≠ps.length→g j ds st=R.bad)∧FnOk X.prog X.w X.K X.mg X.base (iU X.prog X.w) k a fd ps (wA X.K ps.length (g j))
 ums:∀x m j,(x,m,j)∈T.ums→(x==("__debug__":Str))=false∧∃C a fd ps k,X.mg x=some (.ref C)∧UMeth X.K C m a∧Binds X.K fd ps []∧Room k X.A∧(∀ds st,ds.length≠ps.length→g j ds st=R.bad)∧FnOk X.prog X.w X.K X.mg X.base (iU X.prog X.w) k a fd ps (wA X.K ps.length (g j))
 gds:∀x ks,T.gds.lookup x=some ks→(x==("__debug__":Str))=false∧∃a,X.mg x=some (.ref a)∧mi X.prog X.w X.K a ks
 catn:PySem.W.kitOne X.K (.type "NoneType") (.type "ValueError")=some false∧∀t∈T.cats,∀D,PySem.W.nsIn X.K mainGlobals t=some (some (.ref D))→PySem.W.kitOne X.K (.type "NoneType") (.ref D)=some false
set_option maxHeartbeats 16000000
noncomputable def isLocal(sc:Scope)(x:Str):Bool:=sc.names.lookup x==some .local||sc.names.lookup x==some .cell
noncomputable def lT:Expr→Bool
 | .ListComp .. =>true
 |_=>false
noncomputable def jq(s:Str):Bool:=s== "append"
noncomputable def vQ:Expr→Bool
 | .Name .. =>true
 | .Call .. =>true
 | .Subscript .. =>true
 | .Constant .. =>true
 | .BinOp .. =>true
 | .Attribute .. =>true
 | .List .. =>true
 | .Tuple .. =>true
 | .Dict .. =>true
 | .UnaryOp .. =>true
 | .Compare .. =>true
 |_=>false
noncomputable def rc(sc:Scope)(N:List Str):List Expr→Option (List Nat)
 |[]=>some []
 |e::r=>(sA e).bind fun x=>if isLocal sc x=true then(dS N x).bind fun i=>(rc sc N r).map fun is=>i::is else none
noncomputable def oB(T:Tab)(n:Nat)(sc:Scope)(N:List Str)(k:Tg)(e:Expr):Option S:=(tP e).bind fun p=>if aV sc p.1=true∧p.2≠[] then(dS T.fns p.1).bind fun i=>(nC T n sc N p.2).map fun as'=>.callx k i as' else none
noncomputable def cX(T:Tab)(n:Nat)(sc:Scope)(N:List Str)(s:Stmt):Option S:=match s with
 | .Expr e _=>oB T n sc N .no e
 | .Assign ts e _=>(one ts).bind fun t=>(sA t).bind fun x=>if isLocal sc x=true then(dS N x).bind fun j=>oB T n sc N (.set j) e else none
 | .Raise o c _=>(match c with
  |none=>o.bind fun e=>(tP e).bind fun p=>if aV sc p.1=true∧p.2.length≤900 then(T.ini.lookup p.1).bind fun j=>(nC T n sc N p.2).map fun as'=>.rais p.1 j as' else none
  |_=>none)
 |_=>none
noncomputable def Cb{α:Type}:List α→Option (α×List α)
 |[]=>none
 |a::l=>some (a,l)
theorem ut{l:List α}{p:α×List α}(h:Cb l=some p):l=p.1::p.2:=by
 cases l<;>cases h
 rfl
noncomputable def Ci:ExceptHandler→Option (Str×Str×Stmt×List Stmt)
 | .ExceptHandler o y l _=>o.bind fun e=>(sA e).bind fun t=>y.bind fun x=>(Cb l).map fun q=>(t,x,q)
theorem vX{h:ExceptHandler}{z:Str×Str×Stmt×List Stmt}(e:Ci h=some z):∃p q,h= .ExceptHandler (some (.Name z.1 p)) (some z.2.1) (z.2.2.1::z.2.2.2) q:=by
 obtain⟨o,y,l,q⟩:=h
 obtain⟨e1,h1,e⟩:=bs e
 obtain⟨t,h2,e⟩:=bs e
 obtain⟨x,h3,e⟩:=bs e
 obtain⟨b,h4,rfl⟩:=map_some e
 obtain⟨p,rfl⟩:=dg h2
 cases h1
 cases h3
 cases ut h4
 exact⟨p,q,rfl⟩
noncomputable def jp(s:Str):Bool:=s== "extend"
noncomputable def yK(f:Str→Bool):Expr→Option (Expr×Expr)
 | .Call (.Attribute o m ap) as ks cp=>(match ks with
  |[]=>(one as).bind fun a=>if(f m&&(ap.endLine==cp.line)&&fV o)=true then some (o,a) else none
  |_=>none)
 |_=>none
theorem nw{f:Str→Bool}{z:Expr×Expr}(h:yK f e=some z):∃m ap cp,e= .Call (.Attribute z.1 m ap) [z.2] [] cp∧(f m&&(ap.endLine==cp.line)&&fV z.1)=true:=by
 cases e with
 |Call f as ks cp=>
  cases f with
  |Attribute o m ap=>
   cases ks with
   |cons=>cases h
   |nil=>
    obtain⟨a,h1,h⟩:=bs h
    obtain⟨h2,h⟩:=eS h
    cases h
    cases cw h1
    exact⟨m,ap,cp,rfl,h2⟩
  |_=>cases h
 |_=>cases h
noncomputable def Tab.suite(T:Tab):Tab:={T with fns:=[],ini:=[],calm:=false,rz:=false,icl:=[],mks:=[],ums:=[]}
mutual
noncomputable def cS(T:Tab)(n:Nat)(sc:Scope)(N:List Str)(s:Stmt):Option S:=match n with
 |0=>none
 |n+1=>(if T.rz=true then cX T n sc N s else none).elim (Cj T n sc N s) some
noncomputable def Cj(T:Tab)(n:Nat)(sc:Scope)(N:List Str)(s:Stmt):Option S:=match n with
 |0=>none
 |n+1=>match s with
  | .Assign ts e _=>(one ts).bind fun t=>match t with
   | .Name x _=>if isLocal sc x=true then(dS N x).bind fun i=>(cE T n sc N e).map fun e'=>.set i e' else none
   | .Subscript o i _=>if gC i=true∧vQ e=true then(cE T n sc N o).bind fun o'=>(cE T n sc N i).bind fun i'=>(cE T n sc N e).map fun e'=>.setix o' i' e' else none
   | .Attribute o f _=>if vQ e=true then(cE T n sc N o).bind fun o'=>(cE T n sc N e).map fun e'=>.setf o' f e' (T.ecs f) (T.ics f) else none
   |_=>none
  | .Return o _=>(match o with
   |some e=>some ((cE T n sc N e).elim .stop .ret)
   |none=>some .ret0)
  | .Expr e _=>(yK jq e).elim ((yK jp e).elim (if lT e=false then(cE T n sc N e).map .ex else none) fun q=>(cE T n sc N q.1).bind fun o'=>(cE T n sc N q.2).map fun e'=>.ext o' e') fun q=>(cE T n sc N q.1).bind fun o'=>(cE T n sc N q.2).map fun e'=>.app o' e'
  | .AugAssign t op e _=>(match t with
   | .Name x _=>(match op with
    | .Add=>if isLocal sc x=true then(dS N x).bind fun i=>(cE T n sc N e).map fun e'=>.aug i e' else none
    |_=>none)
   | .Attribute o f _=>(match op with
    | .Add=>(cE T n sc N o).bind fun o'=>(cE T n sc N e).map fun e'=>.augf o' f e' (T.ics f)
    |_=>none)
   |_=>none)
  | .If c a b _=>(cE T n sc N c).bind fun c'=>(t6 T n sc N a).bind fun a'=>(t6 T n sc N b).map fun b'=>.ite c' a' b'
  | .For t it body els _=>(match els with
   |[]=>(match t with
   | .Name x _=>if isLocal sc x=true∧T.calm=true then(dS N x).bind fun i=>(t6 T n sc N body).bind fun b'=>(zQ sc it).elim ((cE T n sc N it).map fun a'=>.for_ i false a' b') fun a=>(cE T n sc N a).map fun a'=>.for_ i true a' b' else none
   | .Tuple ts _ _=>if T.calm=true then(rc sc N ts).bind fun is=>(t6 T n sc N body).bind fun b'=>(tx sc it).elim ((cE T n sc N it).map fun a'=>.forU is a' b') fun a=>(cE T n sc N a).map fun a'=>.forE is a' b' else none
   |_=>none)
   |_=>none)
  | .While c body els _=>(match els with
   |[]=>(cE T n sc N c).bind fun c'=>(t6 T n sc N body).map fun b'=>.whil c' b'
   |_=>none)
  | .Pass _=>some .pass
  | .Try body hs els fin _=>(match els with
   |[]=>(match fin with
   |[]=>(one hs).bind fun h=>(Ci h).bind fun p=>if((aV sc p.1&&T.cats.contains p.1)&&(sc.names.lookup p.2.1==some .local))=true∧T.calm=true then(dS N p.2.1).bind fun i=>(t6 T n sc N body).bind fun b'=>(t6 T.suite n sc N (p.2.2.1::p.2.2.2)).map fun s'=>.tryx b' (T.yes [p.1]) i s' else none
   |_=>none)
   |_=>none)
  |_=>none
noncomputable def t6(T:Tab)(n:Nat)(sc:Scope)(N:List Str)(ss:List Stmt):Option (List S):=match n with
 |0=>none
 |n+1=>match ss with
  |[]=>some []
  |s::r=>(t6 T n sc N r).map fun r'=>(cS T n sc N s).getD .stop::r'
end
set_option maxHeartbeats 4000000
noncomputable def Ao(K:al)(tl:TE):TI:=fun σ H R=>tl σ H fun x H1=>∃a,x=.ref a∧(((∃xs,du K H1 a xs)∧R (A8 K a) H1)∨((∃xs,eN K H1 a xs)∧R (B8 K a) H1))
theorem lJ{tg l:Expr}{tl:TE}(hl:PE X l tl):PI X tg l (Ao X.K tl):=by
 intro pins s σ H R I h
 refine bz (hl pins s σ H _ I h) fun v s1 hp=>?_
 obtain⟨x,H1,I1,r1,q1⟩:=hp
 obtain⟨a,rfl,⟨⟨xs,hq⟩,q⟩|⟨⟨xs,hq⟩,q⟩⟩:=q1
 ·cases r1
  obtain⟨its,rv,p,hz⟩:=I1.list hq
  refine wpAny_pyIter_list p.isList ?_
  refine⟨s1.heap.objs.size,[s1.heap.objs.size],_,_,H1,rfl,I1.kept (t':=s1.toks) fun b o e=>ac _ e,pT a _,⟨_,ak _ rfl,rfl,rfl⟩,fun b hb=>?_,q⟩
  have e:b=s1.heap.objs.size:=by simpa using hb
  subst e
  exact I1.fpOk (af _) (I1.hok.fresh (af _))
 ·cases r1
  obtain⟨its,rv,p,hz⟩:=I1.tuple hq
  refine wpAny_pyIter_tuple (show s1.heap.IsTuple a its.toArray from p) ?_
  refine⟨s1.heap.objs.size,[s1.heap.objs.size],_,_,H1,rfl,I1.kept (t':=s1.toks) fun b o e=>ac _ e,nI a _,⟨_,ak _ rfl,rfl,rfl⟩,fun b hb=>?_,q⟩
  have e:b=s1.heap.objs.size:=by simpa using hb
  subst e
  exact I1.fpOk (af _) (I1.hok.fresh (af _))
noncomputable def cG(K:al)(J:It)(s:Src)(H0:Hp)(ι0:Nat→Addr)(m0:Nat):Prop:=∀H ι st i,Ext H0 H ι0 ι m0 st.length→Sim K H ι st→
 (gm s i st=some none→J.stop i H)∧∀x,gm s i st=some (some x)→J.go i H∧∀v H',J.yld i H v H'→H'=H∧VRel K H ι st.length x v
theorem cG.tup{K:al}{a:Addr}{H0:Hp}{xs:List D}(h:eN K H0 a vs)(r:VRels K H0 ι0 m0 xs vs):cG K (B8 K a) (.its xs) H0 ι0 m0:=fun H ι st i E S=>by
 have l:=r.length
 have h':=eN.ext E.toExt0 h
 refine⟨fun e=>?_,fun x e=>?_⟩
 ·have e:xs[i]? =none:=ag e
  exact⟨vs,h',by have:=List.getElem?_eq_none_iff.mp e;omega⟩
 ·have e:xs[i]? =some x:=ag e
  obtain⟨v,hv,rv⟩:=(r.ext E).get e
  refine⟨⟨vs,v,h',hv⟩,fun w H' y=>⟨y.1,?_⟩⟩
  have:=y.2 vs h'
  rw[hv] at this
  cases this
  exact rv
theorem cG.fl{K:al}{a:Addr}{H0:Hp}{xs:List D}(h:t9 K H0 a vs)(r:VRels K H0 ι0 m0 xs vs):cG K (A8 K a) (.its xs) H0 ι0 m0:=fun H ι st i E S=>by
 have l:=r.length
 have h':=(t9.ext E.toExt0 h).sql
 refine⟨fun e=>?_,fun x e=>?_⟩
 ·have e:xs[i]? =none:=ag e
  exact⟨vs,h',by have:=List.getElem?_eq_none_iff.mp e;omega⟩
 ·have e:xs[i]? =some x:=ag e
  obtain⟨v,hv,rv⟩:=(r.ext E).get e
  refine⟨⟨vs,v,h',hv⟩,fun w H' y=>⟨y.1,?_⟩⟩
  have:=y.2 vs h'
  rw[hv] at this
  cases this
  exact rv
theorem cG.ref{K:al}{H0:Hp}(hn:n<m0):cG K (A8 K (ι0 n)) (.at n) H0 ι0 m0:=fun H ι st i E S=>by
 simp only[gm]
 cases q:st[n]? with
 |none=>exact⟨fun e=>(by cases e),fun x e=>(by cases e)⟩
 |some o=>
  have ob:=S.ob n o q
  rw[E.ad n hn] at ob
  cases o with
  |dct kvs=>exact⟨fun e=>(by cases e),fun x e=>(by cases e)⟩
  |err _ _ _=>exact⟨fun e=>(by cases e),fun x e=>(by cases e)⟩
  |edc _=>exact⟨fun e=>(by cases e),fun x e=>(by cases e)⟩
  |ins _ _=>exact⟨fun e=>(by cases e),fun x e=>(by cases e)⟩
  |lst xs=>
   obtain⟨vs,h1,r⟩:=ob
   have l:=r.length
   have h':du K H (ι0 n) vs:=du.of h1
   refine⟨fun e=>?_,fun x e=>?_⟩
   ·have e:xs[i]? =none:=ag e
    exact⟨vs,h',by have:=List.getElem?_eq_none_iff.mp e;omega⟩
   ·have e:xs[i]? =some x:=ag e
    obtain⟨v,hv,rv⟩:=r.get e
    refine⟨⟨vs,v,h',hv⟩,fun w H' y=>⟨y.1,?_⟩⟩
    have:=y.2 vs h'
    rw[hv] at this
    cases this
    exact rv
theorem cG.rng{K:al}{H0:Hp}{k:Nat}:cG K (A7 0 k) (.its (c9 k)) H0 ι0 m0:=fun H ι st i E S=>by
 refine⟨fun e=>?_,fun x e=>?_⟩
 ·have e:(c9 k)[i]? =none:=ag e
  show k≤i
  have:=List.getElem?_eq_none_iff.mp e
  simpa[c9] using this
 ·have e:(c9 k)[i]? =some x:=ag e
  have hi:i<k:=by
   have:=(aH e).1
   simpa[c9] using this
  have hx:x=.int (i:Int):=by
   have:(c9 k)[i]? =some (.int (i:Int)):=by simp[c9,hi]
   rw[this] at e
   exact(ag e).symm
  subst hx
  refine⟨hi,fun v H' y=>⟨y.1,?_⟩⟩
  have:v=.int (0+(i:Int)):=y.2
  rw[this,Int.zero_add]
  exact .int _
structure EltOk(K:al)(tc:TT)(te:TE)(f:Loc→D→M (Option D)):Prop where
 turn:∀{H:Hp}{ι:Nat→Addr}{st st1:aQ}{loc:Loc}{σ:L2.St}{x:D}{v:V}{o:Option D}{Q:Option V→Hp→Prop},Sim K H ι st→LRel K H ι st.length loc σ→VRel K H ι st.length x v→f loc x st=.ok o st1→
  (∀H1 ι1 w,Ext H H1 ι ι1 st.length st1.length→Sim K H1 ι1 st1→(match o,w with|some y,some z=>VRel K H1 ι1 st1.length y z|none,none=>True|_,_=>False)→Q w H1)→
  tc (some v::σ) H fun b H3=>if b=true then te (some v::σ) H3 fun y H4=>Q (some y) H4 else Q none H3
noncomputable def dC(K:al)(J:It)(s:Src)(H0:Hp)(ι0:Nat→Addr)(m0:Nat):Prop:=∀H ι st i,Ext H0 H ι0 ι m0 st.length→Sim K H ι st→
 (gm s i st=some none→J.stop i H)∧∀x,gm s i st=some (some x)→J.go i H∧∀v H',J.yld i H v H'→Ext H H' ι ι st.length st.length∧Sim K H' ι st∧VRel K H' ι st.length x v
theorem Sim.tup{K:al}{st:aQ}(S:Sim K H ι st){p:Addr}(hp:H p=none):Ext H (bj H p (.tup xs)) ι ι st.length st.length∧Sim K (bj H p (.tup xs)) ι st:=by
 have E:Ext H (bj H p (.tup xs)) ι ι st.length st.length:=⟨⟨af _,fun _ _=>rfl,fun b ys e=>by rw[av (au e hp)];exact e,fun b ob u e=>by rw[av (au e hp)];exact e⟩,fun b ob e k=>⟨by rw[av (au e hp)];exact e,k⟩⟩
 refine⟨E,S.inj,fun n o e=>?_⟩
 have hn:n<st.length:=(aH e).1
 have hne:ι n≠p:=by obtain⟨_,h,_⟩:=S.obj hn;exact au h hp
 have old:=S.ob n o e
 exact old.move E.toExt0 (av hne)
theorem dC.en{K:al}{H0:Hp}(hn:n<m0):dC K (B9 K (ι0 n)) (.en n) H0 ι0 m0:=fun H ι st i E S=>by
 simp only[gm]
 cases q:st[n]? with
 |none=>exact⟨fun e=>(by cases e),fun x e=>(by cases e)⟩
 |some o=>
  have ob:=S.ob n o q
  rw[E.ad n hn] at ob
  cases o with
  |dct _|err _ _ _|edc _|ins _ _=>exact⟨fun e=>(by cases e),fun x e=>(by cases e)⟩
  |lst xs=>
   obtain⟨vs,h1,r⟩:=ob
   have l:=r.length
   have h':du K H (ι0 n) vs:=du.of h1
   refine⟨fun e=>?_,fun x e=>?_⟩
   ·have e:xs[i]?.map (fun x=>D.tup [.int (i:Int),x])=none:=ag e
    have e:xs[i]? =none:=by simpa using e
    exact⟨vs,h',by have:=List.getElem?_eq_none_iff.mp e;omega⟩
   ·have e:xs[i]?.map (fun x=>D.tup [.int (i:Int),x])=some x:=ag e
    cases e2:xs[i]? with
    |none=>rw[e2] at e;cases e
    |some y=>
     rw[e2] at e
     have e:D.tup [.int (i:Int),y]=x:=ag e
     subst e
     obtain⟨v,hv,rv⟩:=r.get e2
     refine⟨⟨vs,v,h',hv⟩,fun w H' yy=>?_⟩
     obtain⟨p,z,rfl,hp,rfl,hz⟩:=yy
     have:=hz vs h'
     rw[hv] at this
     cases this
     obtain⟨E1,S1⟩:=S.tup (xs:=[.int (i:Int),v]) hp
     exact⟨E1,S1,.tup (.inl (.inl ba)) (.cons (.int _) (.cons (rv.ext E1) .nil))⟩
theorem dC.enT{K:al}{a:Addr}{xs:List D}{H0:Hp}(r:VRel K H0 ι0 m0 (.tup xs) (.ref a)):dC K (yN K a) (.its (jE 0 xs)) H0 ι0 m0:=fun H ι st i E S=>by
 cases r.ext E with
 | @tup _ _ vs h' r=>
  simp only[gm,kH]
  have l:=r.length
  refine⟨fun e=>?_,fun x e=>?_⟩
  ·have e:=ag e
   have e:xs[i]? =none:=by simpa using e
   exact⟨vs,h',by have:=List.getElem?_eq_none_iff.mp e;omega⟩
  ·have e:=ag e
   cases e2:xs[i]? with
   |none=>rw[e2] at e;cases e
   |some y=>
    rw[e2] at e
    have e:D.tup [.int ((0+i:Nat):Int),y]=x:=ag e
    rw[Nat.zero_add] at e
    subst e
    obtain⟨v,hv,rv⟩:=r.get e2
    refine⟨⟨vs,v,h',hv⟩,fun w H' yy=>?_⟩
    obtain⟨p,z,rfl,hp,rfl,hz⟩:=yy
    have:=hz vs h'
    rw[hv] at this
    cases this
    obtain⟨E1,S1⟩:=S.tup (xs:=[.int (i:Int),v]) hp
    exact⟨E1,S1,.tup (.inl (.inl ba)) (.cons (.int _) (.cons (rv.ext E1) .nil))⟩
structure EltG(K:al)(tt:V→Hp→(Option V→Hp→Prop)→Prop)(f:D→M (Option D))(H0:Hp)(ι0:Nat→Addr)(m0:Nat):Prop where
 turn:∀{H:Hp}{ι:Nat→Addr}{st st1:aQ}{x:D}{v:V}{o:Option D}{Q:Option V→Hp→Prop},Ext H0 H ι0 ι m0 st.length→Sim K H ι st→VRel K H ι st.length x v→f x st=.ok o st1→
  (∀H1 ι1 w,Ext H H1 ι ι1 st.length st1.length→Sim K H1 ι1 st1→(match o,w with|some y,some z=>VRel K H1 ι1 st1.length y z|none,none=>True|_,_=>False)→Q w H1)→tt v H Q
theorem gM{K:al}{tt:V→Hp→(Option V→Hp→Prop)→Prop}{f:D→M (Option D)}{s:Src}{st st0:aQ}{H0:Hp}(ok:EltG K tt f H ι st.length)
  (F:dC K J s H ι st.length)(E0:Ext H0 H ι0 ι st0.length st.length)(S:Sim K H ι st)(P:ck K H0 ι0 st0 (bK f s st) Q):∀Dd,H Dd=none→∃W:Nat→Nat→List V→Hp→Prop,(∃m,W 0 m [] (bj H Dd (.lst [])))∧∀i m ys H2,W i m ys H2→
   (J.stop i H2∧Q (.ref Dd) H2)∨(J.go i H2∧∃N:List V→Hp→Prop,(∀ys' H',N ys' H'→∃m',m'<m∧W (i+1) m' ys' H')∧
    ∀x H',J.yld i H2 x H'→tt x H' fun w H4=>match w with
     |some y=>H4 Dd=some (.lst ys)∧ys.length<sizeLine∧N (ys++[y]) (bj H4 Dd (.lst (ys++[y])))
     |none=>N ys H4):=by
 intro Dd hD
 have sz:sizeLine=16777216:=sizeLine_eq
 unfold bK at P
 split at P
 case isFalse=>exact P.elim
 case isTrue hz=>
 refine⟨fun i m ys H2=>i+m≤1000001∧∃ι2 st2 acc,Ext H H2 ι ι2 st.length st2.length∧Sim K H2 ι2 st2∧H2 Dd=some (.lst ys)∧(∀n,n<st2.length→ι2 n≠Dd)∧VRels K H2 ι2 st2.length acc ys∧acc.length≤i∧
   ck K H0 ι0 st0 (aW (cV f s m i acc) alloc st2) Q,⟨ej s st+1,by omega,ι,st,[],?_,?_,ba,fun n hn=>?_,.nil,af _,P⟩,?_⟩
 ·exact⟨⟨af _,fun _ _=>rfl,fun b xs e=>by rw[av (au e hD)];exact e,fun b ob u e=>by rw[av (au e hD)];exact e⟩,fun b ob e k=>⟨by rw[av (au e hD)];exact e,k⟩⟩
 ·refine⟨S.inj,fun n o e=>?_⟩
  have hn:n<st.length:=(aH e).1
  have hne:ι n≠Dd:=by obtain⟨_,h,_⟩:=S.obj hn;exact au h hD
  have E:Ext0 H (bj H Dd (.lst [])) ι ι st.length st.length:=⟨af _,fun _ _=>rfl,fun b xs e=>by rw[av (au e hD)];exact e,fun b ob u e=>by rw[av (au e hD)];exact e⟩
  have old:=S.ob n o e
  exact old.move E (av hne)
 ·obtain⟨_,h,_⟩:=S.obj hn;exact au h hD
 ·rintro i m ys H2 ⟨hm,ι2,st2,acc,E2,S2,hDd,ap,ra,la,P2⟩
  obtain⟨zs,st9,e9,P9⟩:=aO P2
  obtain⟨c1,c2⟩:=F H2 ι2 st2 i E2 S2
  cases m with
  |zero=>cases e9
  |succ m=>
   simp only[cV] at e9
   cases en:gm s i st2 with
   |none=>rw[en] at e9;cases e9
   |some ox=>
    rw[en] at e9
    cases ox with
    |none=>
     have e9:R.ok acc st2=R.ok zs st9:=e9
     cases e9
     refine .inl ⟨c1 en,?_⟩
     obtain⟨ι',h1,h2,h3⟩:=S2.add hDd ap ra
     have l:(st2++[O.lst acc]).length=st2.length+1:=by simp
     refine P9 H2 ι' (.ref Dd) ?_ h3 ?_
     ·rw[l]
      have E6:=E0.trans E2
      refine⟨⟨Nat.le_succ_of_le E6.le,fun n hn=>(h1 n (ao hn E6.le)).trans (E6.ad n hn),E6.tp,E6.fz⟩,fun b ob e k=>?_⟩
      obtain⟨g1,g2⟩:=E6.fr b ob e k
      refine⟨g1,fun n hn=>?_⟩
      by_cases hn':n=st2.length
      ·rw[hn',h2]
       obtain⟨g3,_⟩:=E0.fr b ob e k
       exact(au g3 hD).symm
      ·rw[h1 n (by omega)];exact g2 n (by omega)
     ·rw[←h2,l];exact .ref (aB _)
    |some x=>
     obtain⟨hgo,hyl⟩:=c2 x en
     refine .inr ⟨hgo,fun ys' H'=>∃ι2 st2 acc,Ext H H' ι ι2 st.length st2.length∧Sim K H' ι2 st2∧H' Dd=some (.lst ys')∧(∀n,n<st2.length→ι2 n≠Dd)∧VRels K H' ι2 st2.length acc ys'∧acc.length≤i+1∧
      ck K H0 ι0 st0 (aW (cV f s m (i+1) acc) alloc st2) Q,fun ys' H' b=>⟨m,aB _,by omega,b⟩,fun v H' y=>?_⟩
     obtain⟨EY,SY,rv⟩:=hyl v H' y
     obtain⟨hDd,_⟩:=EY.fr Dd _ hDd ap
     replace E2:=E2.trans EY
     replace ra:=ra.ext EY
     simp only[aW] at e9
     cases e3:f x st2 with
     |bad=>rw[e3] at e9;cases e9
     |ok o st3=>
      rw[e3] at e9
      refine ok.turn (Q:=fun w H4=>match w with
       |some y=>H4 Dd=some (.lst ys)∧ys.length<sizeLine∧∃ι2 st2 acc,Ext H (bj H4 Dd (.lst (ys++[y]))) ι ι2 st.length st2.length∧Sim K (bj H4 Dd (.lst (ys++[y]))) ι2 st2∧bj H4 Dd (.lst (ys++[y])) Dd=some (.lst (ys++[y]))∧(∀n,n<st2.length→ι2 n≠Dd)∧VRels K (bj H4 Dd (.lst (ys++[y]))) ι2 st2.length acc (ys++[y])∧acc.length≤i+1∧
         ck K H0 ι0 st0 (aW (cV f s m (i+1) acc) alloc st2) Q
       |none=>∃ι2 st2 acc,Ext H H4 ι ι2 st.length st2.length∧Sim K H4 ι2 st2∧H4 Dd=some (.lst ys)∧(∀n,n<st2.length→ι2 n≠Dd)∧VRels K H4 ι2 st2.length acc ys∧acc.length≤i+1∧
         ck K H0 ι0 st0 (aW (cV f s m (i+1) acc) alloc st2) Q) E2 SY rv e3 fun H4 ι4 w E4 S4 r4=>?_
      obtain⟨hDd4,ap4⟩:=E4.fr Dd _ hDd ap
      cases o with
      |none=>
       cases w with
       |some _=>exact r4.elim
       |none=>
        have e9':cV f s m (i+1) acc st3=.ok zs st9:=e9
        refine⟨ι4,st3,acc,E2.trans E4,S4,hDd4,ap4,ra.ext E4,by omega,?_⟩
        unfold aW
        rw[e9']
        exact P9
      |some yd=>
       cases w with
       |none=>exact r4.elim
       |some yv=>
        have e9':cV f s m (i+1) (acc++[yd]) st3=.ok zs st9:=e9
        have lra:=ra.length
        refine⟨hDd4,by omega,ι4,st3,acc++[yd],?_⟩
        have E5:Ext0 H4 (bj H4 Dd (.lst (ys++[yv]))) ι4 ι4 st3.length st3.length:=⟨af _,fun _ _=>rfl,fun b xs e=>by rw[av (dR e hDd4 (by intro z;cases z))];exact e,fun b ob u e=>by rw[av (dR e hDd4 (by intro z;cases z))];exact e⟩
        refine⟨?_,⟨S4.inj,fun n ob e=>?_⟩,ba,ap4,VRels.ext0 E5 ((ra.ext E4).append (.cons r4 .nil)),by simp;omega,?_⟩
        ·have E6:=E2.trans E4
         refine⟨⟨E6.le,E6.ad,fun b xs e=>E5.tp b xs (E6.tp b xs e),fun b ob u e=>E5.fz b ob u (E6.fz b ob u e)⟩,fun b ob e k=>?_⟩
         obtain⟨g1,g2⟩:=E6.fr b ob e k
         exact⟨by rw[av (au e hD)];exact g1,g2⟩
        ·have hn:n<st3.length:=(aH e).1
         have old:=S4.ob n ob e
         exact old.move E5 (av (ap4 n hn))
        ·unfold aW
         rw[e9']
         exact P9
theorem AN{K:al}{s:Src}{H0:Hp}(F:cG K J s H0 ι0 m0):dC K J s H0 ι0 m0:=fun H ι st i E S=>by
 obtain⟨h1,h2⟩:=F H ι st i E S
 refine⟨h1,fun x e=>?_⟩
 obtain⟨h3,h4⟩:=h2 x e
 refine⟨h3,fun v H' y=>?_⟩
 obtain⟨rfl,r⟩:=h4 v H' y
 exact⟨Ext.refl _ _ _,S,r⟩
theorem gN{K:al}{tc:TT}{te:TE}{f:Loc→D→M (Option D)}(ok:EltOk K tc te f){s:Src}{st st0:aQ}{H0:Hp}{loc:Loc}
  (F:cG K J s H ι st.length)(E0:Ext H0 H ι0 ι st0.length st.length)(S:Sim K H ι st)(L:LRel K H ι st.length loc σ)(P:ck K H0 ι0 st0 (bK (f loc) s st) Q):∀Dd,H Dd=none→∃W:Nat→Nat→List V→Hp→Prop,(∃m,W 0 m [] (bj H Dd (.lst [])))∧∀i m ys H2,W i m ys H2→
   (J.stop i H2∧Q (.ref Dd) H2)∨(J.go i H2∧∃N:List V→Hp→Prop,(∀ys' H',N ys' H'→∃m',m'<m∧W (i+1) m' ys' H')∧
    ∀x H',J.yld i H2 x H'→tc (some x::σ) H' fun b H3=>if b=true then te (some x::σ) H3 fun y H4=>H4 Dd=some (.lst ys)∧ys.length<sizeLine∧N (ys++[y]) (bj H4 Dd (.lst (ys++[y]))) else N ys H3):=
 gM (tt:=fun v H' K=>tc (some v::σ) H' fun b H3=>if b=true then te (some v::σ) H3 fun y H4=>K (some y) H4 else K none H3) ⟨fun E S r ee k=>ok.turn S (L.ext E) r ee k⟩ (AN F) E0 S P
section
variable{T:Tab}{g:cY}{X:Cx}{sc:Scope}{N:List Str}{pos p2:Pos}
theorem rT{m:Loc→M D}(h:PE X e (tE X.K m))(he:∀whole,isTrue e X.env whole=(do let v ←whole;standAt e.pos;holding [v] (truthy v))):PT X e (tT X.K m):=
 (xD h he).imp fun σ H Q hp=>by
  obtain⟨ι,st,loc,S,L,P⟩:=hp
  obtain⟨b,st1,e1,k⟩:=P.inv
  exact aZ S L e1 fun H1 ι1 v E1 S1 r1=>by cases r1;exact⟨b,rfl,k H1 ι1 E1 S1⟩
theorem gL{d:D}(h:PE X e (tC v))(r:∀H ι m,VRel X.K H ι m d v):PE X e (tE X.K (run g (.c d))):=
 h.imp fun σ H Q hp=>by
  obtain⟨ι,st,loc,S,L,P⟩:=hp
  rw[run] at P
  exact P.same S (r H ι _)
theorem tF(C:Ctx T g X sc N)(hi:dS N x=some i)(hv:AR sc x):PE X (.Name x pos) (tE X.K (run g (.v i))):=by
 have hN:X.N[i]? =some x:=by rw[C.n];exact bX hi
 obtain⟨h1,h2⟩:=C.nm x (am (bX hi))
 refine(xM hN (by rw[C.sc];exact hv) h1 h2).imp fun σ H Q hp=>?_
 obtain⟨ι,st,loc,S,L,P⟩:=hp
 rw[run] at P
 unfold dX at P
 cases e:loc[i]? with
 |none=>rw[e] at P;exact P.elim
 |some o=>
  rw[e] at P
  cases o with
  |none=>exact P.elim
  |some d=>
   obtain⟨v,hv,r⟩:=L.at_ i d e
   exact⟨v,hv,P.same S r⟩
theorem wJ{xs:List Ex}{k:Nat}(ha:PA X es (tA X.K (runs g xs)))(hz:es.length≤1000)(hl:es.length=xs.length):PE X (.Tuple es k pos) (tE X.K (run g (.tup xs))):=
 (xN ha).imp fun σ H Q hp=>by
  obtain⟨ι,st,loc,S,L,P⟩:=hp
  rw[run] at P
  obtain⟨ds,st1,e1,P⟩:=aO P
  have sz:sizeLine=16777216:=sizeLine_eq
  refine f_ S L e1 fun H1 ι1 vs E1 S1 r1=>⟨?_,(P.mono E1).tup S1 r1⟩
  have:=runs_len e1
  have l:=r1.length
  omega
where
 runs_len:∀{xs:List Ex}{loc:Loc}{st st1:aQ}{ds:List D},runs g xs loc st=.ok ds st1→ds.length=xs.length
 |[],loc,st,st1,ds,e=>by rw[runs] at e;cases e;rfl
 |x::xs,loc,st,st1,ds,e=>by
  rw[runs] at e
  simp only[aW,ret] at e
  split at e
  ·split at e
   ·rename_i e2
    cases e
    rw[List.length_cons,List.length_cons,runs_len e2]
   ·cases e
  ·cases e
theorem AA{xs:List Ex}(ha:PA X es (tA X.K (runs g xs)))(hz:es.length≤1000)(hl:es.length=xs.length):PE X (.List es pos) (tE X.K (run g (.lst xs))):=
 (xR ha).imp fun σ H Q hp=>by
  obtain⟨ι,st,loc,S,L,P⟩:=hp
  rw[run] at P
  obtain⟨ds,st1,e1,P⟩:=aO P
  have sz:sizeLine=16777216:=sizeLine_eq
  refine f_ S L e1 fun H1 ι1 vs E1 S1 r1=>⟨?_,(P.mono E1).alloc S1 r1⟩
  have:=wJ.runs_len e1
  have l:=r1.length
  omega
theorem yI(I:Inv X pins σ H s):sysModules<s.heap.objs.size:=Nat.lt_trans (by decide) (show mainGlobals<s.heap.objs.size from(I.mod.glob.keeps I.bk).lt)
theorem AG:PE X (.Dict [] [] pos) (tE X.K (run g .emp)):=by
 intro pins s σ H Q I ⟨ι,st,loc,S,L,P⟩
 rw[run] at P
 refine wpAny_Dict_empty ⟨.ref s.heap.objs.size,_,I.laid (a:=s.heap.objs.size) (o:= .dK []) (t':=s.toks) (fun _ _ q=>ac _ q) (af _) ?_,rfl,P.allocD S _ (I.hok.fresh (af _))⟩
 exact⟨Nat.zero_le _,beq_eq_false_iff_ne.mpr (Ne.symm (ai (yI I))),[],.nil,Heap.DictOf.new s.heap⟩
theorem o7{a b:Ex}{f:D→D→M D}(h:tE X.K (fun loc=>aW (run g a loc) fun x=>aW (run g b loc) fun y=>f x y) σ H Q):yQ (rD X.K f) (tE X.K (run g a)) (tE X.K (run g b)) σ H Q:=by
 obtain⟨ι,st,loc,S,L,P⟩:=h
 obtain⟨x,st1,e1,P⟩:=aO P
 obtain⟨y,st2,e2,P⟩:=aO P
 exact aZ S L e1 fun H1 ι1 vx E1 S1 r1=>aZ S1 (L.ext E1) e2 fun H2 ι2 vy E2 S2 r2=>⟨ι2,st2,x,y,S2,r1.ext E2,r2,P.mono (E1.trans E2)⟩
theorem AI{a' b':Ex}{op:Operator}{o:Bo}(ho:AQ op=some o)(ha:PE X a (tE X.K (run g a')))(hb:PE X b (tE X.K (run g b'))):PE X (.BinOp a op b pos) (tE X.K (run g (.bin o a' b'))):=by
 have e:op=o.op:=by cases op<;>cases ho<;>rfl
 subst e
 refine(z_ (x3 o) ha hb).imp fun σ H Q h=>o7 ?_
 obtain⟨ι,st,loc,S,L,P⟩:=h
 rw[run] at P
 exact⟨ι,st,loc,S,L,P⟩
theorem Az{a':Ex}(ha:PE X a (tE X.K (run g a'))):PE X (.UnaryOp .USub a pos) (tE X.K (run g (.neg a'))):=
 (zY wY ha).imp fun σ H Q hp=>by
  obtain⟨ι,st,loc,S,L,P⟩:=hp
  rw[run] at P
  obtain⟨x,st1,e1,P⟩:=aO P
  obtain⟨i,st2,e2,P⟩:=aO P
  obtain⟨e3,rfl⟩:=bw e2
  have:=mU e3
  subst this
  exact aZ S L e1 fun H1 ι1 v E1 S1 r1=>by cases r1;exact⟨i,rfl,(P.mono E1).same S1 (.int _)⟩
theorem Ax{a':Ex}(ha:PE X a (tE X.K (run g a'))):PE X (.UnaryOp .Not a pos) (tE X.K (run g (.not a'))):=
 (xP ha).imp fun σ H Q hp=>by
  obtain⟨ι,st,loc,S,L,P⟩:=hp
  rw[run] at P
  obtain⟨x,st1,e1,P⟩:=aO P
  obtain⟨i,st2,e2,P⟩:=aO P
  obtain⟨e3,rfl⟩:=bw e2
  have:=bT e3
  subst this
  exact aZ S L e1 fun H1 ι1 v E1 S1 r1=>by cases r1;exact⟨i,rfl,(P.mono E1).same S1 (.bl _)⟩
theorem zd{a':Ex}(ha:PT X a (tT X.K (run g a'))):PT X (.UnaryOp .Not a pos) (tT X.K (run g (.not a'))):=
 (xE ha).imp fun σ H Q hp=>by
  obtain⟨ι,st,loc,S,L,P⟩:=hp
  rw[run] at P
  obtain⟨x,st1,e1,P⟩:=dq P
  obtain⟨i,st2,e2,P⟩:=dq P
  obtain⟨e3,rfl⟩:=bw e2
  have:=bT e3
  subst this
  exact i9 S L e1 fun H1 ι1 E1 S1=>P H1 ι1 E1 S1
theorem AJ{a' b':Ex}(ha:PE X a (tE X.K (run g a')))(hb:PE X (.BoolOp .And (b::r) pos) (tE X.K (run g b'))):PE X (.BoolOp .And (a::b::r) pos) (tE X.K (run g (.and a' b'))):=
 (xV ha hb).imp fun σ H Q hp=>by
  obtain⟨ι,st,loc,S,L,P⟩:=hp
  rw[run] at P
  obtain⟨x,st1,e1,P⟩:=aO P
  obtain⟨i,st2,e2,P⟩:=aO P
  obtain⟨e3,rfl⟩:=bw e2
  have:=bT e3
  subst this
  refine aZ S L e1 fun H1 ι1 v E1 S1 r1=>?_
  cases r1
  refine⟨i,rfl,?_⟩
  cases i with
  |true=>rw[if_pos rfl];exact⟨ι1,st2,loc,S1,L.ext E1,P.mono E1⟩
  |false=>rw[if_neg aq];exact(P.mono E1).same S1 (.bl false)
theorem BW{a' b':Ex}(ha:PE X a (tE X.K (run g a')))(hb:PE X (.BoolOp .Or (b::r) pos) (tE X.K (run g b'))):PE X (.BoolOp .Or (a::b::r) pos) (tE X.K (run g (.or a' b'))):=
 (z9 ha hb).imp fun σ H Q hp=>by
  obtain⟨ι,st,loc,S,L,P⟩:=hp
  rw[run] at P
  obtain⟨x,st1,e1,P⟩:=aO P
  obtain⟨i,st2,e2,P⟩:=aO P
  obtain⟨e3,rfl⟩:=bw e2
  have:=bT e3
  subst this
  refine aZ S L e1 fun H1 ι1 v E1 S1 r1=>?_
  cases r1
  refine⟨i,rfl,?_⟩
  cases i with
  |false=>rw[if_neg aq];exact⟨ι1,st2,loc,S1,L.ext E1,P.mono E1⟩
  |true=>rw[if_pos rfl];exact(P.mono E1).same S1 (.bl true)
theorem wC{op:BoolOp}{t:TT}(h:PT X (.BoolOp op es pos) t):PW X (.BoolOp op es pos) t:=fun wh pins s σ H Q I q=>by
 have:=h pins s σ H Q I q
 exact this
theorem zg{a' b':Ex}(ha:PT X a (tT X.K (run g a')))(hb:PT X (.BoolOp .And (b::r) pos) (tT X.K (run g b'))):PT X (.BoolOp .And (a::b::r) pos) (tT X.K (run g (.and a' b'))):=
 (xC ha (wC hb)).pt.imp fun σ H Q hp=>by
  obtain⟨ι,st,loc,S,L,P⟩:=hp
  rw[run] at P
  obtain⟨x,st1,e1,P⟩:=dq P
  obtain⟨i,st2,e2,P⟩:=dq P
  obtain⟨e3,rfl⟩:=bw e2
  have:=bT e3
  subst this
  refine i9 S L e1 fun H1 ι1 E1 S1=>?_
  cases i with
  |true=>rw[if_pos rfl];exact⟨ι1,st2,loc,S1,L.ext E1,P.mono E1⟩
  |false=>rw[if_neg aq];exact P H1 ι1 E1 S1
theorem Be{a' b':Ex}(ha:PT X a (tT X.K (run g a')))(hb:PT X (.BoolOp .Or (b::r) pos) (tT X.K (run g b'))):PT X (.BoolOp .Or (a::b::r) pos) (tT X.K (run g (.or a' b'))):=
 (zW ha (wC hb)).pt.imp fun σ H Q hp=>by
  obtain⟨ι,st,loc,S,L,P⟩:=hp
  rw[run] at P
  obtain⟨x,st1,e1,P⟩:=dq P
  obtain⟨i,st2,e2,P⟩:=dq P
  obtain⟨e3,rfl⟩:=bw e2
  have:=bT e3
  subst this
  refine i9 S L e1 fun H1 ι1 E1 S1=>?_
  cases i with
  |false=>rw[if_neg aq];exact⟨ι1,st2,loc,S1,L.ext E1,P.mono E1⟩
  |true=>rw[if_pos rfl];exact P H1 ι1 E1 S1
theorem zc{op:BoolOp}{t:TT}(ha:PT X a t):PT X (.BoolOp op [a] pos) t:=by
 cases op with
 |And=>exact(vg ha).pt
 |Or=>exact(xB ha).pt
theorem AH(hu:X.A.units+100<cLine){a' b':Ex}{op:CmpOp}(hm:behindInMarks op b=false)(ha:PE X a (tE X.K (run g a')))(hb:PE X b (tE X.K (run g b'))):PE X (.Compare a [op] [b] pos) (tE X.K (run g (.cmp op a' b'))):=
 (pi (hJ hu op) ha hb hm).imp fun σ H Q hp=>by
  obtain⟨ι,st,loc,S,L,P⟩:=hp
  rw[run] at P
  exact o7 ⟨ι,st,loc,S,L,P⟩
theorem sv:iA X (compareOp .In) (fun x y H Q=>∃z a ks,x=.str z∧y=.ref a∧mi X.prog X.w X.K a ks∧Q (.bl (ks.contains z)) H):=by
 intro pins s σ H x y v u Q I rx ry h
 obtain⟨z,a,ks,rfl,rfl,⟨hs,o,ho,hd⟩,q⟩:=h
 cases(show u=Value.ref a from ry)
 obtain⟨vs,dd,hk⟩:=hd s.heap (I.kIn a o ho)
 refine wpAny_in_of (k:=Sum.inr z) (im (k:=Sum.inr z) rx) hs dd.mapOf ?_
 have e:(valueAt vs (Sum.inr z:Key)).isSome=ks.contains z:=by
  unfold valueAt
  rw[Option.isSome_map,List.isSome_find?]
  have:∀(vs:List (Key×Value))(ks:List Str),vs.map (·.1)=ks.map Sum.inr→(vs.any fun kv=>decide (kv.1=(Sum.inr z:Key)))=ks.contains z:=by
   intro vs
   induction vs with
   |nil=>intro ks h;cases ks with
    |nil=>rfl
    |cons=>cases h
   |cons p r ih=>
    intro ks h
    cases ks with
    |nil=>cases h
    |cons k ks=>
     injection h with h1 h2
     have h1:p.1=Sum.inr k:=h1
     rw[List.any_cons,List.contains_cons,ih ks h2,h1]
     congr 1
     by_cases hz:k=z
     ·subst hz;simp
     ·simp[hz,Ne.symm hz,Sum.inr.injEq]
  exact this vs ks hk
 rw[e]
 exact⟨.bl _,H,I.tok _,rfl,q⟩
theorem sN{a':Ex}{b:Addr}(hd:mi X.prog X.w X.K b ks)(h:tE X.K (run g (.inG ks a')) σ H Q):yQ (fun x y H Q=>∃z a ks,x=.str z∧y=.ref a∧mi X.prog X.w X.K a ks∧Q (.bl (ks.contains z)) H) (tE X.K (run g a')) (tC (.ref b)) σ H Q:=by
 obtain⟨ι,st,loc,S,L,P⟩:=h
 rw[run] at P
 obtain⟨x,st1,e1,P⟩:=aO P
 refine aZ S L e1 fun H1 ι1 v E1 S1 r1=>?_
 cases r1 with
 |str z=>exact⟨z,b,ks,rfl,rfl,hd,(show ck X.K H ι st (.ok (.bl (ks.contains z)) st1) Q from P) H1 ι1 (.bl _) E1 S1 (.bl _)⟩
 |_=>exact P.elim
theorem lu{m:Loc→M D}{t:TE}{Q:Bool→Hp→Prop}(k:∀Q',tE X.K m σ H Q'→t σ H Q')(h:tT X.K m σ H Q):re t σ H Q:=by
 refine k _ ?_
 obtain⟨ι,st,loc,S,L,P⟩:=h
 obtain⟨b,st1,e,q⟩:=P.inv
 exact aZ S L e fun H1 ι1 v E1 S1 r1=>by cases r1;exact⟨b,rfl,q H1 ι1 E1 S1⟩
theorem AE{a':Ex}(C:Ctx T g X sc N)(hg:aV sc x=true)(hk:T.gds.lookup x=some ks)(ha:PE X a (tE X.K (run g a'))):PE X (.Compare a [.In] [.Name x p2] pos) (tE X.K (run g (.inG ks a')))∧PT X (.Compare a [.In] [.Name x p2] pos) (tT X.K (run g (.inG ks a'))):=by
 obtain⟨hdb,b,hm,hd⟩:=C.gds x ks hk
 have hgl:Gl X x:=by
  show X.env.scope.names.lookup _=some .globalImplicit
  rw[C.sc]
  simpa[aV] using hg
 have hb:PE X (.Name x p2) (tC (.ref b)):=lL hgl hm rfl hdb
 exact⟨(pi sv ha hb rfl).imp fun σ H Q h=>sN hd h,(o_ sv ha hb rfl).imp fun σ H Q h=>lu (fun Q' hp=>sN hd hp) h⟩
theorem zf(hu:X.A.units+100<cLine){a' b':Ex}{op:CmpOp}(hm:behindInMarks op b=false)(ha:PE X a (tE X.K (run g a')))(hb:PE X b (tE X.K (run g b'))):PT X (.Compare a [op] [b] pos) (tT X.K (run g (.cmp op a' b'))):=
 (o_ (hJ hu op) ha hb hm).imp fun σ H Q h=>lu (fun Q' hp=>by
  obtain⟨ι,st,loc,S,L,P⟩:=hp
  rw[run] at P
  exact o7 ⟨ι,st,loc,S,L,P⟩) h
theorem mC{a b c:Ex}{op:CmpOp}(h:tE X.K (run g (.chain op op' a b c)) σ H Q):nL (rD X.K (ce op)) (rD X.K (ce op')) (tE X.K (run g a)) (tE X.K (run g b)) (tE X.K (run g c)) σ H Q:=by
 obtain⟨ι,st,loc,S,L,P⟩:=h
 rw[run] at P
 obtain⟨x,st1,e1,P⟩:=aO P
 obtain⟨y,st2,e2,P⟩:=aO P
 obtain⟨z,st3,e3,P⟩:=aO P
 obtain⟨k,st4,e4,P⟩:=aO P
 obtain⟨e5,rfl⟩:=bw e4
 have:=bT e5
 subst this
 refine aZ S L e1 fun H1 ι1 vx E1 S1 r1=>aZ S1 (L.ext E1) e2 fun H2 ι2 vy E2 S2 r2=>⟨ι2,st2,x,y,S2,r1.ext E2,r2,?_⟩
 rw[e3]
 intro H3 ι3 vz E3 S3 r3
 cases r3
 refine⟨k,rfl,?_⟩
 have E:=(E1.trans E2).trans E3
 cases k with
 |true=>
  rw[if_pos rfl]
  obtain⟨w,st5,e5,P⟩:=aO (show ck X.K H ι st (aW (run g c loc) (fun w=>ce op' y w) st4) Q from P)
  exact aZ S3 (L.ext E) e5 fun H5 ι5 vw E5 S5 r5=>⟨ι5,st5,y,w,S5,(r2.ext E3).ext E5,r5,P.mono (E.trans E5)⟩
 |false=>
  rw[if_neg aq]
  exact(P.mono E).same S3 (.bl false)
theorem wa(hu:X.A.units+100<cLine){c:Expr}{a' b' c':Ex}{op:CmpOp}(hm:behindInMarks op' c=false)(ha:PE X a (tE X.K (run g a')))(hb:PE X b (tE X.K (run g b')))(hc:PE X c (tE X.K (run g c'))):PE X (.Compare a [op,op'] [b,c] pos) (tE X.K (run g (.chain op op' a' b' c'))):=
 (sm (hJ hu op) (hJ hu op') ha hb hc hm).imp fun σ H Q h=>mC h
theorem uC(hu:X.A.units+100<cLine){c:Expr}{a' b' c':Ex}{op:CmpOp}(hm:behindInMarks op' c=false)(ha:PE X a (tE X.K (run g a')))(hb:PE X b (tE X.K (run g b')))(hc:PE X c (tE X.K (run g c'))):PT X (.Compare a [op,op'] [b,c] pos) (tT X.K (run g (.chain op op' a' b' c'))):=
 (rV (hJ hu op) (hJ hu op') ha hb hc hm).imp fun σ H Q h=>lu (fun Q' h'=>mC h') h
theorem BX{a' b':Ex}(hu:X.A.units+100<cLine)(hs:gC b=true)(ha:PE X a (tE X.K (run g a')))(hb:PE X b (tE X.K (run g b'))):PE X (.Subscript a b pos) (tE X.K (run g (.ix a' b'))):=
 (Aa (BK hu) ha hb (fun o i=>by cases b<;>first|rfl|cases hs)).imp fun σ H Q hp=>by
  obtain⟨ι,st,loc,S,L,P⟩:=hp
  rw[run] at P
  exact o7 ⟨ι,st,loc,S,L,P⟩
theorem yu{lo hi:Option Expr}{a' l' h':Ex}{hl hh:Bool}{tl th:TO}(ha:PE X a (tE X.K (run g a')))(hlo:PO X lo tl)(hhi:PO X hi th)
  (kl:∀{H:Hp}{ι:Nat→Addr}{st st1:aQ}{loc:Loc}{σ:L2.St}{o:Option Int}{Q:Option Int→Hp→Prop},Sim X.K H ι st→LRel X.K H ι st.length loc σ→(if hl=true then aW (run g l' loc) fun z=>aW (dX (jr z)) fun i=>ret (some i) else ret none) st=R.ok o st1→
   (∀H1 ι1,Ext H H1 ι ι1 st.length st1.length→Sim X.K H1 ι1 st1→Q o H1)→tl σ H Q)
  (kh:∀{H:Hp}{ι:Nat→Addr}{st st1:aQ}{loc:Loc}{σ:L2.St}{o:Option Int}{Q:Option Int→Hp→Prop},Sim X.K H ι st→LRel X.K H ι st.length loc σ→(if hh=true then aW (run g h' loc) fun z=>aW (dX (jr z)) fun i=>ret (some i) else ret none) st=R.ok o st1→
   (∀H1 ι1,Ext H H1 ι ι1 st.length st1.length→Sim X.K H1 ι1 st1→Q o H1)→th σ H Q):PE X (.Subscript a (.Slice lo hi none p2) pos) (tE X.K (run g (.sl a' l' h' hl hh))):=
 (sg Bw ha hlo hhi).imp fun σ H Q hp=>by
  obtain⟨ι,st,loc,S,L,P⟩:=hp
  rw[run] at P
  obtain⟨x,st1,e1,P⟩:=aO P
  obtain⟨ol,st2,e2,P⟩:=aO P
  obtain⟨oh,st3,e3,P⟩:=aO P
  refine aZ S L e1 fun H1 ι1 vx E1 S1 r1=>kl S1 (L.ext E1) e2 fun H2 ι2 E2 S2=>kh S2 ((L.ext E1).ext E2) e3 fun H3 ι3 E3 S3=>⟨ι3,st3,x,S3,(r1.ext E2).ext E3,P.mono ((E1.trans E2).trans E3)⟩
theorem pp{l':Ex}{st st1:aQ}{loc:Loc}{o:Option Int}{Q:Option Int→Hp→Prop}(S:Sim X.K H ι st)(L:LRel X.K H ι st.length loc σ)(e:(if false=true then aW (run g l' loc) fun z=>aW (dX (jr z)) fun i=>ret (some i) else ret none) st=R.ok o st1)
  (k:∀H1 ι1,Ext H H1 ι ι1 st.length st1.length→Sim X.K H1 ι1 st1→Q o H1):oV σ H Q:=by
 rw[if_neg aq] at e
 cases e
 exact k H ι (Ext.refl _ _ _) S
theorem gF{l':Ex}{st st1:aQ}{loc:Loc}{o:Option Int}{Q:Option Int→Hp→Prop}(S:Sim X.K H ι st)(L:LRel X.K H ι st.length loc σ)(e:(if true=true then aW (run g l' loc) fun z=>aW (dX (jr z)) fun i=>ret (some i) else ret none) st=R.ok o st1)
  (k:∀H1 ι1,Ext H H1 ι ι1 st.length st1.length→Sim X.K H1 ι1 st1→Q o H1):wy (tE X.K (run g l')) σ H Q:=by
 rw[if_pos rfl] at e
 simp only[aW,ret] at e
 cases e1:run g l' loc st with
 |bad=>rw[e1] at e;cases e
 |ok z st2=>
  rw[e1] at e
  simp only[dX] at e
  cases e2:jr z with
  |none=>rw[e2] at e;cases e
  |some i=>
   rw[e2] at e
   cases e
   have:=mU e2
   subst this
   exact aZ S L e1 fun H1 ι1 v E1 S1 r1=>by cases r1;exact⟨i,rfl,k H1 ι1 E1 S1⟩
theorem AB{c:Expr}{c' a' b':Ex}(hc:PT X c (tT X.K (run g c')))(ha:PE X a (tE X.K (run g a')))(hb:PE X b (tE X.K (run g b'))):PE X (.IfExp c a b pos) (tE X.K (run g (.ite c' a' b'))):=
 (sk hc ha hb).imp fun σ H Q hp=>by
  obtain⟨ι,st,loc,S,L,P⟩:=hp
  rw[run] at P
  obtain⟨x,st1,e1,P⟩:=aO P
  obtain⟨i,st2,e2,P⟩:=aO P
  obtain⟨e3,rfl⟩:=bw e2
  have:=bT e3
  subst this
  refine i9 S L e1 fun H1 ι1 E1 S1=>?_
  cases i with
  |true=>rw[if_pos rfl];exact⟨ι1,st2,loc,S1,L.ext E1,P.mono E1⟩
  |false=>rw[if_neg aq];exact⟨ι1,st2,loc,S1,L.ext E1,P.mono E1⟩
theorem BY{as:List Expr}{xs:List Ex}(C:Ctx T g X sc N)(hg:aV sc f=true)(hi:dS T.fns f=some i)(ha:PA X (a::as) (tA X.K (runs g xs)))(hl:(a::as).length=xs.length)
  (he:starEach (a::as) X.env=(false,eval a X.env)::starEach as X.env)(hpl:(backTo pos (starEach as X.env)).any (·.1)=false):PE X (.Call (.Name f p2) (a::as) [] pos) (tE X.K (run g (.fn i xs))):=by
 obtain⟨hd,ad,fd,ps,k,hm,kp,hb,hr,har,F⟩:=C.fns i f (bX hi)
 have hgl:Gl X f:=by
  show X.env.scope.names.lookup f=some .globalImplicit
  rw[C.sc]
  simpa[aV] using hg
 refine(vB F hr hgl hm kp hb .nil su ha hd he hpl).imp fun σ H Q hp=>?_
 obtain⟨ι,st,loc,S,L,P⟩:=hp
 rw[run] at P
 obtain⟨ds,st1,e1,P⟩:=aO P
 refine f_ S L e1 fun H1 ι1 vs E1 S1 r1=>?_
 rw[List.append_nil]
 refine⟨?_,ι1,st1,ds,S1,r1,(dB.val P).mono E1⟩
 by_cases hps:ds.length=ps.length
 ·rw[←r1.length];exact hps
 ·have P2:=dB.val (E:=E0) P
  rw[har ds st1 hps] at P2;exact P2.elim
theorem BZ{b:Bt}{as:List Expr}{xs:List Ex}(C:Ctx T g X sc N)(hcm:T.calm=true)(hg:aV sc f=true)(hb:yG.lookup f=some b)(ha:PA X (a::as) (tA X.K (runs g xs)))
  (he:starEach (a::as) X.env=(false,eval a X.env)::starEach as X.env)(hpl:(backTo pos (starEach as X.env)).any (·.1)=false):PE X (.Call (.Name f p2) (a::as) [] pos) (tE X.K (run g (.bt b xs))):=by
 have hgl:Gl X f:=by
  show X.env.scope.names.lookup f=some .globalImplicit
  rw[C.sc]
  simpa[aV] using hg
 have hbl:∀x:Str,x∈qC→X.mg x=none:=C.blt
 have key:PE X (.Call (.Name f p2) (a::as) [] pos) (Br (rB X.K b) (tA X.K (runs g xs))):=by
  have hmem:=aw hb
  have cc:ei X b.val (rB X.K b):=yF (C.calm hcm) b
  simp only[yG,List.mem_cons,List.mem_nil_iff,Prod.mk.injEq,or_false] at hmem
  rcases hmem with⟨rfl,rfl⟩|⟨rfl,rfl⟩|⟨rfl,rfl⟩|⟨rfl,rfl⟩|⟨rfl,rfl⟩|⟨rfl,rfl⟩
  ·exact fG cc hgl (hbl _ (by decide+kernel)) PySem.boot_len ha (by decide+kernel) (by decide+kernel) he hpl
  all_goals first
   |exact kt cc hgl (hbl _ (by decide+kernel)) (by decide+kernel) ha (by decide+kernel) (by decide+kernel) he hpl
   |exact fG cc hgl (hbl _ (by decide+kernel)) (by decide+kernel) ha (by decide+kernel) (by decide+kernel) he hpl
 refine key.imp fun σ H Q hp=>?_
 obtain⟨ι,st,loc,S,L,P⟩:=hp
 rw[run] at P
 obtain⟨ds,st1,e1,P⟩:=aO P
 exact f_ S L e1 fun H1 ι1 vs E1 S1 r1=>⟨ι1,st1,ds,S1,r1,P.mono E1⟩
theorem uw{ty:Ty}(h:uz.lookup t=some ty):bootBuiltins t=some (.type ty.name)∧t≠ "__name__" ∧(t==("__debug__":Str))=false∧t∈qC:=by
 have hmem:=aw h
 simp only[uz,List.mem_cons,List.mem_nil_iff,Prod.mk.injEq,or_false] at hmem
 rcases hmem with⟨rfl,rfl⟩|⟨rfl,rfl⟩|⟨rfl,rfl⟩|⟨rfl,rfl⟩<;>exact⟨by decide+kernel,by decide+kernel,by decide+kernel,by decide+kernel⟩
theorem AC{ty:Ty}{a':Ex}(C:Ctx T g X sc N)(hg:aV sc "isinstance"=true)(hgt:aV sc t=true)(ht:uz.lookup t=some ty)(ha:PE X a (tE X.K (run g a')))
  (he:starEach [a,.Name t p3] X.env=(false,eval a X.env)::starEach [.Name t p3] X.env):PE X (.Call (.Name "isinstance" p2) [a,.Name t p3] [] pos) (tE X.K (run g (.isi a' ty))):=by
 have gl:∀{x:Str},aV sc x=true→Gl X x:=fun{x} h=>by
  show X.env.scope.names.lookup x=some .globalImplicit
  rw[C.sc]
  simpa[aV] using h
 obtain⟨b1,b2,b3,b4⟩:=uw ht
 have cc:ei X (.builtin "isinstance") (fun vs H Q=>∃ι st d v k,vs=[v,.ty ty.name]∧Sim X.K H ι st∧VRel X.K H ι st.length d v∧bY st ty d=some k∧Q (.bl k) H):=by
  intro pins s σ H vs us Q I r h
  obtain⟨ι,st,d,v,k,rfl,S,rv,e,q⟩:=h
  cases r with
  |cons r1 r2=>
   cases r2 with
   |cons r2 r3=>
    cases r3
    cases r2
    exact yi I S rv r1 e q
 have ht':PE X (.Name t p3) (tC (.ty ty.name)):=pj (gl hgt) (C.blt t b4) b1 rfl b2 b3
 refine(fG cc (gl hg) (C.blt _ (by decide+kernel)) (by decide+kernel) (bC ha (bC ht' c_) he) (by decide+kernel) (by decide+kernel) he rfl).imp fun σ H Q hp=>?_
 obtain⟨ι,st,loc,S,L,P⟩:=hp
 rw[run] at P
 obtain⟨x,st1,e1,P⟩:=aO P
 refine aZ S L e1 fun H1 ι1 v E1 S1 r1=>?_
 cases e2:bY st1 ty x with
 |none=>rw[e2] at P;exact P.elim
 |some k=>
  rw[e2] at P
  exact⟨ι1,st1,x,v,k,rfl,S1,r1,e2,(P.mono E1).same S1 (.bl k)⟩
end
set_option maxHeartbeats 8000000
section
variable{T:Tab}{g:cY}{X:Cx}{sc:Scope}{N:List Str}{pos px:Pos}
theorem cB(C:Ctx T g X sc N)(h:dz sc scope N x=true):CompScope X x scope∧x∉X.N∧(x==("__debug__":Str))=false∧(x==("__classdict__":Str))=false:=by
 unfold dz at h
 simp only[Bool.and_eq_true,List.all_eq_true] at h
 obtain⟨⟨⟨⟨⟨h1,h2⟩,h3⟩,h4⟩,h5⟩,h6⟩:=h
 have hx:x∉N:=by simpa using h3
 refine⟨⟨by simpa using h1,fun y hy=>?_,fun y hy hl=>?_,by simpa using h2,fun y hy hf=>?_,fun y hy hl=>?_⟩,by rw[C.n];exact hx,by simpa using h4,by simpa using h5⟩
 ·obtain⟨⟨a,b⟩,c⟩:=h6 y hy
  simpa using a
 ·obtain⟨⟨a,b⟩,c⟩:=h6 y hy
  rw[hl] at b
  simp at b
  exact b.1
 ·obtain⟨⟨a,b⟩,c⟩:=h6 y hy
  rw[hf] at c
  have c':sc.names.lookup y.1=some .cell∨sc.names.lookup y.1=some .free:=by simpa using c
  show X.env.scope.names.lookup y.1=_∨X.env.scope.names.lookup y.1=_
  rw[C.sc]
  exact c'
 ·obtain⟨⟨a,b⟩,c⟩:=h6 y hy
  rw[hl] at b
  simp at b
  rw[C.n]
  exact b.2
theorem nc(C:Ctx T g X sc N)(h:dz sc scope N x=true)(fp:List Addr)(s:Shared)(H:Hp):Ctx T g (bv X x scope fp s H) (je sc scope) (x::N):=by
 obtain⟨h1,h2,h3,h4⟩:=cB C h
 refine⟨?_,?_,List.nodup_cons.mpr ⟨by rw[←C.n];exact h2,C.nd⟩,fun y hy=>?_,C.calm,C.un,C.fns,C.csts,C.blt,C.cats,C.cls,C.ini,C.icl,C.icats,C.mks,C.ums,C.gds,C.catn⟩
 ·show relabel scope X.env=je sc scope
  rw[←C.sc]
  rfl
 ·show x::X.N=x::N
  rw[C.n]
 ·rcases List.mem_cons.mp hy with rfl|hy
  ·exact⟨h3,h4⟩
  ·exact C.nm y hy
theorem kJ{K:al}{e:Ex}:EltOk K uD (tE K (run g e)) (fun loc x=>aW (run g e (some x::loc)) fun y=>ret (some y)) where
 turn:=fun{H ι st st1 loc σ x v o Q} S L rv e1 k=>by
  unfold uD
  refine BL ?_
  simp only[aW,ret] at e1
  cases e2:run g e (some x::loc) st with
  |bad=>rw[e2] at e1;cases e1
  |ok y st2=>
   rw[e2] at e1
   cases e1
   exact aZ S (L.cons rv) e2 fun H1 ι1 w E1 S1 r1=>k H1 ι1 (some w) E1 S1 r1
theorem oY{s':Ex}{k:Loc→Src→M D}(h:tE X.K (fun loc=>aW (run g s' loc) fun d=>aW (dX (c8 false d)) fun s=>k loc s) σ H Q)
  (hk:∀{J:It}{s:Src}{ι ι1:Nat→Addr}{st st1:aQ}{loc:Loc}{H1:Hp},cG X.K J s H1 ι1 st1.length→Ext H H1 ι ι1 st.length st1.length→Sim X.K H1 ι1 st1→LRel X.K H1 ι1 st1.length loc σ→ck X.K H ι st (k loc s st1) Q→RR J H1)
  (hbad:∀loc n st,(∀xs,st[n]?≠some (.lst xs))→k loc (.at n) st=.bad):Ao X.K (tE X.K (run g s')) σ H RR:=by
 obtain⟨ι,st,loc,S,L,P⟩:=h
 obtain⟨d,st1,e1,P⟩:=aO P
 obtain⟨s,st2,e2,P⟩:=aO P
 obtain⟨e3,rfl⟩:=bw e2
 refine aZ S L e1 fun H1 ι1 v E1 S1 r1=>?_
 cases r1 with
 |tup h r=>cases e3;exact⟨_,rfl,.inr ⟨⟨_,h⟩,hk (cG.tup h r) E1 S1 (L.ext E1) P⟩⟩
 |fl h r=>cases e3;exact⟨_,rfl,.inl ⟨⟨_,h.sql⟩,hk (cG.fl h r) E1 S1 (L.ext E1) P⟩⟩
 | @ref n hn=>
  cases e3
  cases q:st2[n]? with
  |none=>
   rw[hbad loc n st2 (fun xs z=>by rw[q] at z;cases z)] at P
   exact P.elim
  |some o=>
   cases o with
   |lst xs=>
    obtain⟨vs,h1,_⟩:=S1.ob n _ q
    exact⟨_,rfl,.inl ⟨⟨vs,du.of h1⟩,hk (cG.ref hn) E1 S1 (L.ext E1) P⟩⟩
   |_=>
    rw[hbad loc n st2 (fun xs z=>by rw[q] at z;cases z)] at P
    exact P.elim
 |_=>cases e3
theorem uH{s':Ex}{k:Loc→Src→M D}(h:tE X.K (fun loc=>aW (run g s' loc) fun d=>aW (dX (c8 true d)) fun s=>k loc s) σ H Q)
  (hk:∀{J:It}{s:Src}{ι ι1:Nat→Addr}{st st1:aQ}{loc:Loc}{H1:Hp},cG X.K J s H1 ι1 st1.length→Ext H H1 ι ι1 st.length st1.length→Sim X.K H1 ι1 st1→LRel X.K H1 ι1 st1.length loc σ→ck X.K H ι st (k loc s st1) Q→RR J H1):
  wI (oW (tE X.K (run g s')) pV) σ H RR:=by
 obtain⟨ι,st,loc,S,L,P⟩:=h
 obtain⟨d,st1,e1,P⟩:=aO P
 obtain⟨s,st2,e2,P⟩:=aO P
 obtain⟨e3,rfl⟩:=bw e2
 refine aZ S L e1 fun H1 ι1 v E1 S1 r1=>?_
 cases r1 with
 |int j=>
  simp only[c8] at e3
  split at e3
  ·rename_i hj
   cases e3
   exact⟨j,rfl,by omega,by omega,hk cG.rng E1 S1 (L.ext E1) P⟩
  ·cases e3
 |_=>cases e3
theorem pq{st:aQ}(h:∀xs,st[n]?≠some (.lst xs)):gm (.at n) i st=none:=by
 unfold gm
 show(match st[n]? with|some (.lst xs)=>some xs[i]?|_=>none)=none
 cases q:st[n]? with
 |none=>rfl
 |some o=>
  cases o with
  |lst xs=>exact absurd q (h xs)
  |_=>rfl
theorem nj{f:D→M (Option D)}(n:Nat)(st:aQ)(h:∀xs,st[n]?≠some (.lst xs)):bK f (.at n) st=.bad:=by
 unfold bK
 split
 ·simp only[aW,cV,pq h]
 ·rfl
noncomputable def gi(g:cY)(X:Cx)(x:Str)(px:Pos)(iter:Expr)(ifs:List Expr)(elt:Expr)(scope:Scope)(y:Ex):Prop:=
 ∃wi tc te,PI X (.Name x px) iter wi∧(∀fp s H,t_ (bv X x scope fp s H) ifs tc)∧(∀fp s H,PE (bv X x scope fp s H) elt te)∧(∀v,foldedSetIterable iter X.env v=pure v)∧∀σ H Q,tE X.K (run g y) σ H Q→oX wi tc te σ H Q
theorem gi.pe{y:Ex}(C:Ctx T g X sc N)(hcm:T.calm=true)(hc:dz sc scope N x=true)(h:gi g X x px iter ifs elt scope y):PE X (.ListComp elt [⟨.Name x px,iter,ifs,0⟩] scope pos) (tE X.K (run g y)):=by
 obtain⟨wi,tc,te,a,b,c,d,e⟩:=h
 obtain⟨h1,h2,_,_⟩:=cB C hc
 exact(ph (C.calm hcm) h1 h2 (by rw[C.n];exact C.nd) a b c d).imp e
theorem gi.ps{z:Str}{y:Ex}{py:Pos}(C:Ctx T g X sc N)(hcm:T.calm=true)(hc:dz sc scope N x=true)(h:gi g X x px iter ifs elt scope y)(hz:X.N[i]? =some z)(hl:L2.Loc X.env.scope z)(hf:X.fn z=true∨X.env.scope.names.lookup z=some .local):
  PS X (.Assign [.Name z py] (.ListComp elt [⟨.Name x px,iter,ifs,0⟩] scope pos) spos) (nM (tE X.K (run g y)) (dm i)):=by
 obtain⟨wi,tc,te,a,b,c,d,e⟩:=h
 obtain⟨h1,h2,_,_⟩:=cB C hc
 exact fun pins s σ H D I q=>nV (C.calm hcm) h1 h2 (by rw[C.n];exact C.nd) a b c d hz hl hf pins s σ H D I (e _ _ _ q)
variable{x:Str}{elt it:Expr}{scope:Scope}{s' e':Ex}
theorem yB(C:Ctx T g X sc N)(hc:dz sc scope N x=true)(hs:PE X it (tE X.K (run g s')))(he:∀fp s H,PE (bv X x scope fp s H) elt (tE X.K (run g e')))(hf:∀v,foldedSetIterable it X.env v=pure v):
  gi g X x px it [] elt scope (.comp false s' e'):=by
 refine⟨_,_,_,lJ hs,fun _ _ _=>gB,he,hf,fun σ H Q hp=>?_⟩
 obtain⟨ι,st,loc,S,L,P⟩:=hp
 rw[run] at P
 exact oY (k:=fun loc s=>bK (fun x=>aW (run g e' (some x::loc)) fun y=>ret (some y)) s) ⟨ι,st,loc,S,L,P⟩ (fun{J s ι ι1 st st1 loc H1} F E S1 L1 P1=>gN (loc:=loc) (f:=fun loc x=>aW (run g e' (some x::loc)) fun y=>ret (some y)) kJ F E S1 L1 P1) (fun _=>nj)
variable{a:Expr}{p3 p4:Pos}
theorem v7(C:Ctx T g X sc N)(hc:dz sc scope N x=true)(hg:aV sc "range"=true)(hst:starEach [a] X.env=[(false,eval a X.env)])(hs:PE X a (tE X.K (run g s')))(he:∀fp s H,PE (bv X x scope fp s H) elt (tE X.K (run g e'))):
  gi g X x px (.Call (.Name "range" p3) [a] [] p4) [] elt scope (.comp true s' e'):=by
 have hgl:Gl X "range":=by
  show X.env.scope.names.lookup _=some .globalImplicit
  rw[C.sc]
  simpa[aV] using hg
 refine⟨_,_,_,kq hgl (C.blt _ (by decide+kernel)) (bC hs c_ hst) hst,fun _ _ _=>gB,he,fun _=>rfl,fun σ H Q hp=>?_⟩
 obtain⟨ι,st,loc,S,L,P⟩:=hp
 rw[run] at P
 exact uH (k:=fun loc s=>bK (fun x=>aW (run g e' (some x::loc)) fun y=>ret (some y)) s) ⟨ι,st,loc,S,L,P⟩ (fun{J s ι ι1 st st1 loc H1} F E S1 L1 P1=>gN (loc:=loc) (f:=fun loc x=>aW (run g e' (some x::loc)) fun y=>ret (some y)) kJ F E S1 L1 P1)
end
theorem gS{T:Tab}{sc:Scope}{x:Ex}(h:cE T n sc N b=some x)(op:CmpOp):behindInMarks op b=false:=by
 cases n with
 |zero=>cases h
 |succ n=>cases b<;>first|rfl|cases h
theorem iT{T:Tab}{sc:Scope}{x:Ex}(h:cE T n sc N b=some x)(env:Env)(v:Value):foldedSetIterable b env v=pure v:=by
 cases n with
 |zero=>cases h
 |succ n=>cases b<;>first|rfl|cases h
theorem cq{T:Tab}{sc:Scope}{x:Ex}(h:cE T n sc N b=some x)(es:List Expr)(env:Env):starEach (b::es) env=(false,eval b env)::starEach es env:=by
 cases n with
 |zero=>cases h
 |succ n=>cases b<;>first|rfl|cases h
theorem dC.zp{K:al}{a:Addr}{xs:List D}{H0:Hp}(hn:n<m0)(r:VRel K H0 ι0 m0 (.tup xs) (.ref a)):dC K (B7 K a (ι0 n)) (.zp xs n) H0 ι0 m0:=fun H ι st i E S=>by
 have en:ι n=ι0 n:=E.ad n hn
 cases r.ext E with
 | @tup _ _ vs h' r=>
  have l:=r.length
  simp only[gm]
  cases q:st[n]? with
  |none=>exact⟨fun e=>(by cases e),fun x e=>(by cases e)⟩
  |some o=>
   cases o with
   |lst ys=>
    obtain⟨ws,g1,g2⟩:=S.ob n _ q
    have l2:=g2.length
    rw[en] at g1
    dsimp only
    refine⟨fun e=>?_,fun x e=>?_⟩
    ·have e:=ag e
     refine⟨vs,ws,h',du.of g1,?_⟩
     cases e1:xs[i]? with
     |none=>exact .inl (by have:=List.getElem?_eq_none_iff.mp e1;omega)
     |some x=>
      cases e2:ys[i]? with
      |none=>exact .inr (by have:=List.getElem?_eq_none_iff.mp e2;omega)
      |some y=>rw[e1,e2] at e;cases e
    ·have e:=ag e
     cases e1:xs[i]? with
     |none=>rw[e1] at e;cases e
     |some x1=>
      cases e2:ys[i]? with
      |none=>rw[e1,e2] at e;cases e
      |some y1=>
       rw[e1,e2] at e
       have e:D.tup [x1,y1]=x:=ag e
       subst e
       obtain⟨v,hv,rv⟩:=r.get e1
       obtain⟨u,hu,ru⟩:=g2.get e2
       refine⟨⟨vs,ws,v,u,h',du.of g1,hv,hu⟩,fun w H' yy=>?_⟩
       obtain⟨p,z1,z2,rfl,hp,rfl,hz1,hz2⟩:=yy
       have k1:=hz1 vs h'
       rw[hv] at k1
       cases k1
       have k2:=hz2 ws (du.of g1)
       rw[hu] at k2
       cases k2
       obtain⟨E1,S1⟩:=S.tup (xs:=[v,u]) hp
       exact⟨E1,S1,.tup (.inl (.inl ba)) (.cons (rv.ext E1) (.cons (ru.ext E1) .nil))⟩
   |_=>exact⟨fun e=>(by cases e),fun x e=>(by cases e)⟩
theorem cG.toG{K:al}{H0:Hp}{s:Src}(F:cG K J s H0 ι0 m0):dC K J s H0 ι0 m0:=fun H ι st i E S=>
 ⟨(F H ι st i E S).1,fun x e=>⟨((F H ι st i E S).2 x e).1,fun v H' y=>by
  obtain⟨rfl,r⟩:=((F H ι st i E S).2 x e).2 v H' y
  exact⟨Ext.refl _ _ _,S,r⟩⟩⟩
section
variable{T:Tab}{g:cY}{X:Cx}{sc scope:Scope}{N:List Str}{pos px py pt p3 p4:Pos}{x y:Str}
theorem dn(h:cy sc scope N x y=true):dz sc scope N x=true∧scope.names.lookup y=some .local∧y∉N∧x≠y∧(y==("__debug__":Str))=false∧(y==("__classdict__":Str))=false:=by
 unfold cy at h
 simp only[Bool.and_eq_true] at h
 obtain⟨⟨⟨⟨⟨h1,h2⟩,h3⟩,h4⟩,h5⟩,h6⟩:=h
 exact⟨h1,by simpa using h2,by simpa using h3,by simpa using h4,by simpa using h5,by simpa using h6⟩
theorem ie(C:Ctx T g X sc N)(h:cy sc scope N x y=true)(fp:List Addr)(s:Shared)(H:Hp):Ctx T g (be X x y scope fp s H) (je sc scope) (x::y::N):=by
 obtain⟨h1,h2,h3,h4,h5,h6⟩:=dn h
 have C1:=nc C h1 fp s H
 have nx:x∉N:=(List.nodup_cons.mp C1.nd).1
 refine⟨C1.sc,?_,?_,fun z hz=>?_,C1.calm,C1.un,C1.fns,C1.csts,C1.blt,C1.cats,C1.cls,C1.ini,C1.icl,C1.icats,C1.mks,C1.ums,C1.gds,C1.catn⟩
 ·show x::y::X.N=x::y::N
  rw[C.n]
 ·refine List.nodup_cons.mpr ⟨fun z=>?_,List.nodup_cons.mpr ⟨h3,C.nd⟩⟩
  rcases List.mem_cons.mp z with z|z
  ·exact h4 z
  ·exact nx z
 ·rcases List.mem_cons.mp hz with rfl|hz
  ·exact C1.nm _ List.mem_cons_self
  ·rcases List.mem_cons.mp hz with rfl|hz
   ·exact⟨h5,h6⟩
   ·exact C.nm z hz
theorem yt{f:D→M (Option D)}(n:Nat)(st:aQ)(h:∀xs,st[n]?≠some (.lst xs)):bK f (.en n) st=.bad:=by
 have hb:∀i,gm (.en n) i st=none:=fun i=>by
  unfold gm
  show(match st[n]? with|some (.lst xs)=>some (xs[i]?.map fun x=>D.tup [.int (i:Int),x])|_=>none)=none
  cases q:st[n]? with
  |none=>rfl
  |some o=>
   cases o with
   |lst xs=>exact absurd q (h xs)
   |_=>rfl
 unfold bK
 split
 ·simp only[aW,cV,hb]
 ·rfl
noncomputable def eB(g:cY)(X:Cx)(x y:Str)(px py:Pos)(k:Nat)(pt:Pos)(iter:Expr)(ifs:List Expr)(elt:Expr)(scope:Scope)(z:Ex):Prop:=
 ∃wi gg tc te,PI X (.Tuple [.Name x px,.Name y py] k pt) iter wi∧(∀fp s H,PG (be X x y scope fp s H) (.Tuple [.Name x px,.Name y py] k pt) gg)∧(∀fp s H,t_ (be X x y scope fp s H) ifs tc)∧(∀fp s H,PE (be X x y scope fp s H) elt te)∧(∀v,foldedSetIterable iter X.env v=pure v)∧∀σ H Q,tE X.K (run g z) σ H Q→iI wi gg tc te σ H Q
theorem eB.pe{k:Nat}{z:Ex}(C:Ctx T g X sc N)(hcm:T.calm=true)(hc:cy sc scope N x y=true)(h:eB g X x y px py k pt iter ifs elt scope z):PE X (.ListComp elt [⟨.Tuple [.Name x px,.Name y py] k pt,iter,ifs,0⟩] scope pos) (tE X.K (run g z)):=by
 obtain⟨wi,gg,tc,te,a,b,c,d,e,f⟩:=h
 obtain⟨h1,h2,_,_⟩:=cB C (dn hc).1
 exact(kr (C.calm hcm) h1 h2 a b c d e).imp f
theorem eB.ps{k:Nat}{z:Ex}{nm:Str}{pn:Pos}(C:Ctx T g X sc N)(hcm:T.calm=true)(hc:cy sc scope N x y=true)(h:eB g X x y px py k pt iter ifs elt scope z)(hz:X.N[i]? =some nm)(hl:L2.Loc X.env.scope nm)(hf:X.fn nm=true∨X.env.scope.names.lookup nm=some .local):
  PS X (.Assign [.Name nm pn] (.ListComp elt [⟨.Tuple [.Name x px,.Name y py] k pt,iter,ifs,0⟩] scope pos) spos) (nM (tE X.K (run g z)) (dm i)):=by
 obtain⟨wi,gg,tc,te,a,b,c,d,e,f⟩:=h
 obtain⟨h1,h2,_,_⟩:=cB C (dn hc).1
 exact fun pins s σ H D I q=>mE (C.calm hcm) h1 h2 (by rw[C.n];exact C.nd) a b c d e hz hl hf pins s σ H D I (f _ _ _ q)
theorem w6{a':Ex}{k:Loc→Src→M D}(h:tE X.K (fun loc=>aW (run g a' loc) fun d=>aW (dX (kG d)) fun s=>k loc s) σ H Q)
  (hk:∀{J:It}{s:Src}{ι ι1:Nat→Addr}{st st1:aQ}{loc:Loc}{H1:Hp},dC X.K J s H1 ι1 st1.length→Ext H H1 ι ι1 st.length st1.length→Sim X.K H1 ι1 st1→LRel X.K H1 ι1 st1.length loc σ→ck X.K H ι st (k loc s st1) Q→RR J H1)
  (hbad:∀loc n st,(∀xs,st[n]?≠some (.lst xs))→k loc (.en n) st=.bad):sP X.K (oW (tE X.K (run g a')) pV) σ H RR:=by
 obtain⟨ι,st,loc,S,L,P⟩:=h
 obtain⟨d,st1,e1,P⟩:=aO P
 obtain⟨s,st2,e2,P⟩:=aO P
 obtain⟨e3,rfl⟩:=bw e2
 refine aZ S L e1 fun H1 ι1 v E1 S1 r1=>?_
 have r1':=r1
 cases r1 with
 | @ref n hn=>
  cases e3
  cases q:st2[n]? with
  |none=>rw[hbad loc n st2 (fun xs z=>by rw[q] at z;cases z)] at P;exact P.elim
  |some o=>
   cases o with
   |lst xs=>
    obtain⟨vs,h1,_⟩:=S1.ob n _ q
    exact⟨_,rfl,.inl ⟨⟨vs,du.of h1⟩,hk (dC.en hn) E1 S1 (L.ext E1) P⟩⟩
   |_=>rw[hbad loc n st2 (fun xs z=>by rw[q] at z;cases z)] at P;exact P.elim
 |tup hq r=>cases e3;exact⟨_,rfl,.inr ⟨⟨_,hq⟩,hk (dC.enT r1') E1 S1 (L.ext E1) P⟩⟩
 |_=>cases e3
theorem v8{k:Nat}{a' z:Ex}{tc:TT}{te:TE}{B:Loc→M (Option D)}(C:Ctx T g X sc N)(hcm:T.calm=true)(hc:cy sc scope N x y=true)(hg:aV sc "enumerate"=true)(hst:starEach [a] X.env=[(false,eval a X.env)])(hs:PE X a (tE X.K (run g a')))
  (ht:∀fp s H,t_ (be X x y scope fp s H) ifs tc)(he:∀fp s H,PE (be X x y scope fp s H) elt te)
  (hz:∀loc,run g z loc=aW (run g a' loc) fun d=>aW (dX (kG d)) fun s=>bK (fun x=>match x with| .tup [a,b]=>B (some a::some b::loc)|_=>stuck) s)
  (hB:∀{H:Hp}{ι:Nat→Addr}{st st1:aQ}{loc:Loc}{σ:L2.St}{o:Option D}{Q:Option V→Hp→Prop},Sim X.K H ι st→LRel X.K H ι st.length loc σ→B loc st=.ok o st1→
   (∀H1 ι1 w,Ext H H1 ι ι1 st.length st1.length→Sim X.K H1 ι1 st1→(match o,w with|some y,some z=>VRel X.K H1 ι1 st1.length y z|none,none=>True|_,_=>False)→Q w H1)→tc σ H fun b H5=>if b=true then te σ H5 fun y H4=>Q (some y) H4 else Q none H5):
  eB g X x y px py k pt (.Call (.Name "enumerate" p3) [a] [] p4) ifs elt scope z:=by
 have hgl:Gl X "enumerate":=by
  show X.env.scope.names.lookup _=some .globalImplicit
  rw[C.sc]
  simpa[aV] using hg
 obtain⟨h1,h2,h3,h4,h5,h6⟩:=dn hc
 obtain⟨c1,c2,_,_⟩:=cB C h1
 have lx:(relabel scope X.env).names.lookup x=some .local:=lookup_relabel_local c1.own
 have ly:(relabel scope X.env).names.lookup y=some .local:=lookup_relabel_local h2
 have nd:(x::y::X.N).Nodup:=by
  have:=(ie C hc [] X.s₀ (fun _=>none)).nd
  rw[C.n];exact this
 refine⟨_,sU X.K 2 (gf (dm 0) (gf (dm 1) qk)),_,_,mF hgl (C.blt _ (by decide+kernel)) (bC hs c_ hst) hst,
  (fun fp s H=>r_ (X:=be X x y scope fp s H) (C.calm hcm) (fF (eR (i:=0) nd rfl (.inl lx) (.inr lx)) (fF (eR (i:=1) nd rfl (.inl ly) (.inr ly)) lK))),ht,he,fun _=>rfl,fun σ H Q ⟨ι,st,loc,S,L,P⟩=>?_⟩
 rw[hz] at P
 refine w6 (k:=fun loc s=>bK (fun x=>match x with| .tup [a,b]=>B (some a::some b::loc)|_=>stuck) s) ⟨ι,st,loc,S,L,P⟩ (fun{J s ι ι1 st st1 loc H1} F E S1 L1 P1=>?_) (fun _=>yt)
 refine gM (tt:=fun v H' K=>∀o1 o2:Option V,sU X.K 2 (gf (dm 0) (gf (dm 1) qk)) v (o1::o2::σ) H' fun σ2 H3=>(∃p1 p2,σ2=p1::p2::σ)∧tc σ2 H3 fun b H5=>if b=true then te σ2 H5 fun y H4=>K (some y) H4 else K none H5) ⟨?_⟩ F E S1 P1
 intro H2 ι2 st3 st4 z v o K E2 S2 rv ee k o1 o2
 split at ee
 ·cases rv with
  |tup hq rr=>
   cases rr with
   |cons ra rr=>
    cases rr with
    |cons rb rr=>
     cases rr
     exact⟨_,_,rfl,hq,rfl,_,_,rfl,_,_,rfl,rfl,⟨_,_,rfl⟩,hB S2 (((L1.ext E2).cons rb).cons ra) ee k⟩
 ·cases ee
theorem mt{st st1:aQ}{loc:Loc}{o:Option D}{Q:Option V→Hp→Prop}{e':Ex}(S:Sim X.K H ι st)(L:LRel X.K H ι st.length loc σ)(k:∀H1 ι1 w,Ext H H1 ι ι1 st.length st1.length→Sim X.K H1 ι1 st1→(match o,w with|some y,some z=>VRel X.K H1 ι1 st1.length y z|none,none=>True|_,_=>False)→Q w H1)(ee:aW (run g e' loc) (fun y=>ret (some y)) st=.ok o st1):tE X.K (run g e') σ H fun y H4=>Q (some y) H4:=by
 cases e5:run g e' loc st with
 |bad=>simp only[aW,e5] at ee;cases ee
 |ok w st5=>
  simp only[aW,ret,e5] at ee
  cases ee
  exact aZ S L e5 fun H5 ι5 w E5 S5 r5=>k H5 ι5 (some w) E5 S5 r5
theorem v_{k:Nat}{a' e':Ex}(C:Ctx T g X sc N)(hcm:T.calm=true)(hc:cy sc scope N x y=true)(hg:aV sc "enumerate"=true)(hst:starEach [a] X.env=[(false,eval a X.env)])(hs:PE X a (tE X.K (run g a')))(he:∀fp s H,PE (be X x y scope fp s H) elt (tE X.K (run g e'))):
  eB g X x y px py k pt (.Call (.Name "enumerate" p3) [a] [] p4) [] elt scope (.compE a' e'):=
 v8 C hcm hc hg hst hs (fun _ _ _=>gB) he (B:=fun loc=>aW (run g e' loc) fun y=>ret (some y)) (fun _=>by rw[run]<;>rfl) fun{H ι st st1 loc σ o Q} S L ee k=>Eq.mpr (if_pos (e:=Q none H) (rfl:true=true)) (mt S L k ee)
theorem nk{k:Nat}(C:Ctx T g X sc N)(hcm:T.calm=true)(hc:cy sc scope N x y=true):∀fp s H,PG (be X x y scope fp s H) (.Tuple [.Name x px,.Name y py] k pt) (sU X.K 2 (gf (dm 0) (gf (dm 1) qk))):=by
 obtain⟨h1,h2,h3,h4,h5,h6⟩:=dn hc
 obtain⟨c1,c2,_,_⟩:=cB C h1
 have lx:(relabel scope X.env).names.lookup x=some .local:=lookup_relabel_local c1.own
 have ly:(relabel scope X.env).names.lookup y=some .local:=lookup_relabel_local h2
 have nd:(x::y::X.N).Nodup:=by
  have:=(ie C hc [] X.s₀ (fun _=>none)).nd
  rw[C.n];exact this
 exact fun fp s H=>r_ (X:=be X x y scope fp s H) (C.calm hcm) (fF (eR (i:=0) nd rfl (.inl lx) (.inr lx)) (fF (eR (i:=1) nd rfl (.inl ly) (.inr ly)) lK))
theorem kK{H1:Hp}{st1:aQ}{loc:Loc}{e':Ex}(L:LRel X.K H1 ι1 st1.length loc σ):
  EltG X.K (fun v H' K=>∀o1 o2:Option V,sU X.K 2 (gf (dm 0) (gf (dm 1) qk)) v (o1::o2::σ) H' fun σ2 H3=>(∃p1 p2,σ2=p1::p2::σ)∧uD σ2 H3 fun b H5=>if b=true then tE X.K (run g e') σ2 H5 fun y H4=>K (some y) H4 else K none H5) (pairF fun a b=>run g e' (some a::some b::loc)) H1 ι1 st1.length:=⟨by
 intro H2 ι2 st3 st4 z v o K E2 S2 rv ee k o1 o2
 unfold pairF at ee
 split at ee
 ·cases rv with
  |tup hq rr=>
   cases rr with
   |cons ra rr=>
    cases rr with
    |cons rb rr=>
     cases rr
     exact⟨_,_,rfl,hq,rfl,_,_,rfl,_,_,rfl,rfl,⟨_,_,rfl⟩,Eq.mpr (if_pos (e:=K none H2) (rfl:true=true)) (mt S2 (((L.ext E2).cons rb).cons ra) k ee)⟩
 ·cases ee⟩
theorem v6{k:Nat}{s' e':Ex}(C:Ctx T g X sc N)(hcm:T.calm=true)(hc:cy sc scope N x y=true)(hs:PE X it (tE X.K (run g s')))(hf:∀v,foldedSetIterable it X.env v=pure v)(he:∀fp s H,PE (be X x y scope fp s H) elt (tE X.K (run g e'))):
  eB g X x y px py k pt it [] elt scope (.compU s' e'):=by
 refine⟨_,_,_,_,lJ hs,nk C hcm hc,fun fp s H=>gB,he,hf,fun σ H Q hp=>?_⟩
 obtain⟨ι,st,loc,S,L,P⟩:=hp
 rw[run] at P
 exact oY (k:=fun loc s=>bK (pairF fun a b=>run g e' (some a::some b::loc)) s) (Q:=Q) ⟨ι,st,loc,S,L,P⟩ (fun{J s ι ι1 st st1 loc H1} F E S1 L1 P1=>gM (kK L1) (cG.toG F) E S1 P1) (fun _=>nj)
theorem qF{f:D→M (Option D)}{xs:List D}(n:Nat)(st:aQ)(h:∀ys,st[n]?≠some (.lst ys)):bK f (.zp xs n) st=.bad:=by
 have hb:∀i,gm (.zp xs n) i st=none:=fun i=>by
  unfold gm
  dsimp only
  cases q:st[n]? with
  |none=>rfl
  |some o=>
   cases o with
   |lst ys=>exact absurd q (h ys)
   |_=>rfl
 unfold bK
 split
 ·simp only[aW,cV,hb]
 ·rfl
theorem v5{k:Nat}{a1 a2 e':Ex}(C:Ctx T g X sc N)(hcm:T.calm=true)(hc:cy sc scope N x y=true)(hg:aV sc "zip"=true)(hst:starEach [a,b] X.env=(false,eval a X.env)::starEach [b] X.env)(hst2:starEach [b] X.env=[(false,eval b X.env)])
  (ha:PE X a (tE X.K (run g a1)))(hb:PE X b (tE X.K (run g a2)))(he:∀fp s H,PE (be X x y scope fp s H) elt (tE X.K (run g e'))):
  eB g X x y px py k pt (.Call (.Name "zip" p3) [a,b] [] p4) [] elt scope (.compZ a1 a2 e'):=by
 have hgl:Gl X "zip":=by
  show X.env.scope.names.lookup _=some .globalImplicit
  rw[C.sc]
  simpa[aV] using hg
 refine⟨_,_,_,_,xK hgl (C.blt _ (by decide+kernel)) (bC ha (bC hb c_ hst2) hst) hst hst2,nk C hcm hc,fun fp s H=>gB,he,fun _=>rfl,fun σ H Q hp=>?_⟩
 obtain⟨ι,st,loc,S,L,P⟩:=hp
 rw[run] at P
 obtain⟨d,st1,e1,P⟩:=aO P
 obtain⟨d2,st2,e2,P⟩:=aO P
 obtain⟨s,st3,e3,P⟩:=aO P
 obtain⟨e4,rfl⟩:=bw e3
 refine aZ S L e1 fun H1 ι1 v E1 S1 r1=>aZ S1 (L.ext E1) e2 fun H2 ι2 v2 E2 S2 r2=>?_
 have r1':=r1.ext E2
 cases r1 with
 |tup h r=>
  cases r2 with
  | @ref n hn=>
   cases e4
   cases q:st3[n]? with
   |none=>
    rw[qF n st3 (fun xs z=>by rw[q] at z;cases z)] at P
    exact P.elim
   |some o=>
    cases o with
    |lst ys=>
     obtain⟨vs,h1,_⟩:=S2.ob n _ q
     cases r1' with
     |tup h' r'=>exact⟨_,_,rfl,⟨_,h'⟩,⟨vs,du.of h1⟩,gM (kK (L.ext (E1.trans E2))) (dC.zp hn (.tup h' r')) (E1.trans E2) S2 P⟩
    |_=>
     rw[qF n st3 (fun xs z=>by rw[q] at z;cases z)] at P
     exact P.elim
  |_=>cases e4
 |_=>cases e4
end
theorem DRels.zip{K:al}:∀{ks:List Str}{ds:List D}{vs:List V},VRels K H ι m ds vs→DRels K H ι m ((ks.zip ds).map fun p=>(Sum.inr p.1,p.2)) ((ks.zip vs).map fun q=>((Sum.inr q.1:Key),q.2))
 |[],_,_,_=>.nil
 |_::_,_,_,.nil=>.nil
 |_::_,_,_,.cons h t=>.cons h (DRels.zip t)
section
variable{T:Tab}{g:cY}{X:Cx}{sc:Scope}{N:List Str}{pos p1 p2 q1 q2:Pos}
theorem d8(C:Ctx T g X sc N)(h:aV sc x=true):Gl X x:=by
 show X.env.scope.names.lookup _=some .globalImplicit
 rw[C.sc]
 simpa[aV] using h
theorem VRels.rev{K:al}:∀{ds:List D}{vs:List V},VRels K H ι m ds vs→VRels K H ι m ds.reverse vs.reverse
 |_,_,.nil=>.nil
 |_,_,.cons h t=>by
  rw[List.reverse_cons,List.reverse_cons]
  exact(VRels.rev t).append (.cons h .nil)
theorem DRels.anyK{K:al}{k:Key}{kvs:List (Key×D)}{vs:List (Key×V)}(h:DRels K H ι m kvs vs):(kvs.any fun kv=>decide (kv.1=k))=vs.any fun kv=>decide (kv.1=k):=by
 induction h with
 |nil=>rfl
 |cons h t ih=>rw[List.any_cons,List.any_cons,ih]
theorem DRels.repl{K:al}{k:Key}{d:D}{kvs:List (Key×D)}{vs:List (Key×V)}(h:DRels K H ι m kvs vs)(q:VRel K H ι m d v):DRels K H ι m (kvs.map fun kv=>if kv.1=k then(kv.1,d) else kv) (vs.map fun kv=>if kv.1=k then(kv.1,v) else kv):=by
 induction h with
 |nil=>exact .nil
 | @cons k' d' v' ds vs h t ih=>
  rw[List.map_cons,List.map_cons]
  by_cases e:k'=k
  ·rw[if_pos e,if_pos e];exact .cons q ih
  ·rw[if_neg e,if_neg e];exact .cons h ih
theorem DRels.put{K:al}{k:Key}{d:D}{kvs:List (Key×D)}{vs:List (Key×V)}(h:DRels K H ι m kvs vs)(q:VRel K H ι m d v):DRels K H ι m (ko kvs k d) (putK vs k v):=by
 unfold ko putK
 rw[h.anyK]
 split
 ·exact h.repl q
 ·exact h.append (.cons q .nil)
theorem pc{K:al}{H:Hp}{ι:Nat→Addr}{m:Nat}:∀{ds:List D}{vs:List V}{ps:List (Key×D)},vp ds=some ps→VRels K H ι m ds vs→∃qs,B5 K H qs vs∧DRels K H ι m ps qs
 |[],_,_,h,.nil=>by cases h;exact⟨[],.nil,.nil⟩
 |d::ds,_,_,h,.cons (v:=v) (vs:=vs) r t=>by
  obtain⟨p,h1,h⟩:=bs h
  obtain⟨ps,h2,rfl⟩:=map_some h
  obtain⟨qs,q1,q2⟩:=pc h2 t
  cases d with
  |tup xs=>
   obtain⟨z,h3,h1⟩:=bs h1
   obtain⟨k,h4,rfl⟩:=map_some h1
   cases fU h3
   cases r with
   |tup hq rr=>
    cases rr with
    |cons ra rr=>
     cases rr with
     |cons rb rr=>
      cases rr
      have:=lR h4 ra
      subst this
      exact⟨(k,_)::qs,.cons ⟨_,rfl,hq⟩ q1,.cons rb q2⟩
  |_=>cases h1
theorem mZ{K:al}{H:Hp}{ι:Nat→Addr}{m:Nat}:∀{ps:List (Key×D)}{qs:List (Key×V)},DRels K H ι m ps qs→∀{acc:List (Key×D)}{bcc:List (Key×V)},DRels K H ι m acc bcc→DRels K H ι m (ps.foldl (fun acc p=>ko acc p.1 p.2) acc) (qs.foldl (fun acc p=>putK acc p.1 p.2) bcc)
 |_,_,.nil,_,_,q=>q
 |_,_,.cons h t,_,_,q=>mZ t (q.put h)
theorem yz{a':Ex}(C:Ctx T g X sc N)(hcm:T.calm=true)(hg:aV sc "list"=true)(hg2:aV sc "reversed"=true)(hst:starEach [a] X.env=[(false,eval a X.env)])(ha:PE X a (tE X.K (run g a'))):
  PE X (.Call (.Name "list" p1) [.Call (.Name "reversed" p2) [a] [] q2] [] q1) (tE X.K (run g (.lrev a'))):=by
 refine(sj (C.calm hcm) (d8 C hg) (C.blt _ (by decide+kernel)) (d8 C hg2) (C.blt _ (by decide+kernel)) ha hst).imp fun σ H Q hp=>?_
 obtain⟨ι,st,loc,S,L,P⟩:=hp
 rw[run] at P
 obtain⟨x,st1,e1,P⟩:=aO P
 refine aZ S L e1 fun H1 ι1 v E1 S1 r1=>?_
 cases r1 with
 |tup h r=>exact⟨_,_,rfl,h,fun p hp=>(show ck X.K H ι st (alloc _ st1) Q from P).mono E1|>.alloc S1 r.rev p hp⟩
 |_=>exact P.elim
theorem v4{a':Ex}(C:Ctx T g X sc N)(hcm:T.calm=true)(hg:aV sc "dict"=true)(hst:starEach [a] X.env=[(false,eval a X.env)])(ha:PE X a (tE X.K (run g a'))):PE X (.Call (.Name "dict" p1) [a] [] q1) (tE X.K (run g (.dictP a'))):=by
 refine(kt (oE (C.calm hcm)) (d8 C hg) (C.blt _ (by decide+kernel)) (by decide+kernel) (bC ha c_ hst) (by decide+kernel) (by decide+kernel) hst rfl).imp fun σ H Q hp=>?_
 obtain⟨ι,st,loc,S,L,P⟩:=hp
 rw[run] at P
 obtain⟨x,st1,e1,P⟩:=aO P
 refine aZ S L e1 fun H1 ι1 v E1 S1 r1=>?_
 unfold oA at P
 split at P
 ·split at P
  ·rename_i xs q
   split at P
   ·rename_i ps hps
    cases r1 with
    |ref hn=>
     obtain⟨ys,h1,h2⟩:=S1.ob _ _ q
     obtain⟨vs,k1,k2⟩:=pc hps h2
     refine⟨_,ys,vs,rfl,h1,k1,fun p hp=>?_⟩
     obtain⟨ι',E,e,S'⟩:=S1.laid (o:= .dct (m4 ps)) (ho:= .dK (ou vs)) hp (fun ι' g1 g2=>⟨ou vs,ba,(mZ k2 .nil).ext0 ⟨Nat.le_succ _,g1,fun b xs e=>by rw[av (au e hp)];exact e,fun b ob u e=>by rw[av (au e hp)];exact e⟩⟩)
     have l:(st1++[O.dct (m4 ps)]).length=st1.length+1:=by simp
     refine P _ ι' (.ref p) (by rw[l];exact E1.trans E) S' ?_
     rw[←e,l]
     exact .ref (aB _)
   ·exact P.elim
  ·exact P.elim
 ·exact P.elim
theorem gT(hk:fV o=true)(m:Str)(env:Env):attributeBase o m env (eval o env)=eval o env:=by
 cases o with
 |Name=>rfl
 |Attribute=>rfl
 |Subscript=>rfl
 |Call f as ks p=>
  cases f with
  |Attribute=>rfl
  |Name=>
   cases as with
   |nil=>cases hk
   |cons=>rfl
  |_=>cases hk
 |_=>cases hk
theorem VRels.dropLast{K:al}{ds:List D}(r:VRels K H ι m ds vs):VRels K H ι m ds.dropLast vs.dropLast:=by
 rw[List.dropLast_eq_take,List.dropLast_eq_take,←r.length]
 exact r.take _
theorem yw{o':Ex}{m:Str}(hm:sJ m=true)(hl:(ap.endLine==cp.line)=true)(hb:attributeBase o m X.env (eval o X.env)=eval o X.env)(ho:PE X o (tE X.K (run g o'))):
  PE X (.Call (.Attribute o m ap) [] [] cp) (tE X.K (run g (.pop o' false))):=by
 have hm:m= "pop":=by simpa[sJ] using hm
 subst hm
 refine(xU PySem.F.plainAttrs_list PySem.F.slot_list_pop PySem.F.type_list_pop x8 ho hb hl).imp fun σ H Q hp=>?_
 obtain⟨ι,st,loc,S,L,P⟩:=hp
 rw[run] at P
 obtain⟨x,st1,e1,P⟩:=aO P
 refine aZ S L e1 fun H1 ι1 v E1 S1 r1=>?_
 unfold xJ at P
 split at P
 ·rename_i n
  split at P
  ·rename_i xs q
   rw[if_neg (by decide)] at P
   split at P
   ·rename_i y hy
    cases r1 with
    |ref hn=>
     obtain⟨vs,g1,g2⟩:=S1.ob _ _ q
     obtain⟨u,hu,ru⟩:=g2.get hy
     obtain⟨E4,S4⟩:=S1.write q g2.dropLast
     have E4':Ext H1 (bj H1 (ι1 n) (.lst vs.dropLast)) ι1 ι1 st1.length (st1.set n (O.lst xs.dropLast)).length:=by rw[aE];exact E4
     exact⟨.inl ⟨rfl,vs,du.of g1⟩,_,vs,u,rfl,rfl,g1,by rw[←g2.length];exact hu,P _ ι1 _ (E1.trans E4') S4 (ru.ext E4')⟩
   ·exact P.elim
  ·exact P.elim
 ·exact P.elim
noncomputable def SD(T:Tab)(g:cY)(n:Nat):Prop:=∀{X:Cx}{sc:Scope}{N:List Str}{es:List Expr}{xs:List Ex}{ks:List Str}{keys:List (Option Expr)}(pos:Pos),Ctx T g X sc N→nC T n sc N es=some xs→pK keys=some ks→ks.length=es.length→
 ∃trs,AV X pos keys es trs∧keys.length=es.length∧keys.all (·.isSome)=true∧∀{σ:L2.St}{H:Hp}{ι:Nat→Addr}{st:aQ}{loc:Loc}{ds:List D}{st1:aQ}{Q:List (V×V)→Hp→Prop},Sim X.K H ι st→LRel X.K H ι st.length loc σ→runs g xs loc st=.ok ds st1→
  (∀H1 ι1 vs,Ext H H1 ι ι1 st.length st1.length→Sim X.K H1 ι1 st1→VRels X.K H1 ι1 st1.length ds vs→Q ((ks.zip vs).map fun p=>(V.str p.1,p.2)) H1)→lA trs σ H Q
theorem uN(h:∀{X:Cx}{sc:Scope}{N:List Str}{e:Expr}{x:Ex},Ctx T g X sc N→cE T n sc N e=some x→PE X e (tE X.K (run g x)))(hs:SD T g n):SD T g (n+1):=by
 intro X sc N es xs ks keys pos C e hk hl
 cases keys with
 |nil=>
  cases hk
  cases es with
  |cons=>cases hl
  |nil=>
   cases e
   exact⟨[],vq,rfl,rfl,fun{σ H ι st loc ds st1 Q} S L e1 k=>by rw[runs] at e1;cases e1;exact k H ι [] (Ext.refl _ _ _) S .nil⟩
 |cons k r=>
  obtain⟨kk,h0,hk⟩:=bs hk
  obtain⟨ks2,hq,rfl⟩:=map_some hk
  obtain⟨_,_,rfl⟩:=rj h0
  cases es with
  |nil=>cases hl
  |cons a0 as0=>
   obtain⟨e',e2,e⟩:=bs e
   obtain⟨r',r2,rfl⟩:=map_some e
   obtain⟨trs,h1,h2,h3,h4⟩:=hs pos C r2 hq (by simpa using hl)
   refine⟨_,rZ sf (h C e2) h1,by simp[h2],by simp[h3],fun{σ H ι st loc ds st1 Q} S L e1 k=>?_⟩
   rw[runs] at e1
   unfold aW at e1
   cases e5:run g e' loc st with
   |bad=>rw[e5] at e1;cases e1
   |ok d st2=>
    rw[e5] at e1
    simp only[aW] at e1
    cases e6:runs g r' loc st2 with
    |bad=>rw[e6] at e1;cases e1
    |ok ds2 st3=>
     rw[e6] at e1
     cases e1
     show tE X.K (run g e') σ H _
     exact aZ S L e5 fun H1 ι1 v E1 S1 r1=>h4 S1 (L.ext E1) e6 fun H2 ι2 vs E2 S2 r2=>k H2 ι2 (v::vs) (E1.trans E2) S2 (.cons (r1.ext E2) r2)
theorem yA{k:Option Expr}{ks:List (Option Expr)}{ks':List Str}{xs:List Ex}(hs:SD T g n)(C:Ctx T g X sc N)(hk:pK (k::ks)=some ks')(he:nC T n sc N es=some xs)(hl:ks'.length=es.length)(h15:ks'.length≤15)(hn:ks'.Nodup):
  PE X (.Dict (k::ks) es pos) (tE X.K (run g (.dict ks' xs))):=by
 obtain⟨trs,h1,h2,h3,h4⟩:=hs pos C he hk hl
 refine(vA h1 h3 h2 (by simp) (by rw[h2,←hl];exact h15)).imp fun σ H Q hp=>?_
 obtain⟨ι,st,loc,S,L,P⟩:=hp
 intro p hp
 rw[run] at P
 obtain⟨ds,st1,e1,P⟩:=aO P
 have E0:Ext H (bj H p (.dK [])) ι ι st.length st.length:=⟨⟨af _,fun _ _=>rfl,fun b ys e=>by rw[av (au e hp)];exact e,fun b ob u e=>by rw[av (au e hp)];exact e⟩,fun b ob e k=>⟨by rw[av (au e hp)];exact e,k⟩⟩
 have hap:∀n,n<st.length→ι n≠p:=fun n hn=>by obtain⟨_,h,_⟩:=S.obj hn;exact au h hp
 have S0:Sim X.K (bj H p (.dK [])) ι st:=by
  refine⟨S.inj,fun n o e=>?_⟩
  have hn:n<st.length:=(aH e).1
  have old:=S.ob n o e
  exact old.move E0.toExt0 (av (hap n hn))
 refine h4 S0 (L.ext E0) e1 fun H1 ι1 vs E1 S1 r1=>?_
 obtain⟨hp1,ap1⟩:=E1.fr p _ ba hap
 have lv:=r1.length
 unfold tQ at P
 split at P
 ·rename_i hkd
  refine⟨hp1,(ks'.zip vs).map (fun q=>((Sum.inr q.1:Key),q.2)),?_,by simp;omega,?_⟩
  ·rw[List.map_map];rfl
  ·have hmk:fH [] ((ks'.zip vs).map (fun q=>((Sum.inr q.1:Key),q.2)))=(ks'.zip vs).map (fun q=>((Sum.inr q.1:Key),q.2)):=by
    rw[ik _ [] ?_ (fun k _=>rfl),List.nil_append]
    rw[List.map_map]
    have e3:(fun q:Key×V=>q.1) ∘ (fun q:Str×V=>((Sum.inr q.1:Key),q.2))=(fun s:Str=>(Sum.inr s:Key)) ∘ Prod.fst:=rfl
    rw[e3,←List.map_map,List.map_fst_zip (by omega)]
    exact List.Pairwise.map _ (fun a b hab z=>hab (Sum.inr.inj z)) hn
   rw[hmk]
   generalize hkv:(ks'.zip vs).map (fun q=>((Sum.inr q.1:Key),q.2))=kvs
   have E2:Ext0 H1 (bj H1 p (.dK kvs)) ι1 ι1 st1.length st1.length:=⟨af _,fun _ _=>rfl,fun b ys e=>by rw[av (dR e hp1 (by intro z;cases z))];exact e,fun b ob u e=>by rw[av (dR e hp1 (by intro z;cases z))];exact e⟩
   have S2:Sim X.K (bj H1 p (.dK kvs)) ι1 st1:=by
    refine⟨S1.inj,fun n o e=>?_⟩
    have hn:n<st1.length:=(aH e).1
    have old:=S1.ob n o e
    exact old.move E2 (av (ap1 n hn))
   have rd:DRels X.K (bj H1 p (.dK kvs)) ι1 st1.length ((ks'.zip ds).map fun p=>(Sum.inr p.1,p.2)) kvs:=by
    have q:=DRels.zip (ks:=ks') (VRels.ext0 E2 r1)
    rw[hkv] at q
    exact q
   obtain⟨ι',g1,g2,g3⟩:=S2.addD ba ap1 rd
   have l:(st1++[O.dct ((ks'.zip ds).map fun p=>(Sum.inr p.1,p.2))]).length=st1.length+1:=by simp
   refine P _ ι' (.ref p) ?_ g3 ?_
   ·rw[l]
    have E6:=E0.trans E1
    refine⟨⟨Nat.le_succ_of_le E6.le,fun n hn=>(g1 n (ao hn E6.le)).trans (E6.ad n hn),fun b ys e=>E2.tp b ys (E6.tp b ys e),fun b ob u e=>E2.fz b ob u (E6.fz b ob u e)⟩,fun b ob e k=>?_⟩
    obtain⟨g4,g5⟩:=E6.fr b ob e k
    refine⟨by rw[av (au e hp)];exact g4,fun n hn=>?_⟩
    by_cases hn':n=st1.length
    ·rw[hn',g2];exact(au e hp).symm
    ·rw[g1 n (by omega)];exact g5 n (by omega)
   ·rw[←g2,l];exact .ref (aB _)
 ·exact P.elim
end
theorem pA{T:Tab}(h:c∈T.yes ts):∃anc,(c,anc)∈T.cls∧(ts.any fun t=>anc.contains t)=true:=by
 obtain⟨p,hp,rfl⟩:=List.mem_map.mp h
 obtain⟨h1,h2⟩:=List.mem_filter.mp hp
 exact⟨p.2,h1,h2⟩
theorem x_{T:Tab}(h:c∈T.no ts):∃anc,(c,anc)∈T.cls∧(ts.any fun t=>anc.contains t)=false:=by
 obtain⟨p,hp,rfl⟩:=List.mem_map.mp h
 obtain⟨h1,h2⟩:=List.mem_filter.mp hp
 exact⟨p.2,h1,by simpa using h2⟩
section
variable{T:Tab}{g:cY}{X:Cx}{sc:Scope}{N:List Str}{pos p2 q2:Pos}
theorem FRels.look_none{K:al}{ds:List (Str×D)}{vs:List (Str×V)}(h:FRels K H ι m ds vs)(e:ds.lookup f=none):vs.lookup f=none:=by
 induction h with
 |nil=>rfl
 | @cons k d' v ds vs h t ih=>
  rw[List.lookup_cons] at e ⊢
  cases q:f==k with
  |true=>rw[q] at e;cases e
  |false=>rw[q] at e;exact ih e
theorem lP(h:c∈T.ecs f):f∈T.flds∧∃anc,(c,anc)∈T.cls:=by
 unfold Tab.ecs at h
 split at h
 ·rename_i hf
  obtain⟨p,hp,rfl⟩:=List.mem_map.mp h
  exact⟨List.contains_iff_mem.mp hf,p.2,hp⟩
 ·cases h
theorem lO(h:c∈T.ics f):∃ic∈T.icl,ic.x=c∧f∈ic.flds:=by
 obtain⟨p,hp,rfl⟩:=List.mem_map.mp h
 obtain⟨h1,h2⟩:=List.mem_filter.mp hp
 exact⟨p,h1,rfl,List.contains_iff_mem.mp h2⟩
theorem vI{m:Str}(h:(T.ims m).lookup c=some j):∃ic∈T.icl,ic.x=c∧(m,j)∈ic.mts:=by
 obtain⟨ic,h1,h2⟩:=List.mem_filterMap.mp (aw h)
 cases q:ic.mts.lookup m with
 |none=>rw[q] at h2;cases h2
 |some i=>
  rw[q] at h2
  cases h2
  exact⟨ic,h1,rfl,aw q⟩
theorem AF{o':Ex}(C:Ctx T g X sc N)(hb:attributeBase o f X.env (eval o X.env)=eval o X.env)(ho:PE X o (tE X.K (run g o'))):PE X (.Attribute o f pos) (tE X.K (run g (.fld o' f (T.ecs f) (T.ics f)))):=by
 refine((vv ho hb).or (xT ho hb)).imp fun σ H Q hp=>?_
 obtain⟨ι,st,loc,S,L,P⟩:=hp
 rw[run] at P
 obtain⟨x,st1,e1,P⟩:=aO P
 unfold om at P
 split at P
 ·rename_i n
  split at P
  ·rename_i c fs q
   split at P
   ·rename_i d hl
    split at P
    ·rename_i hc
     obtain⟨ic,hi,rfl,hf⟩:=lO hc
     obtain⟨C0,n0,cl,na,_⟩:=C.icl ic hi
     refine .inr (aZ S L e1 fun H1 ι1 v E1 S1 r1=>?_)
     cases r1 with
     |ref hn=>
      obtain⟨C1,dx,vs,n1,h1,h2,_⟩:=S1.ob n _ q
      rw[n0] at n1
      cases n1
      obtain⟨w,lw,rw'⟩:=h2.look hl
      exact⟨_,C0,dx,vs,w,rfl,h1,cl,na f hf,lw,(P.mono E1).same S1 rw'⟩
    ·exact P.elim
   ·exact P.elim
  ·rename_i c m t q
   split at P
   ·rename_i fs q2
    split at P
    ·rename_i d hl
     split at P
     ·rename_i hc
      refine .inl (aZ S L e1 fun H1 ι1 v E1 S1 r1=>?_)
      cases r1 with
      |ref hn=>
       obtain⟨hf,anc,hp⟩:=lP hc
       obtain⟨C0,n0,ec,fl,_⟩:=C.cls c anc hp
       obtain⟨C1,n1,h1,h2⟩:=S1.ob n _ q
       rw[n0] at n1
       cases n1
       obtain⟨vs,g1,g2,g3⟩:=S1.ob m _ q2
       obtain⟨w,lw,rw'⟩:=g2.look hl
       exact⟨_,C0,ι1 m,vs,t,w,rfl,h1,g1,ec,fl f hf,lw,(P.mono E1).same S1 rw'⟩
     ·exact P.elim
    ·exact P.elim
   ·exact P.elim
  ·exact P.elim
 ·exact P.elim
theorem Sim.aside{K:al}{st:aQ}(S:Sim K H ι st){p:Addr}(hp:H p=none)(ho:HO):Ext H (bj H p ho) ι ι st.length st.length∧Sim K (bj H p ho) ι st:=by
 have E:Ext H (bj H p ho) ι ι st.length st.length:=⟨⟨af _,fun _ _=>rfl,fun b xs e=>by rw[av (au e hp)];exact e,fun b ob u e=>by rw[av (au e hp)];exact e⟩,fun b ob e k=>⟨by rw[av (au e hp)];exact e,k⟩⟩
 exact⟨E,S.inj,fun n o e=>(S.ob n o e).move E.toExt0 (av (by obtain⟨_,h,_⟩:=S.obj (aH e).1;exact au h hp))⟩
theorem Ay{as:List Expr}{xs:List Ex}(C:Ctx T g X sc N)(hg:aV sc x=true)(hi:T.mks.lookup x=some j)(ha:PA X (a::as) (tA X.K (runs g xs)))
  (he:starEach (a::as) X.env=(false,eval a X.env)::starEach as X.env)(hpl:(backTo pos (starEach as X.env)).any (·.1)=false):PE X (.Call (.Name x p2) (a::as) [] pos) (tE X.K (run g (.new x j xs))):=by
 obtain⟨hd,C0,ad,fd,ps,k,hn,hm,mk,hb,hr,har,F⟩:=C.mks x j (aw hi)
 refine(vt mk F hr (d8 C hg) hm hb .nil su ha hd he hpl).imp fun σ H Q hp=>?_
 obtain⟨ι,st,loc,S,L,P⟩:=hp
 rw[run] at P
 obtain⟨ds,st1,e1,P⟩:=aO P
 refine f_ S L e1 fun H1 ι1 vs E1 S1 r1 ax dx hx hdx hne=>?_
 rw[List.append_nil]
 unfold sB at P
 obtain⟨r,st2,e2,P⟩:=aO P
 obtain⟨E2,S2⟩:=S1.aside hdx (.own ax)
 have hx2:bj H1 dx (.own ax) ax=none:=by rw[av hne.symm];exact hx
 obtain⟨ι2,E3,e3,S3⟩:=S2.laid (o:= .ins x []) (ho:= .ins C0 dx []) hx2 (fun ι' h1 h2=>⟨C0,dx,[],hn,ba,.nil,by decide⟩)
 have l:(st1++[O.ins x []]).length=st1.length+1:=by simp
 have rr:VRels X.K (bj (bj H1 dx (.own ax)) ax (.ins C0 dx [])) ι2 (st1++[O.ins x []]).length (.ref st1.length::ds) (.ref ax::vs):=by
  rw[l]
  refine .cons ?_ (r1.ext (E2.trans E3))
  rw[←e3]
  exact .ref (aB _)
 have hlen:(V.ref ax::vs).length=ps.length:=by
  rw[←rr.length]
  by_cases hps:(D.ref st1.length::ds).length=ps.length
  ·exact hps
  ·rw[har _ _ hps] at e2;cases e2
 refine⟨hlen,ι2,_,_,S3,rr,?_⟩
 rw[e2]
 cases r with
 |x n=>exact P.elim
 |v d=>
  cases d with
  |non=>
   intro H' ι' v E' S' rv
   cases rv
   have E4:Ext H H' ι ι' st.length st2.length:=((E1.trans E2).trans (by rw[←l] at E3;exact E3)).trans E'
   refine⟨rfl,P H' ι' _ E4 S' ?_⟩
   have e4:ι' st1.length=ax:=(E'.ad _ (by rw[l];exact aB _)).trans e3
   rw[←e4]
   have:=E'.le
   rw[l] at this
   exact .ref this
  |_=>exact P.elim
theorem pv{m:Str}{xs:List Ex}{t:TA}{x:D}{loc:Loc}{H1:Hp}{st st1:aQ}(C:Ctx T g X sc N)(S1:Sim X.K H1 ι1 st1)(L:LRel X.K H ι st.length loc σ)(E1:Ext H H1 ι ι1 st.length st1.length)(r1:VRel X.K H1 ι1 st1.length x v)
  (P:ck X.K H ι st (aW (pw m (T.ims m) x) (fun j=>aW (runs g xs loc) fun ds=>aW (g j (x::ds)) fun r=>dX r.val?) st1) Q)
  (ht:∀Q':List V→Hp→Prop,tA X.K (runs g xs) σ H1 Q'→t σ H1 Q'):
  ∃a C dx fs f k fd ps sp,v=.ref a∧H1 a=some (.ins C dx fs)∧fs.lookup m=none∧Cls X.K C∧Meth X.K C m f∧FnOk X.prog X.w X.K X.mg X.base (iU X.prog X.w) k f fd ps sp∧Room k X.A∧Binds X.K fd ps []∧t σ H1 fun vs H2=>∀E:XK,sp (.ref a::vs) H2 Q E:=by
 obtain⟨j,st2,e2,P2⟩:=aO P
 obtain⟨ds,st3,e3,P3⟩:=aO P2
 unfold pw at e2
 cases x with
 |ref nn=>
  dsimp only at e2
  split at e2
  ·rename_i c fs q
   split at e2
   ·rename_i i hl hj
    cases e2
    obtain⟨ic,hi,rfl,hm⟩:=vI hj
    obtain⟨C0,n0,cl,na,ms,_⟩:=C.icl ic hi
    obtain⟨a,fd,ps,k,M,hb,hr,har,F⟩:=ms m _ hm
    have rr:=r1
    cases r1 with
    |ref hn=>
     obtain⟨C1,dx,vs,n1,h1,h2,_⟩:=S1.ob nn _ q
     rw[n0] at n1
     cases n1
     refine⟨_,C0,dx,vs,a,k,fd,ps,_,rfl,h1,h2.look_none hl,cl,M,F,hr,hb,ht _ (f_ S1 (L.ext E1) e3 fun H2 ι2 ws E2 S2 r2 E=>?_)⟩
     have r3:VRels X.K H2 ι2 st3.length (.ref nn::ds) (.ref (ι1 nn)::ws):= .cons (rr.ext E2) r2
     refine⟨?_,ι2,st3,_,S2,r3,(dB.val P3).mono (E1.trans E2)⟩
     rw[←r3.length]
     by_cases hps:(D.ref nn::ds).length=ps.length
     ·exact hps
     ·have P4:=dB.val (E:=E) P3
      rw[har _ _ hps] at P4;exact P4.elim
   ·cases e2
  ·cases e2
 |_=>cases e2
theorem sX{as:List Expr}(hpl:(backTo pos (starEach as X.env)).any (·.1)=false)(hz:as.length<29):methodCallForm (as.length+([]:List Keyword).length) (backTo pos (starEach as X.env)) (backToKw pos (keywordEach [] X.env))=true:=by
 unfold methodCallForm
 have h1:(backTo pos (starEach as X.env)).all (!·.1)=true:=by
  rw[List.all_eq_true]
  intro p hp
  cases q:p.1 with
  |false=>rfl
  |true=>
   have:=List.any_eq_false.mp hpl p hp
   rw[q] at this
   exact absurd rfl this
 rw[h1]
 have h2:(backToKw pos (keywordEach [] X.env)).all (·.1.isSome)=true:=rfl
 have h3:(backToKw pos (keywordEach [] X.env)).isEmpty=true:=rfl
 rw[h2,h3]
 simp only[Bool.and_self,Bool.true_and,List.length_nil,Nat.add_zero,if_true,decide_eq_true_eq]
 omega
theorem yx{as:List Expr}{o':Ex}{m:Str}{xs:List Ex}(C:Ctx T g X sc N)(hl:(ap.endLine==pos.line)=true)(hz:(a::as).length<29)(hb:attributeBase o m X.env (eval o X.env)=eval o X.env)(ho:PE X o (tE X.K (run g o')))(ha:PA X (a::as) (tA X.K (runs g xs)))
  (he:starEach (a::as) X.env=(false,eval a X.env)::starEach as X.env)(hpl:(backTo pos (starEach as X.env)).any (·.1)=false)(hpl1:(backTo pos (starEach (a::as) X.env)).any (·.1)=false):PE X (.Call (.Attribute o m ap) (a::as) [] pos) (tE X.K (run g (.meth o' m (T.ims m) xs))):=by
 refine(si ho hb hl (sX hpl1 hz) ha he hpl).imp fun σ H Q hp=>?_
 obtain⟨ι,st,loc,S,L,P⟩:=hp
 rw[run] at P
 obtain⟨x,st1,e1,P⟩:=aO P
 exact aZ S L e1 fun H1 ι1 v E1 S1 r1=>pv C S1 L E1 r1 P fun _ h=>h
theorem v0{o':Ex}{m:Str}(C:Ctx T g X sc N)(hl:(ap.endLine==pos.line)=true)(hb:attributeBase o m X.env (eval o X.env)=eval o X.env)(ho:PE X o (tE X.K (run g o'))):PE X (.Call (.Attribute o m ap) [] [] pos) (tE X.K (run g (.meth o' m (T.ims m) []))):=by
 refine(p9 ho hb hl).imp fun σ H Q hp=>?_
 obtain⟨ι,st,loc,S,L,P⟩:=hp
 rw[run] at P
 obtain⟨x,st1,e1,P⟩:=aO P
 refine aZ S L e1 fun H1 ι1 v E1 S1 r1=>pv C S1 L E1 r1 P fun Q' h=>?_
 obtain⟨ι2,st2,loc2,S2,L2',P2⟩:=h
 rw[runs] at P2
 exact P2 H1 ι2 [] (Ext.refl _ _ _) S2 .nil
theorem BV{as:List Expr}{m:Str}{xs:List Ex}(C:Ctx T g X sc N)(hu:A0 T sc o m=some j)(hl:(ap.endLine==pos.line)=true)(hz:(a::as).length<29)(ha:PA X (a::as) (tA X.K (runs g xs)))
  (he:starEach (a::as) X.env=(false,eval a X.env)::starEach as X.env)(hpl:(backTo pos (starEach as X.env)).any (·.1)=false)(hpl1:(backTo pos (starEach (a::as) X.env)).any (·.1)=false):PE X (.Call (.Attribute o m ap) (a::as) [] pos) (tE X.K (run g (.fn j xs))):=by
 obtain⟨x,px,rfl,hg,hm⟩:=uv hu
 obtain⟨hd,C0,ad,fd,ps,k,hmg,u,hb,hr,har,F⟩:=C.ums x m j hm
 refine(zZ (d8 C hg) hmg hd u F hr hb hl (sX hpl1 hz) ha he hpl).imp fun σ H Q hp=>?_
 obtain⟨ι,st,loc,S,L,P⟩:=hp
 rw[run] at P
 obtain⟨ds,st1,e1,P⟩:=aO P
 refine f_ S L e1 fun H1 ι1 vs E1 S1 r1 E=>⟨?_,ι1,st1,ds,S1,r1,(dB.val P).mono E1⟩
 by_cases hps:ds.length=ps.length
 ·rw[←r1.length];exact hps
 ·have P2:=dB.val (E:=E) P
  rw[har ds st1 hps] at P2;exact P2.elim
theorem sH{x:D}{st:aQ}{H0:Hp}{st0:aQ}(C:Ctx T g X sc N)(S:Sim X.K H ι st)(rv:VRel X.K H ι st.length x v)(E:Ext H0 H ι0 ι st0.length st.length)(hnon:x≠ .non)(P:ck X.K H0 ι0 st0 (vP (T.yes cs) (T.no cs) x st) Q):
  ∃a C0 d t c anc,v=.ref a∧H a=some (bS a C0 d t)∧(∀dx,d=some dx→∃fs,H dx=some (k_ dx fs))∧(c,anc)∈T.cls∧PySem.W.nsIn X.K mainGlobals c=some (some (.ref C0))∧Q (.bl (cs.any fun t=>anc.contains t)) H:=by
 unfold vP at P
 split at P
 ·exact absurd rfl hnon
 ·rename_i n
  split at P
  ·rename_i c d t q
   split at P
   ·rename_i hd
    cases rv with
    |ref hn=>
     obtain⟨C1,n1,h1,h2⟩:=S.ob n _ q
     have hdx:∀dx,d.map ι=some dx→∃fs,H dx=some (k_ dx fs):=fun dx e=>by
      cases d with
      |none=>cases e
      |some m=>
       cases e
       simp only[jI] at hd
       split at hd
       ·rename_i fs q2
        obtain⟨vs,g1,_⟩:=S.ob m _ q2
        exact⟨vs,g1⟩
       ·cases hd
     split at P
     ·rename_i hc
      obtain⟨anc,m1,m2⟩:=pA hc
      exact⟨_,C1,_,t,c,anc,rfl,h1,hdx,m1,n1,by rw[m2];exact(P.mono E).same S (.bl true)⟩
     ·split at P
      ·rename_i hc
       obtain⟨anc,m1,m2⟩:=x_ hc
       exact⟨_,C1,_,t,c,anc,rfl,h1,hdx,m1,n1,by rw[m2];exact(P.mono E).same S (.bl false)⟩
      ·exact P.elim
   ·exact P.elim
  ·exact P.elim
 ·exact P.elim
theorem kQ:ei X (.builtin "isinstance") (fun xs H Q=>zU X.K xs H Q∨∃v c b,xs=[.non,v]∧(∀u,RelV v u→u=c)∧PySem.W.kitOne X.K (.type "NoneType") c=some b∧Q (.bl b) H):=fun pins s σ H xs us Q I r h=>by
 rcases h with h|h
 ·exact tO pins s σ H xs us Q I r h
 ·exact qB pins s σ H xs us Q I r h
theorem AD{a':Ex}(C:Ctx T g X sc N)(hg:aV sc "isinstance"=true)(ht:tM T sc t=true)(ha:PE X a (tE X.K (run g a')))
  (he:starEach [a,.Name t p3] X.env=(false,eval a X.env)::starEach [.Name t p3] X.env):PE X (.Call (.Name "isinstance" p2) [a,.Name t p3] [] pos) (tE X.K (run g (.isc a' (T.yes [t]) (T.no [t])))):=by
 unfold tM at ht
 simp only[Bool.and_eq_true,Bool.or_eq_true] at ht
 obtain⟨hgt,ht⟩:=ht
 by_cases hc:T.cats.contains t=true
 ·obtain⟨hdb,D,n1,m1,ec⟩:=C.cats t (List.contains_iff_mem.mp hc)
  refine(fG kQ (d8 C hg) (C.blt _ (by decide+kernel)) (by decide+kernel) (bC ha (bC (lL (v:= .ref D) (d8 C hgt) m1 rfl hdb) c_) he) (by decide+kernel) (by decide+kernel) he rfl).imp fun σ H Q hp=>?_
  obtain⟨ι,st,loc,S,L,P⟩:=hp
  rw[run] at P
  obtain⟨x,st1,e1,P⟩:=aO P
  refine aZ S L e1 fun H1 ι1 v E1 S1 r1=>?_
  by_cases hnon:x=.non
  ·subst hnon
   cases r1
   exact .inr ⟨.ref D,.ref D,_,rfl,fun u ru=>ru,C.catn.2 t (List.contains_iff_mem.mp hc) D n1,(show ck X.K H ι st (.ok (.bl false) st1) Q from P) H1 ι1 (.bl false) E1 S1 (.bl false)⟩
  obtain⟨b,C0,d,tt,c,anc,rfl,h1,h2,h3,h4,q⟩:=sH C S1 r1 E1 hnon P
  obtain⟨C1,n2,ec2,_,kk,_⟩:=C.cls c anc h3
  obtain rfl:C1=C0:=by rw[n2] at h4;cases h4;rfl
  refine .inl ⟨b,C1,d,tt,.ref D,.ref D,_,rfl,h1,h2,ec2,fun u ru=>ru,(kk t (List.contains_iff_mem.mp hc) D n1).1,?_⟩
  simpa using q
 ·have htv:t= "ValueError":=by
   rcases ht with ht|ht
   ·exact absurd ht hc
   ·simpa using ht
  subst htv
  have hpe:PE X (.Name "ValueError" p3) (tC (.ty "ValueError")):=pj (d8 C hgt) (C.blt _ (by decide+kernel)) (by decide+kernel) rfl (by decide+kernel) (by decide+kernel)
  refine(fG kQ (d8 C hg) (C.blt _ (by decide+kernel)) (by decide+kernel) (bC ha (bC hpe c_) he) (by decide+kernel) (by decide+kernel) he rfl).imp fun σ H Q hp=>?_
  obtain⟨ι,st,loc,S,L,P⟩:=hp
  rw[run] at P
  obtain⟨x,st1,e1,P⟩:=aO P
  refine aZ S L e1 fun H1 ι1 v E1 S1 r1=>?_
  by_cases hnon:x=.non
  ·subst hnon
   cases r1
   exact .inr ⟨.ty "ValueError",.type "ValueError",_,rfl,fun u ru=>ru,C.catn.1,(show ck X.K H ι st (.ok (.bl false) st1) Q from P) H1 ι1 (.bl false) E1 S1 (.bl false)⟩
  obtain⟨b,C0,d,tt,c,anc,rfl,h1,h2,h3,h4,q⟩:=sH C S1 r1 E1 hnon P
  obtain⟨C1,n2,ec2,_,_,kv⟩:=C.cls c anc h3
  obtain rfl:C1=C0:=by rw[n2] at h4;cases h4;rfl
  refine .inl ⟨b,C1,d,tt,.ty "ValueError",.type "ValueError",_,rfl,h1,h2,ec2,fun u ru=>ru,kv,?_⟩
  simpa using q
end
set_option maxHeartbeats 16000000
noncomputable def Plain(es:List Expr)(env:Env)(pos:Pos):Prop:=(backTo pos (starEach es env)).any (·.1)=false
theorem nW{env:Env}(h:starEach (e::es) env=(false,eval e env)::starEach es env)(k:Plain es env pos):Plain (e::es) env pos:=by
 unfold Plain at k ⊢
 rw[h]
 simpa[backTo] using k
noncomputable def SX(g:cY)(X:Cx)(e:Expr)(x:Ex):Prop:=PE X e (tE X.K (run g x))∧PT X e (tT X.K (run g x))
noncomputable def SE(T:Tab)(g:cY)(n:Nat):Prop:=∀{X:Cx}{sc:Scope}{N:List Str}{e:Expr}{x:Ex},Ctx T g X sc N→cE T n sc N e=some x→SX g X e x
noncomputable def AT(T:Tab)(g:cY)(n:Nat):Prop:=∀{X:Cx}{sc:Scope}{N:List Str}{es:List Expr}{xs:List Ex},Ctx T g X sc N→nC T n sc N es=some xs→
 PA X es (tA X.K (runs g xs))∧es.length=xs.length∧(∀pos,Plain es X.env pos)∧∀e r,es=e::r→starEach (e::r) X.env=(false,eval e X.env)::starEach r X.env∧∀pos,Plain r X.env pos
noncomputable def SC(T:Tab)(g:cY)(n:Nat):Prop:=∀{X:Cx}{sc scope:Scope}{N:List Str}{x:Str}{elt src:Expr}{ifs:List Expr}{y:Ex}{px:Pos},Ctx T g X sc N→dz sc scope N x=true→
 (kU T n sc N false src x elt ifs scope=some y→gi g X x px src ifs elt scope y)∧
 (∀p3 p4,aV sc "range"=true→kU T n sc N true src x elt ifs scope=some y→gi g X x px (.Call (.Name "range" p3) [src] [] p4) ifs elt scope y)
theorem rm{T:Tab}{g:cY}(h:SE T g n)(hs:AT T g n):AT T g (n+1):=by
 intro X sc N es xs C e
 cases es with
 |nil=>
  cases e
  refine⟨c_.imp fun σ H Q hp=>?_,rfl,fun pos=>rfl,fun _ _ z=>nomatch z⟩
  obtain⟨ι,st,loc,S,L,P⟩:=hp
  rw[runs] at P
  exact P H ι [] (Ext.refl _ _ _) S .nil
 |cons a0 as0=>
  obtain⟨e1,e2,e⟩:=bs e
  obtain⟨r1,r2,rfl⟩:=map_some e
  have h1:=h C e2
  obtain⟨h2,h3,h4,_⟩:=hs C r2
  have st:=cq e2 as0 X.env
  refine⟨(bC h1.1 h2 st).imp fun σ H Q hp=>?_,by simp[h3],fun pos=>nW st (h4 pos),fun a b z=>by cases z;exact⟨st,h4⟩⟩
  obtain⟨ι,st,loc,S,L,P⟩:=hp
  rw[runs] at P
  obtain⟨d,st1,e1,P⟩:=nu P
  obtain⟨ds,st2,e2,P⟩:=nu P
  exact aZ S L e1 fun H1 ι1 v E1 S1 r1=>f_ S1 (L.ext E1) e2 fun H2 ι2 vs E2 S2 r2=>P H2 ι2 (v::vs) (E1.trans E2) S2 (.cons (r1.ext E2) r2)
theorem uP{T:Tab}{g:cY}(h:SE T g n):SC T g (n+1):=by
 intro X sc scope N x elt src ifs y px C hc
 have k:∀{b:Bool},kU T (n+1) sc N b src x elt ifs scope=some y→∃s' e',cE T n sc N src=some s'∧(∀fp s H,PE (bv X x scope fp s H) elt (tE X.K (run g e')))∧ifs=[]∧y=.comp b s' e':=by
  intro b e
  obtain⟨s',e1,e⟩:=bs e
  obtain⟨e',e2,e⟩:=bs e
  cases ifs with
  |nil=>cases e;exact⟨s',e',e1,fun fp s H=>(h (nc C hc fp s H) e2).1,rfl,rfl⟩
  |cons=>cases e
 refine⟨fun e=>?_,fun p3 p4 hg e=>?_⟩
 ·obtain⟨s',e',e1,h2,rfl,rfl⟩:=k e
  exact yB C hc (h C e1).1 h2 (iT e1 X.env)
 ·obtain⟨s',e',e1,h2,rfl,rfl⟩:=k e
  exact v7 C hc hg (cq e1 [] X.env) (h C e1).1 h2
theorem ze{g:cY}{c:Expr}{c' a' b':Ex}(hc:PT X c (tT X.K (run g c')))(ha:PT X a (tT X.K (run g a')))(hb:PT X b (tT X.K (run g b'))):PT X (.IfExp c a b pos) (tT X.K (run g (.ite c' a' b'))):=by
 intro pins s σ H Q I h
 obtain⟨ι,st,loc,S,L,P⟩:=h
 rw[run] at P
 obtain⟨x,st1,e1,P⟩:=dq P
 obtain⟨i,st2,e2,P⟩:=dq P
 obtain⟨e3,rfl⟩:=bw e2
 have:=bT e3
 subst this
 refine isTrue_IfExp (bz (hc pins s σ H (fun k H1=>if k=true then tT X.K (run g a') σ H1 Q else tT X.K (run g b') σ H1 Q) I (i9 S L e1 fun H1 ι1 E1 S1=>?_)) fun k s1 ⟨H1,I1,q1⟩=>?_)
 ·cases i with
  |true=>rw[if_pos rfl];exact⟨ι1,st2,loc,S1,L.ext E1,P.mono E1⟩
  |false=>rw[if_neg aq];exact⟨ι1,st2,loc,S1,L.ext E1,P.mono E1⟩
 ·cases k with
  |true=>exact ha pins s1 σ H1 Q I1 (by simpa using q1)
  |false=>exact hb pins s1 σ H1 Q I1 (by simpa using q1)
theorem both{m:Loc→M D}(h:PE X e (tE X.K m))(he:∀whole,isTrue e X.env whole=(do let v ←whole;standAt e.pos;holding [v] (truthy v))):PE X e (tE X.K m)∧PT X e (tT X.K m):=⟨h,rT h he⟩
theorem pN{T:Tab}{g:cY}(h:SE T g n)(hc:SC T g n){sc:Scope}{gens:List Comprehension}{y:Ex}(C:Ctx T g X sc N)(ex:cE T (n+1) sc N (.ListComp elt gens scope pos)=some y){G:Prop}
  (k1:∀x px it ifs,gens=[⟨.Name x px,it,ifs,0⟩]→T.calm=true→dz sc scope N x=true→gi g X x px it ifs elt scope y→G)
  (k2:∀x z px py k pt it ifs,gens=[⟨.Tuple [.Name x px,.Name z py] k pt,it,ifs,0⟩]→T.calm=true→cy sc scope N x z=true→eB g X x z px py k pt it ifs elt scope y→G):G:=by
 obtain⟨q,hg,ex⟩:=bs ex
 have hg:=sT hg
 obtain⟨t,it,ifs⟩:=q
 rcases lN ex with⟨x,hx,ex⟩|⟨_,ex⟩
 ·obtain⟨px,e⟩:=dg hx
  cases e
  obtain⟨⟨hcm,hk⟩,ex⟩:=eS ex
  refine k1 x px it ifs hg hcm hk ?_
  rcases lN ex with⟨⟨r,a⟩,hr,ex⟩|⟨_,ex⟩
  ·obtain⟨p3,p4,e⟩:=fX hr
   cases e
   rcases Cd ex with⟨⟨e,hg2⟩,ex⟩|ex
   ·cases e
    exact(hc C hk).2 _ _ hg2 ex
   ·exact(hc C hk).1 ex
  ·exact(hc C hk).1 ex
 ·obtain⟨⟨x,z⟩,hz,ex⟩:=bs ex
  obtain⟨⟨hk,hcm⟩,ex⟩:=eS ex
  obtain⟨_,_,_,_,e⟩:=qa hz
  cases e
  obtain⟨e',e2,ex⟩:=bs ex
  have he:=fun fp s H=>(h (ie C hk fp s H) e2).1
  refine k2 _ _ _ _ _ _ _ _ hg hcm hk ?_
  cases ifs with
  |cons=>cases ex
  |nil=>
   rcases lN ex with⟨a,ha,ex⟩|⟨_,ex⟩
   ·obtain⟨a',e1,rfl⟩:=map_some ex
    obtain⟨hg2,_,_,e⟩:=kI ha
    cases e
    exact v_ C hcm hk hg2 (cq e1 [] _) (h C e1).1 he
   rcases lN ex with⟨w,ha,ex⟩|⟨_,ex⟩
   ·obtain⟨a',e1,ex⟩:=bs ex
    obtain⟨b',e3,rfl⟩:=map_some ex
    obtain⟨hg2,_,_,e⟩:=qG ha
    cases e
    exact v5 C hcm hk hg2 (cq e1 _ _) (cq e3 [] _) (h C e1).1 (h C e3).1 he
   ·obtain⟨a',e1,rfl⟩:=map_some ex
    exact v6 C hcm hk (h C e1).1 (iT e1 X.env) he
theorem vZ{T:Tab}{g:cY}{sc:Scope}{o':Ex}{m:Str}{xs:List Ex}(C:Ctx T g X sc N)(hl:(ap.endLine==pos.line)=true)(hz:args.length<29)(hb:attributeBase o m X.env (eval o X.env)=eval o X.env)(ho:PE X o (tE X.K (run g o')))
  (hA:PA X args (tA X.K (runs g xs))∧args.length=xs.length∧(∀pos,Plain args X.env pos)∧∀e r,args=e::r→starEach (e::r) X.env=(false,eval e X.env)::starEach r X.env∧∀pos,Plain r X.env pos):PE X (.Call (.Attribute o m ap) args [] pos) (tE X.K (run g (.meth o' m (T.ims m) xs))):=by
 obtain⟨h1,h2,h0,h3⟩:=hA
 cases args with
 |nil=>
  have:xs=[]:=List.length_eq_zero_iff.mp h2.symm
  subst this
  exact v0 C hl hb ho
 |cons a as=>
  obtain⟨h4,h5⟩:=h3 _ _ rfl
  exact yx C hl hz hb ho h1 h4 (h5 _) (h0 _)
theorem Aw{T:Tab}{g:cY}{sc:Scope}{m:Str}{xs:List Ex}(C:Ctx T g X sc N)(hu:A0 T sc o m=some j)(hl:(ap.endLine==pos.line)=true)(hz:args.length<29)(hne:(!args.isEmpty)=true)
  (hA:PA X args (tA X.K (runs g xs))∧args.length=xs.length∧(∀pos,Plain args X.env pos)∧∀e r,args=e::r→starEach (e::r) X.env=(false,eval e X.env)::starEach r X.env∧∀pos,Plain r X.env pos):PE X (.Call (.Attribute o m ap) args [] pos) (tE X.K (run g (.fn j xs))):=by
 obtain⟨h1,h2,h0,h3⟩:=hA
 cases args with
 |nil=>cases hne
 |cons a as=>
  obtain⟨h4,h5⟩:=h3 _ _ rfl
  exact BV C hu hl hz h1 h4 (h5 _) (h0 _)
theorem uM{T:Tab}{g:cY}(h:SE T g n)(hs:AT T g n){sc:Scope}{fp:Pos}{x:Ex}(C:Ctx T g X sc N)(ex:cE T (n+1) sc N (.Call (.Name f fp) args [] cp)=some x):SX g X (.Call (.Name f fp) args [] cp) x:=by
 obtain⟨hg,ex⟩:=eS ex
 rcases lN ex with⟨a,hr,ex⟩|⟨_,ex⟩
 ·obtain⟨hk,ex⟩:=eS ex
  obtain⟨a',ha,rfl⟩:=map_some ex
  obtain⟨rfl,_,_,rfl⟩:=sI hr
  exact both (yz C hk.2 hg hk.1.1 (cq ha [] _) (h C ha).1) fun _=>rfl
 rcases lN ex with⟨a,hr,ex⟩|⟨_,ex⟩
 ·obtain⟨hk,ex⟩:=eS ex
  obtain⟨a',ha,rfl⟩:=map_some ex
  obtain⟨rfl,hr⟩:=eS hr
  obtain⟨c,h1,hr⟩:=bs hr
  cases cw h1
  have:c=a:=by cases c<;>cases hr;rfl
  subst this
  exact both (v4 C hk.2 hg (cq ha [] _) (h C ha).1) fun _=>rfl
 cases args with
 |nil=>cases ex
 |cons a as=>
  have kk:∀{xs:List Ex},nC T n sc N (a::as)=some xs→PA X (a::as) (tA X.K (runs g xs))∧(a::as).length=xs.length∧starEach (a::as) X.env=(false,eval a X.env)::starEach as X.env∧∀pos,Plain as X.env pos:=fun hx=>by
   obtain⟨h1,h2,_,h3⟩:=hs C hx
   exact⟨h1,h2,h3 _ _ rfl⟩
  rcases lN ex with⟨i,hi,ex⟩|⟨_,ex⟩
  ·obtain⟨xs,hx,rfl⟩:=map_some ex
   obtain⟨h1,h2,h4,h5⟩:=kk hx
   exact both (BY C hg hi h1 h2 h4 (h5 _)) fun _=>rfl
  rcases lN ex with⟨j,hj,ex⟩|⟨_,ex⟩
  ·obtain⟨xs,hx,rfl⟩:=map_some ex
   obtain⟨h1,_,h4,h5⟩:=kk hx
   exact both (Ay C hg hj h1 h4 (h5 _)) fun _=>rfl
  rcases lN ex with⟨b,hb,ex⟩|⟨_,ex⟩
  ·obtain⟨hcm,ex⟩:=eS ex
   obtain⟨xs,hx,rfl⟩:=map_some ex
   obtain⟨h1,_,h4,h5⟩:=kk hx
   exact both (BZ C hcm hg hb h1 h4 (h5 _)) fun _=>rfl
  obtain⟨hf,ex⟩:=eS ex
  obtain⟨t',h1,ex⟩:=bs ex
  obtain⟨t,h2,ex⟩:=bs ex
  obtain⟨hgt,ex⟩:=eS ex
  obtain⟨a',ha,ex⟩:=bs ex
  have hh:=cw h1
  have h3:=dg h2
  rcases lN ex with⟨ty,ht,ex⟩|⟨_,ex⟩
  ·cases ex
   obtain⟨_,rfl⟩:=h3
   subst hh hf
   exact both (AC C hg hgt ht (h C ha).1 (cq ha _ _)) fun _=>rfl
  obtain⟨hct,ex⟩:=eS ex
  cases ex
  obtain⟨_,rfl⟩:=h3
  subst hh hf
  exact both (AD C hg hct (h C ha).1 (cq ha _ _)) fun _=>rfl
theorem uL{T:Tab}{g:cY}(h:SE T g n)(hs:AT T g n)(hc:SC T g n)(hd:SD T g n):SE T g (n+1):=by
 intro X sc N e x C ex
 cases e with
 |Constant k _ _=>
  cases k with
  |int=>cases ex;exact both (gL (X:=X) (g:=g) xS (d:= .int _) (fun _ _ _=>.int _)) fun _=>rfl
  |str=>cases ex;exact both (gL (X:=X) (g:=g) sf (d:= .str _) (fun _ _ _=>.str _)) fun _=>rfl
  |bool=>cases ex;exact both (gL (X:=X) (g:=g) Ab (d:= .bl _) (fun _ _ _=>.bl _)) fun _=>rfl
  |none=>cases ex;exact both (gL (X:=X) (g:=g) xQ (d:= .non) (fun _ _ _=>.non)) fun _=>rfl
  |_=>cases ex
 |Name y _=>
  obtain⟨k,q,ex⟩:=bs ex
  cases k with
  |«local»=>
   obtain⟨i,hi,rfl⟩:=map_some ex
   exact both (tF C hi (.inl q)) fun _=>rfl
  |cell=>
   obtain⟨i,hi,rfl⟩:=map_some ex
   exact both (tF C hi (.inr (.inl q))) fun _=>rfl
  |free=>
   obtain⟨i,hi,rfl⟩:=map_some ex
   exact both (tF C hi (.inr (.inr q))) fun _=>rfl
  |globalImplicit=>
   obtain⟨d,hd,rfl⟩:=map_some ex
   obtain⟨a1,u,v,a2,a3,a4⟩:=C.csts _ _ hd
   exact both (gL (lL (by show X.env.scope.names.lookup _=_;rw[C.sc];exact q) a2 a3 a1) a4) fun _=>rfl
  |_=>cases ex
 |Tuple es _ _=>
  obtain⟨hz,ex⟩:=eS ex
  obtain⟨xs,hx,rfl⟩:=map_some ex
  obtain⟨h1,h2,_⟩:=hs C hx
  exact both (wJ h1 hz h2) fun _=>rfl
 |List es _=>
  obtain⟨hz,ex⟩:=eS ex
  obtain⟨xs,hx,rfl⟩:=map_some ex
  obtain⟨h1,h2,_⟩:=hs C hx
  exact both (AA h1 hz h2) fun _=>rfl
 |Dict ks vs _=>
  cases ks with
  |nil=>
   cases vs with
   |nil=>cases ex;exact both (AG (X:=X) (g:=g)) fun _=>rfl
   |cons=>cases ex
  |cons k ks=>
   obtain⟨ks',hk,ex⟩:=bs ex
   obtain⟨vs',he,ex⟩:=bs ex
   obtain⟨hl,ex⟩:=eS ex
   cases ex
   exact both (yA hd C hk he hl.1 hl.2.1 hl.2.2) fun _=>rfl
 |BinOp a op b _=>
  obtain⟨a',e1,ex⟩:=bs ex
  obtain⟨o,e2,ex⟩:=bs ex
  obtain⟨b',e3,rfl⟩:=map_some ex
  exact both (AI e2 (h C e1).1 (h C e3).1) fun _=>rfl
 |UnaryOp op a _=>
  cases op with
  |Not=>
   obtain⟨a',ha,rfl⟩:=map_some ex
   exact⟨Ax (h C ha).1,zd (h C ha).2⟩
  |USub=>
   obtain⟨a',ha,rfl⟩:=map_some ex
   exact both (Az (h C ha).1) fun _=>rfl
  |_=>cases ex
 |BoolOp op es p=>
  rcases es with _|⟨a,_|⟨b,r⟩⟩
  ·cases ex
  ·exact⟨xO (h C ex).1,zc (h C ex).2⟩
  ·obtain⟨a',e1,ex⟩:=bs ex
   obtain⟨b',e2,rfl⟩:=map_some ex
   cases op with
   |And=>exact⟨AJ (h C e1).1 (h C e2).1,zg (h C e1).2 (h C e2).2⟩
   |Or=>exact⟨BW (h C e1).1 (h C e2).1,Be (h C e1).2 (h C e2).2⟩
 |Compare a ops bs' _=>
  rcases lN ex with⟨ks,hk,ex⟩|⟨_,ex⟩
  ·obtain⟨a',e1,rfl⟩:=map_some ex
   obtain⟨op,ho,hk⟩:=bs hk
   cases op with
   |In=>
    obtain⟨b,hb,hk⟩:=bs hk
    obtain⟨y,hy,hk⟩:=bs hk
    obtain⟨hg,hk9⟩:=eS hk
    cases cw ho
    cases cw hb
    obtain⟨_,rfl⟩:=dg hy
    exact AE C hg hk9 (h C e1).1
   |_=>cases hk
  rcases lN ex with⟨op,ho,ex⟩|⟨_,ex⟩
  ·obtain⟨b,hb,ex⟩:=bs ex
   obtain⟨a',e1,ex⟩:=bs ex
   obtain⟨b',e2,rfl⟩:=map_some ex
   cases cw ho
   cases cw hb
   exact⟨AH C.un (gS e2 _) (h C e1).1 (h C e2).1,zf C.un (gS e2 _) (h C e1).1 (h C e2).1⟩
  ·obtain⟨o,ho,ex⟩:=bs ex
   obtain⟨b,hb,ex⟩:=bs ex
   obtain⟨a',e1,ex⟩:=bs ex
   obtain⟨b',e2,ex⟩:=bs ex
   obtain⟨c',e3,rfl⟩:=map_some ex
   cases fU ho
   cases fU hb
   exact⟨wa C.un (gS e3 _) (h C e1).1 (h C e2).1 (h C e3).1,uC C.un (gS e3 _) (h C e1).1 (h C e2).1 (h C e3).1⟩
 |Subscript a b _=>
  rcases lN ex with⟨⟨lo,hi⟩,hq,ex⟩|⟨_,ex⟩
  ·obtain⟨p,rfl⟩:=uI hq
   cases lo with
   |none=>
    obtain⟨hh,e0,ex⟩:=bs ex
    cases e0
    obtain⟨a',e1,ex⟩:=bs ex
    obtain⟨h',e2,rfl⟩:=map_some ex
    exact both (yu (h C e1).1 pf (iN (h C e2).1) pp gF) fun _=>rfl
   |some l=>
    obtain⟨a',e1,ex⟩:=bs ex
    obtain⟨l',e2,ex⟩:=bs ex
    cases hi with
    |none=>cases ex;exact both (yu (h C e1).1 (iN (h C e2).1) pf gF pp) fun _=>rfl
    |some hh=>
     obtain⟨h',e3,rfl⟩:=map_some ex
     exact both (yu (h C e1).1 (iN (h C e2).1) (iN (h C e3).1) gF gF) fun _=>rfl
  ·obtain⟨hp,ex⟩:=eS ex
   obtain⟨a',e1,ex⟩:=bs ex
   obtain⟨b',e2,rfl⟩:=map_some ex
   exact both (BX C.un hp (h C e1).1 (h C e2).1) fun _=>rfl
 |Call f args kws cp=>
  cases kws with
  |cons=>cases ex
  |nil=>
   cases f with
   |Name f _=>exact uM h hs C ex
   |Attribute o m ap=>
    rcases lN ex with⟨j,hu,ex⟩|⟨_,ex⟩
    ·obtain⟨hm,ex⟩:=eS ex
     simp only[Bool.and_eq_true,decide_eq_true_eq] at hm
     obtain⟨xs,hx,rfl⟩:=map_some ex
     exact both (Aw C hu hm.1.1 hm.1.2 hm.2 (hs C hx)) fun _=>rfl
    rcases Cd ex with⟨hm,ex⟩|ex
    ·simp only[Bool.and_eq_true] at hm
     cases args with
     |cons=>cases ex
     |nil=>
      obtain⟨o',ho,rfl⟩:=map_some ex
      exact both (yw hm.1.1 hm.1.2 (gT hm.2 _ _) (h C ho).1) fun _=>rfl
    ·obtain⟨hm,ex⟩:=eS ex
     simp only[Bool.and_eq_true,decide_eq_true_eq] at hm
     obtain⟨o',e1,ex⟩:=bs ex
     obtain⟨as',e2,rfl⟩:=map_some ex
     exact both (vZ C hm.1.2 hm.2 (gT hm.1.1 _ _) (h C e1).1 (hs C e2)) fun _=>rfl
   |_=>cases ex
 |ListComp elt gens scope pos=>
  exact pN h hc C ex (fun x px it ifs e hcm hk hd=>by cases e;exact both (hd.pe C hcm hk) fun _=>rfl) fun x z px py k pt it ifs e hcm hk hd=>by cases e;exact both (hd.pe C hcm hk) fun _=>rfl
 |IfExp c a b _=>
  obtain⟨c',e1,ex⟩:=bs ex
  obtain⟨a',e2,ex⟩:=bs ex
  obtain⟨b',e3,rfl⟩:=map_some ex
  exact⟨AB (h C e1).2 (h C e2).1 (h C e3).1,ze (h C e1).2 (h C e2).2 (h C e3).2⟩
 |Attribute o f _=>
  obtain⟨hf,ex⟩:=eS ex
  obtain⟨o',ho,rfl⟩:=map_some ex
  exact both (AF C (gT hf _ _) (h C ho).1) fun _=>rfl
 |_=>cases ex
theorem sound(T:Tab)(g:cY):∀n,SE T g n∧AT T g n∧SC T g n∧SD T g n
 |0=>by
  refine⟨?_,?_,?_,?_⟩
  ·intro X sc N e x C h
   cases h
  ·intro X sc N e x C h
   cases h
  ·intro X sc scope N x elt src ifs y px C hc
   exact⟨fun h=>(by cases h),fun _ _ _ h=>(by cases h)⟩
  ·intro X sc N es xs ks keys pos C h
   cases h
 |n+1=>by
  obtain⟨a,b,c,d⟩:=sound T g n
  exact⟨uL a b c d,rm a b,uP a,uN (fun C e=>(a C e).1) d⟩
noncomputable def c6(K:al)(Xw:Addr→L2.St→Hp→Prop)(H:Hp)(ι:Nat→Addr)(st:aQ)(r:R Fl)(D:Ends):Prop:=match r with
 | .ok (.nx loc) st'=>∀H' ι' σ',Ext H H' ι ι' st.length st'.length→Sim K H' ι' st'→LRel K H' ι' st'.length loc σ'→D.nx σ' H'
 | .ok (.rt d) st'=>∀H' ι' v,Ext H H' ι ι' st.length st'.length→Sim K H' ι' st'→VRel K H' ι' st'.length d v→D.rt v H'
 | .ok (.ex n loc) st'=>∀H' ι' σ',Ext H H' ι ι' st.length st'.length→Sim K H' ι' st'→LRel K H' ι' st'.length loc σ'→Xw (ι' n) σ' H'
 | .bad=>False
noncomputable def tS(K:al)(Xw:Addr→L2.St→Hp→Prop)(m:Loc→M Fl):TS:=fun D σ H=>∃ι st loc,Sim K H ι st∧LRel K H ι st.length loc σ∧c6 K Xw H ι st (m loc st) D
section
variable{K:al}{Xw:Addr→L2.St→Hp→Prop}{H:Hp}{ι:Nat→Addr}{st:aQ}
theorem aJ{m:M α}{f:α→M Fl}{st0:aQ}{D:Ends}(P:c6 K Xw H ι st (aW m f st0) D):∃a st1,m st0=.ok a st1∧c6 K Xw H ι st (f a st1) D:=by
 unfold aW at P
 cases e:m st0 with
 |ok a st1=>rw[e] at P;exact⟨a,st1,rfl,P⟩
 |bad=>rw[e] at P;exact P.elim
theorem c6.mono{r:R Fl}{D:Ends}{H1:Hp}{st1:aQ}(P:c6 K Xw H ι st r D)(E:Ext H H1 ι ι1 st.length st1.length):c6 K Xw H1 ι1 st1 r D:=by
 cases r with
 |ok f st2=>
  cases f with
  |nx loc=>exact fun H' ι' σ' E' S' r'=>P H' ι' σ' (E.trans E') S' r'
  |rt d=>exact fun H' ι' v E' S' r'=>P H' ι' v (E.trans E') S' r'
  |ex n loc=>exact fun H' ι' σ' E' S' r'=>P H' ι' σ' (E.trans E') S' r'
 |bad=>exact P
end
theorem _root_.L2.PS.imp{X:Cx}{s:Stmt}{t t':TS}(h:PS X s t)(k:∀D σ H,t' D σ H→t D σ H):PS X s t':=fun pins s σ H D I q=>h pins s σ H D I (k D σ H q)
theorem _root_.L2.PSs.imp{X:Cx}{s:List Stmt}{t t':TS}(h:PSs X s t)(k:∀D σ H,t' D σ H→t D σ H):PSs X s t':=fun pins s σ H D I q=>h pins s σ H D I (k D σ H q)
section
variable{T:Tab}{g:cY}{X:Cx}{sc:Scope}{N:List Str}{pos p2 p3:Pos}{Xw:Addr→L2.St→Hp→Prop}
theorem fK(C:Ctx T g X sc N)(h:isLocal sc x=true):L2.Loc X.env.scope x:=by
 show X.env.scope.names.lookup x=_∨X.env.scope.names.lookup x=_
 rw[C.sc]
 simpa[isLocal] using h
theorem nR{e':Ex}{D:Ends}(h:tS X.K Xw (exec g (.set i e')) D σ H):nM (tE X.K (run g e')) (dm i) D σ H:=by
 obtain⟨ι,st,loc,S,L,P⟩:=h
 rw[exec] at P
 obtain⟨d,st1,e1,P⟩:=aJ P
 exact aZ S L e1 fun H1 ι1 v E1 S1 r1=>P H1 ι1 _ E1 S1 ((L.ext E1).set i r1)
theorem uS{i:Expr}{o' i' e':Ex}(hu:X.A.units+1<cLine)(hp:gC i=true)(hn:vQ e=true)(ho:PE X o (tE X.K (run g o')))(hi:PE X i (tE X.K (run g i')))(he:PE X e (tE X.K (run g e'))):PS X (.Assign [.Subscript o i p2] e pos) (tS X.K Xw (exec g (.setix o' i' e'))):=by
 refine((xI he (xL ho hi set_list (fun v=>by cases i<;>first|rfl|cases hp)) (by cases e<;>rfl) (by cases e<;>rfl)).or (vo hu ho hi he (by cases e<;>first|rfl|cases hn))).imp fun D σ H hp=>?_
 obtain⟨ι,st,loc,S,L,P⟩:=hp
 rw[exec] at P
 obtain⟨d,st1,e1,P⟩:=aJ P
 obtain⟨x,st2,e2,P⟩:=aJ P
 obtain⟨k,st3,e3,P⟩:=aJ P
 obtain⟨u,st4,e4,P⟩:=aJ P
 have sz:sizeLine=16777216:=sizeLine_eq
 unfold gy at e4
 cases x with
 |ref n0=>
  dsimp only at e4
  split at e4
  ·rename_i xs q
   split at e4
   ·split at e4
    ·rename_i j hj
     cases e4
     refine .inl (aZ S L e1 fun H1 ι1 v E1 S1 r1=>aZ S1 (L.ext E1) e2 fun H2 ι2 vx E2 S2 r2=>aZ S2 ((L.ext E1).ext E2) e3 fun H3 ι3 vk E3 S3 r3=>?_)
     have r2':=r2.ext E3
     have r1':=(r1.ext E2).ext E3
     cases r2' with
     |ref hn=>
      cases r3
      obtain⟨vs,g1,g2⟩:=S3.ob _ _ q
      have rr:=g2.set j r1'
      obtain⟨E4,S4⟩:=S3.write q rr
      refine⟨_,_,_,j,rfl,rfl,g1,by rw[←g2.length];exact hj,?_⟩
      have E5:=(E1.trans E2).trans E3
      have E4':Ext H3 (bj H3 (ι3 n0) (.lst (vs.set j v))) ι3 ι3 st3.length (st3.set n0 (O.lst (xs.set j d))).length:=by rw[aE];exact E4
      exact P _ ι3 σ (E5.trans E4') S4 (((L.ext E5)).ext E4')
    ·cases e4
   ·cases e4
  ·rename_i kvs q
   split at e4
   ·rename_i kk hk
    split at e4
    ·rename_i hl
     cases e4
     refine .inr (aZ S L e1 fun H1 ι1 v E1 S1 r1=>aZ S1 (L.ext E1) e2 fun H2 ι2 vx E2 S2 r2=>aZ S2 ((L.ext E1).ext E2) e3 fun H3 ι3 vk E3 S3 r3=>?_)
     have r2':=r2.ext E3
     have r1':=(r1.ext E2).ext E3
     have hv:=lR hk r3
     subst hv
     cases r2' with
     |ref hn=>
      obtain⟨vs,g1,g2⟩:=S3.ob _ _ q
      have ll:=g2.length
      obtain⟨E4,S4⟩:=S3.writeD q (g2.put (k:=kk) r1')
      refine⟨_,_,rfl,tZ.k (k:=kk) g1 (by omega),?_⟩
      have E5:=(E1.trans E2).trans E3
      have E4':Ext H3 (bj H3 (ι3 n0) (.dK (putK vs kk v))) ι3 ι3 st3.length (st3.set n0 (O.dct (ko kvs kk d))).length:=by rw[aE];exact E4
      exact P _ ι3 σ (E5.trans E4') S4 (((L.ext E5)).ext E4')
    ·cases e4
   ·cases e4
  ·cases e4
 |_=>cases e4
theorem zw{e':Ex}(he:PE X e (tE X.K (run g e'))):PS X (.Return (some e) pos) (tS X.K Xw (exec g (.ret e'))):=
 (xF he).imp fun D σ H hp=>by
  obtain⟨ι,st,loc,S,L,P⟩:=hp
  rw[exec] at P
  obtain⟨d,st1,e1,P⟩:=aJ P
  exact aZ S L e1 fun H1 ι1 v E1 S1 r1=>P H1 ι1 v E1 S1 r1
theorem rA{s₀:Stmt}:PS X s₀ (tS X.K Xw (exec g .stop)):=by
 intro pins s σ H D I h
 obtain⟨ι,st,loc,S,L,P⟩:=h
 rw[exec] at P
 exact False.elim P
theorem xk:PS X (.Return none pos) (tS X.K Xw (exec g .ret0)):=
 vj.imp fun D σ H hp=>by
  obtain⟨ι,st,loc,S,L,P⟩:=hp
  rw[exec] at P
  exact P H ι .non (Ext.refl _ _ _) S .non
theorem By{e':Ex}(hk:lT e=false)(hm:∃n sc N,cE T n sc N e=some e')(he:PE X e (tE X.K (run g e'))):PS X (.Expr e pos) (tS X.K Xw (exec g (.ex e'))):=by
 obtain⟨n,sc',N',hm⟩:=hm
 have hs:swapsWith e none pos.line X.env=pure false:=by
  cases n with
  |zero=>cases hm
  |succ n=>cases e<;>first|rfl|(cases hm;done)|cases hk
 refine(iM he hs).imp fun D σ H hp=>?_
 obtain⟨ι,st,loc,S,L,P⟩:=hp
 rw[exec] at P
 obtain⟨d,st1,e1,P⟩:=aJ P
 exact aZ S L e1 fun H1 ι1 v E1 S1 r1=>P H1 ι1 σ E1 S1 (L.ext E1)
theorem zM{o' e':Ex}{m:Str}(hm:jq m=true)(hl:(ap.endLine==cp.line)=true)(hst:starEach [e] X.env=[(false,eval e X.env)])(hb:attributeBase o m X.env (eval o X.env)=eval o X.env)(ho:PE X o (tE X.K (run g o')))(he:PE X e (tE X.K (run g e'))):
  PS X (.Expr (.Call (.Attribute o m ap) [e] [] cp) pos) (tS X.K Xw (exec g (.app o' e'))):=by
 have hm:m= "append":=by simpa[jq] using hm
 subst hm
 refine(iM (wD PySem.F.plainAttrs_list PySem.F.slot_list_append PySem.F.type_list_append hV ho (bC he c_ hst) hb (by rw[hst];rfl) hl hst rfl)).imp fun D σ H hp=>?_
 obtain⟨ι,st,loc,S,L,P⟩:=hp
 rw[exec] at P
 obtain⟨x,st1,e1,P⟩:=aJ P
 obtain⟨u0,st0,e0,P⟩:=aJ P
 obtain⟨d,st2,e2,P⟩:=aJ P
 obtain⟨u,st3,e3,P⟩:=aJ P
 have sz:sizeLine=16777216:=sizeLine_eq
 unfold append at e3
 split at e3
 ·rename_i n z1 z0
  split at e3
  ·rename_i xs q
   split at e3
   ·rename_i hz
    cases e3
    simp only[il] at e0
    split at e0
    ·rename_i zs q0
     cases e0
     refine aZ S L e1 fun H1 ι1 vx E1 S1 r1=>?_
     cases r1 with
     |ref hn=>
      obtain⟨ws,w1,_⟩:=S1.ob _ _ q0
      refine⟨.inl ⟨rfl,ws,du.of w1⟩,aZ S1 (L.ext E1) e2 fun H2 ι2 v E2 S2 r2=>?_⟩
      obtain⟨vs,g1,g2⟩:=S2.ob _ _ q
      have l:=g2.length
      have rr:=g2.append (.cons r2 .nil)
      obtain⟨E4,S4⟩:=S2.write q rr
      rw[E2.ad n hn] at g1 E4 S4
      refine⟨_,_,_,rfl,rfl,g1,by omega,?_⟩
      have E5:=E1.trans E2
      have E4':Ext H2 (bj H2 (ι1 n) (.lst (vs++[v]))) ι2 ι2 st2.length (st2.set n (O.lst (xs++[d]))).length:=by rw[aE];exact E4
      exact P _ ι2 σ (E5.trans E4') S4 ((L.ext E5).ext E4')
    ·cases e0
   ·cases e3
  ·cases e3
 ·cases e3
theorem zL{e':Ex}(hN:X.N.Nodup)(hi:X.N[i]? =some x)(hx:L2.Loc X.env.scope x)(hf:X.fn x=true)(he:PE X e (tE X.K (run g e'))):
  PS X (.AugAssign (.Name x p) .Add e pos) (tS X.K Xw (exec g (.aug i e'))):=by
 refine(xH hN hi hx he yk (.inl hf)).imp fun D σ H hp=>?_
 obtain⟨ι,st,loc,S,L,P⟩:=hp
 rw[exec] at P
 obtain⟨a,st0,e0,P⟩:=aJ P
 obtain⟨y,st1,e1,P⟩:=aJ P
 obtain⟨z,st2,e2,P⟩:=aJ P
 rw[run] at e0
 unfold dX at e0
 split at e0
 ·rename_i d hd
  cases e0
  have hd':loc[i]? =some (some a):=by
   cases q:loc[i]? with
   |none=>rw[q] at hd;cases hd
   |some o=>rw[q] at hd;cases o with
    |none=>cases hd
    |some w=>cases hd;rfl
  obtain⟨v,hv,r⟩:=L.at_ i _ hd'
  refine⟨v,hv,aZ S L e1 fun H1 ι1 w E1 S1 r1=>?_⟩
  unfold tR at e2
  split at e2
  ·cases e2
   cases r
   cases r1
   exact⟨_,_,rfl,rfl,P _ ι1 _ E1 S1 ((L.ext E1).set i (.int _))⟩
  ·cases e2
 ·cases e0
theorem zJ{o' e':Ex}{m:Str}(hm:jp m=true)(hl:(ap.endLine==cp.line)=true)(hst:starEach [e] X.env=[(false,eval e X.env)])(hb:attributeBase o m X.env (eval o X.env)=eval o X.env)(ho:PE X o (tE X.K (run g o')))(he:PE X e (tE X.K (run g e'))):
  PS X (.Expr (.Call (.Attribute o m ap) [e] [] cp) pos) (tS X.K Xw (exec g (.ext o' e'))):=by
 have hm:m= "extend":=by simpa[jp] using hm
 subst hm
 refine(iM (wD PySem.F.plainAttrs_list PySem.F.slot_list_extend PySem.F.type_list_extend nZ ho (bC he c_ hst) hb (by rw[hst];rfl) hl hst rfl)).imp fun D σ H hp=>?_
 obtain⟨ι,st,loc,S,L,P⟩:=hp
 rw[exec] at P
 obtain⟨x,st1,e1,P⟩:=aJ P
 obtain⟨u0,st0,e0,P⟩:=aJ P
 obtain⟨d,st2,e2,P⟩:=aJ P
 obtain⟨u,st3,e3,P⟩:=aJ P
 have sz:sizeLine=16777216:=sizeLine_eq
 cases x with
 |ref n=>
  simp only[il] at e0
  split at e0
  ·rename_i zs q0
   cases e0
   refine aZ S L e1 fun H1 ι1 vx E1 S1 r1=>?_
   cases r1 with
   |ref hn=>
    obtain⟨ws,w1,_⟩:=S1.ob _ _ q0
    refine⟨.inl ⟨rfl,ws,du.of w1⟩,aZ S1 (L.ext E1) e2 fun H2 ι2 v E2 S2 r2=>?_⟩
    have E5:=E1.trans E2
    unfold extend at e3
    split at e3
    ·rename_i n1 m1 zz1
     cases zz1
     split at e3
     ·rename_i xs ys q qm
      split at e3
      ·rename_i hz
       cases e3
       cases r2 with
       |ref hm2=>
        obtain⟨vs,g1,g2⟩:=S2.ob _ _ q
        obtain⟨us,k1,k2⟩:=S2.ob _ _ qm
        have l:=g2.length
        have l2:=k2.length
        obtain⟨E4,S4⟩:=S2.write q (g2.append k2)
        rw[E2.ad n hn] at g1 E4 S4
        refine⟨_,_,_,_,rfl,rfl,g1,.inl k1,by omega,?_⟩
        have E4':Ext H2 (bj H2 (ι1 n) (.lst (vs++us))) ι2 ι2 st2.length (st2.set n (O.lst (xs++ys))).length:=by rw[aE];exact E4
        exact P _ ι2 σ (E5.trans E4') S4 ((L.ext E5).ext E4')
      ·cases e3
     ·cases e3
    ·cases e3
  ·cases e0
 |_=>cases e0
theorem Bx{c:Expr}{a b:List Stmt}{c':Ex}{a' b':List S}(hc:PT X c (tT X.K (run g c')))(ha:PSs X a (tS X.K Xw (execs g a')))(hb:PSs X b (tS X.K Xw (execs g b'))):PS X (.If c a b pos) (tS X.K Xw (exec g (.ite c' a' b'))):=
 (zX hc ha hb).imp fun D σ H hp=>by
  obtain⟨ι,st,loc,S,L,P⟩:=hp
  rw[exec] at P
  obtain⟨x,st1,e1,P⟩:=aJ P
  obtain⟨i,st2,e2,P⟩:=aJ P
  obtain⟨e3,rfl⟩:=bw e2
  have:=bT e3
  subst this
  refine i9 S L e1 fun H1 ι1 E1 S1=>?_
  cases i with
  |true=>rw[if_pos rfl];exact⟨ι1,st2,loc,S1,L.ext E1,P.mono E1⟩
  |false=>rw[if_neg aq];exact⟨ι1,st2,loc,S1,L.ext E1,P.mono E1⟩
theorem xm:PS X (.Pass pos) (tS X.K Xw (exec g .pass)):=
 vm.imp fun D σ H hp=>by
  obtain⟨ι,st,loc,S,L,P⟩:=hp
  rw[exec] at P
  exact P H ι σ (Ext.refl _ _ _) S L
theorem xb{c:Expr}{body:List Stmt}{c':Ex}{b':List S}(hp:PassesOwn (model X.prog X.w) X.A X.env X.xe)(hc:PT X c (tT X.K (run g c')))(hb:PSs X body (tS X.K Xw (execs g b'))):PS X (.While c body [] pos) (tS X.K Xw (exec g (.whil c' b'))):=by
 refine(rX hp hc hb).imp fun D σ H hp=>?_
 obtain⟨ι,st,loc,S,L,P⟩:=hp
 rw[exec] at P
 refine⟨fun m σ2 H2=>∃ι2 st2 loc2,Ext H H2 ι ι2 st.length st2.length∧Sim X.K H2 ι2 st2∧LRel X.K H2 ι2 st2.length loc2 σ2∧c6 X.K Xw H ι st (gj (run g c') (execs g b') m loc2 st2) D,⟨yp,ι,st,loc,Ext.refl _ _ _,S,L,P⟩,?_⟩
 rintro m σ2 H2 ⟨ι2,st2,loc2,E2,S2,L2',P2⟩
 cases m with
 |zero=>exact P2.elim
 |succ m=>
  rw[gj] at P2
  obtain⟨x,st3,e3,P3⟩:=aJ P2
  obtain⟨b,st4,e4,P4⟩:=aJ P3
  obtain⟨e5,rfl⟩:=bw e4
  have:=bT e5
  subst this
  refine i9 S2 L2' e3 fun H3 ι3 E3 S3=>?_
  cases b with
  |false=>
   rw[if_neg aq]
   exact P4 H3 ι3 σ2 (E2.trans E3) S3 (L2'.ext E3)
  |true=>
   rw[if_pos rfl]
   refine⟨fun σ4 H4=>∃ι4 st5 loc5,Ext H H4 ι ι4 st.length st5.length∧Sim X.K H4 ι4 st5∧LRel X.K H4 ι4 st5.length loc5 σ4∧c6 X.K Xw H ι st (gj (run g c') (execs g b') m loc5 st5) D,fun σ' H' q=>⟨m,aB _,q⟩,?_⟩
   rw[if_pos rfl] at P4
   obtain⟨r,st6,e6,P6⟩:=aJ P4
   refine⟨ι3,st4,loc2,S3,L2'.ext E3,?_⟩
   rw[e6]
   cases r with
   |nx loc3=>exact fun H4 ι4 σ4 E4 S4 L4=>⟨ι4,st6,loc3,(E2.trans E3).trans E4,S4,L4,P6⟩
   |rt d=>exact fun H4 ι4 w E4 S4 r4=>P6 H4 ι4 w ((E2.trans E3).trans E4) S4 r4
   |ex n l=>exact fun H4 ι4 σ4 E4 S4 L4=>P6 H4 ι4 σ4 ((E2.trans E3).trans E4) S4 L4
noncomputable def l4:List Nat→t7
 |[]=>qk
 |i::is=>gf (dm i) (l4 is)
theorem ji(C:Ctx T g X sc N)(hfn:∀y,X.fn y=true):∀{ts:List Expr}{is:List Nat},rc sc N ts=some is→yT X ts (l4 is)∧(assignEach ts X.env).length=is.length∧(assignEach ts X.env).findIdx? (·.1)=none
 |[],is,h=>by cases h;exact⟨lK,rfl,rfl⟩
 |t::r,is,h=>by
  obtain⟨x,hx,h⟩:=bs h
  obtain⟨hl,h⟩:=eS h
  obtain⟨i,hi,h⟩:=bs h
  obtain⟨is',hr,rfl⟩:=map_some h
  obtain⟨px,rfl⟩:=dg hx
  obtain⟨h1,h2,h3⟩:=ji C hfn hr
  refine⟨fF (eR (i:=i) (by rw[C.n];exact C.nd) (by rw[C.n];exact bX hi) (fK C hl) (.inl (hfn x))) h1 rfl,?_,?_⟩
  ·show(assignEach r X.env).length+1=is'.length+1
   rw[h2]
  ·show(((false,assign (.Name x px) X.env)::assignEach r X.env).findIdx? (·.1))=none
   rw[List.findIdx?_cons,h3];rfl
theorem mK{K:al}{H:Hp}{ι:Nat→Addr}{m:Nat}{Q:L2.St→Hp→Prop}:∀{is:List Nat}{ds:List D}{vs:List V}{loc:Loc}{σ:L2.St},VRels K H ι m ds vs→ds.length=is.length→LRel K H ι m loc σ→(∀σ',LRel K H ι m (jW is ds loc) σ'→Q σ' H)→l4 is vs σ H Q
 |[],_,_,_,_,.nil,_,L,k=>⟨rfl,k _ L⟩
 |i::is,_,_,_,_,.cons (v:=v) (vs:=vs) h t,hl,L,k=>⟨v,vs,rfl,mK t (by simpa using hl) (L.set i h) k⟩
 |[],_,_,_,_,.cons _ _,hl,_,_=>by simp at hl
 |_::_,_,_,_,_,.nil,hl,_,_=>by simp at hl
theorem l5{s:Src}{st st0:aQ}{H0:Hp}{loc:Loc}{D:Ends}{b':List S}
  (F:cG X.K J s H ι st.length)(E0:Ext H0 H ι0 ι st0.length st.length)(Sm:Sim X.K H ι st)(L:LRel X.K H ι st.length loc σ)(P:c6 X.K Xw H0 ι0 st0 (gq (fun x loc'=>execs g b' (loc'.set i (some x))) s loc st) D):
  ∃W:Nat→Nat→L2.St→Hp→Prop,(∃m,W 0 m σ H)∧∀k m σ H,W k m σ H→
   (J.stop k H∧D.nx σ H)∨(J.go k H∧∃Nn:L2.St→Hp→Prop,(∀σ' H',Nn σ' H'→∃m',m'<m∧W (k+1) m' σ' H')∧∀x H',J.yld k H x H'→dm i x σ H' fun σ2 H2=>tS X.K Xw (execs g b') {D with nx:=Nn,ct:=Nn,bk:=D.nx} σ2 H2):=by
 refine⟨fun k m σ2 H2=>∃ι2 st2 loc2,Ext H H2 ι ι2 st.length st2.length∧Sim X.K H2 ι2 st2∧LRel X.K H2 ι2 st2.length loc2 σ2∧c6 X.K Xw H0 ι0 st0 (f8 (fun x loc'=>execs g b' (loc'.set i (some x))) s m k loc2 st2) D,⟨ej s st+1,ι,st,loc,Ext.refl _ _ _,Sm,L,P⟩,?_⟩
 rintro k m σ2 H2 ⟨ι2,st2,loc2,E2,S2,L2',P2⟩
 obtain⟨c1,c2⟩:=F H2 ι2 st2 k E2 S2
 cases m with
 |zero=>exact P2.elim
 |succ m=>
  simp only[f8] at P2
  cases en:gm s k st2 with
  |none=>rw[en] at P2;exact P2.elim
  |some ox=>
   rw[en] at P2
   cases ox with
   |none=>exact .inl ⟨c1 en,P2 H2 ι2 σ2 (E0.trans E2) S2 L2'⟩
   |some x=>
    obtain⟨hgo,hyl⟩:=c2 x en
    refine .inr ⟨hgo,fun σ3 H3=>∃ι3 st3 loc3,Ext H H3 ι ι3 st.length st3.length∧Sim X.K H3 ι3 st3∧LRel X.K H3 ι3 st3.length loc3 σ3∧c6 X.K Xw H0 ι0 st0 (f8 (fun x loc'=>execs g b' (loc'.set i (some x))) s m (k+1) loc3 st3) D,fun σ' H' q=>⟨m,aB _,q⟩,fun v H' y=>?_⟩
    obtain⟨rfl,rv⟩:=hyl v H' y
    obtain⟨r,st3,e3,P3⟩:=aJ P2
    refine⟨ι2,st2,loc2.set i (some x),S2,L2'.set i rv,?_⟩
    rw[e3]
    cases r with
    |nx loc3=>exact fun H3 ι3 σ3 E3 S3 L3=>⟨ι3,st3,loc3,E2.trans E3,S3,L3,P3⟩
    |rt d=>exact fun H3 ι3 w E3 S3 r3=>P3 H3 ι3 w ((E0.trans E2).trans E3) S3 r3
    |ex n l=>exact fun H3 ι3 σ3 E3 S3 L3=>P3 H3 ι3 σ3 ((E0.trans E2).trans E3) S3 L3
theorem iQ{f:D→Loc→M Fl}{loc:Loc}(n:Nat)(st:aQ)(h:∀xs,st[n]?≠some (.lst xs)):gq f (.at n) loc st=.bad:=by
 unfold gq
 simp only[f8,pq h]
theorem gJ{s:Src}{st st0:aQ}{H0:Hp}{loc:Loc}{D:Ends}{b':List S}
  (F:dC X.K J s H ι st.length)(E0:Ext H0 H ι0 ι st0.length st.length)(Sm:Sim X.K H ι st)(L:LRel X.K H ι st.length loc σ)(P:c6 X.K Xw H0 ι0 st0 (gq (fun x loc'=>aW (items? is.length x) fun ds=>execs g b' (jW is ds loc')) s loc st) D):
  ∃W:Nat→Nat→L2.St→Hp→Prop,(∃m,W 0 m σ H)∧∀k m σ H,W k m σ H→
   (J.stop k H∧D.nx σ H)∨(J.go k H∧∃Nn:L2.St→Hp→Prop,(∀σ' H',Nn σ' H'→∃m',m'<m∧W (k+1) m' σ' H')∧∀x H',J.yld k H x H'→Aq X.K is.length (l4 is) x σ H' fun σ2 H2=>tS X.K Xw (execs g b') {D with nx:=Nn,ct:=Nn,bk:=D.nx} σ2 H2):=by
 refine⟨fun k m σ2 H2=>∃ι2 st2 loc2,Ext H H2 ι ι2 st.length st2.length∧Sim X.K H2 ι2 st2∧LRel X.K H2 ι2 st2.length loc2 σ2∧c6 X.K Xw H0 ι0 st0 (f8 (fun x loc'=>aW (items? is.length x) fun ds=>execs g b' (jW is ds loc')) s m k loc2 st2) D,⟨ej s st+1,ι,st,loc,Ext.refl _ _ _,Sm,L,P⟩,?_⟩
 rintro k m σ2 H2 ⟨ι2,st2,loc2,E2,S2,L2',P2⟩
 obtain⟨c1,c2⟩:=F H2 ι2 st2 k E2 S2
 cases m with
 |zero=>exact P2.elim
 |succ m=>
  simp only[f8] at P2
  cases en:gm s k st2 with
  |none=>rw[en] at P2;exact P2.elim
  |some ox=>
   rw[en] at P2
   cases ox with
   |none=>exact .inl ⟨c1 en,P2 H2 ι2 σ2 (E0.trans E2) S2 L2'⟩
   |some x=>
    obtain⟨hgo,hyl⟩:=c2 x en
    refine .inr ⟨hgo,fun σ3 H3=>∃ι3 st3 loc3,Ext H H3 ι ι3 st.length st3.length∧Sim X.K H3 ι3 st3∧LRel X.K H3 ι3 st3.length loc3 σ3∧c6 X.K Xw H0 ι0 st0 (f8 (fun x loc'=>aW (items? is.length x) fun ds=>execs g b' (jW is ds loc')) s m (k+1) loc3 st3) D,fun σ' H' q=>⟨m,aB _,q⟩,fun v H' y=>?_⟩
    obtain⟨EH,SH,rv⟩:=hyl v H' y
    have EH2:=E2.trans EH
    have L3':=L2'.ext EH
    obtain⟨r,st3,e3,P3⟩:=aJ P2
    unfold items? at e3
    cases es:cJ st2 x with
    |none=>simp only[aW,es] at e3;cases e3
    |some xs=>
     by_cases hl:xs.length=is.length
     ·have e4:execs g b' (jW is xs loc2) st2=.ok r st3:=by
       simp only[aW,es,if_pos hl] at e3
       exact e3
      obtain⟨a,vs,rfl,hq,rw'⟩:=rv.seq SH es
      refine⟨a,vs,rfl,hq,by rw[←rw'.length];exact hl,mK rw' hl L3' fun σ' L'=>⟨ι2,st2,jW is xs loc2,SH,L',?_⟩⟩
      rw[e4]
      cases r with
      |nx loc3=>exact fun H3 ι3 σ3 E3 S3 L3=>⟨ι3,st3,loc3,EH2.trans E3,S3,L3,P3⟩
      |rt d=>exact fun H3 ι3 w E3 S3 r3=>P3 H3 ι3 w ((E0.trans EH2).trans E3) S3 r3
      |ex n l=>exact fun H3 ι3 σ3 E3 S3 L3=>P3 H3 ι3 σ3 ((E0.trans EH2).trans E3) S3 L3
     ·simp only[aW,es,if_neg hl] at e3
      cases e3
theorem mX{f:D→Loc→M Fl}{loc:Loc}(n:Nat)(st:aQ)(h:∀xs,st[n]?≠some (.lst xs)):gq f (.en n) loc st=.bad:=by
 have hb:gm (.en n) 0 st=none:=by
  simp only[gm]
 unfold gq
 simp only[f8,hb]
theorem xq(hp:PassesOwn (model X.prog X.w) X.A X.env X.xe)(C:Ctx T g X sc N)(hcm:T.calm=true){ts:List Expr}{body:List Stmt}{a':Ex}{b':List S}{p3:Pos}(hfn:∀y,X.fn y=true)(ht:rc sc N ts=some is)(hg:aV sc "enumerate"=true)(hst:starEach [a] X.env=[(false,eval a X.env)])(ha:PE X a (tE X.K (run g a')))(hb:PSs X body (tS X.K Xw (execs g b'))):
  PS X (.For (.Tuple ts tk p2) (.Call (.Name "enumerate" p3) [a] [] p4) body [] pos) (tS X.K Xw (exec g (.forE is a' b'))):=by
 obtain⟨h1,h2,h3⟩:=ji C hfn ht
 refine(lI hp (C.calm hcm) (mF (d8 C hg) (C.blt _ (by decide+kernel)) (bC ha c_ hst) hst) (se (C.calm hcm) h1 h2 h3) hb (fun _=>rfl)).imp fun D σ H hp=>?_
 obtain⟨ι,st,loc,S,L,P⟩:=hp
 rw[exec] at P
 obtain⟨d,st1,e1,P⟩:=aJ P
 obtain⟨s,st2,e2,P⟩:=aJ P
 obtain⟨e3,rfl⟩:=bw e2
 refine aZ S L e1 fun H1 ι1 v E1 S1 r1=>?_
 have r1':=r1
 cases r1 with
 |tup h r=>cases e3;exact⟨_,rfl,.inr ⟨⟨_,h⟩,gJ (dC.enT r1') E1 S1 (L.ext E1) P⟩⟩
 | @ref n hn=>
  cases e3
  cases q:st2[n]? with
  |none=>
   rw[mX n st2 (fun xs z=>by rw[q] at z;cases z)] at P
   exact P.elim
  |some o=>
   cases o with
   |lst xs=>
    obtain⟨vs,h1,_⟩:=S1.ob n _ q
    exact⟨_,rfl,.inl ⟨⟨vs,du.of h1⟩,gJ (dC.en hn) E1 S1 (L.ext E1) P⟩⟩
   |_=>
    rw[mX n st2 (fun xs z=>by rw[q] at z;cases z)] at P
    exact P.elim
 |_=>cases e3
theorem zI(hp:PassesOwn (model X.prog X.w) X.A X.env X.xe)(C:Ctx T g X sc N)(hcm:T.calm=true){body:List Stmt}{a':Ex}{b':List S}(hx:isLocal sc x=true)(hfn:∀y,X.fn y=true)(hi:dS N x=some i)(ha:PE X it (tE X.K (run g a')))(hf:∀v,foldedSetIterable it X.env v=pure v)(hb:PSs X body (tS X.K Xw (execs g b'))):
  PS X (.For (.Name x p2) it body [] pos) (tS X.K Xw (exec g (.for_ i false a' b'))):=by
 refine(lI hp (C.calm hcm) (lJ ha) (eR (i:=i) (by rw[C.n];exact C.nd) (by rw[C.n];exact bX hi) (fK C hx) (.inl (hfn x))) hb hf).imp fun D σ H hp=>?_
 obtain⟨ι,st,loc,S,L,P⟩:=hp
 rw[exec] at P
 obtain⟨d,st1,e1,P⟩:=aJ P
 obtain⟨s,st2,e2,P⟩:=aJ P
 obtain⟨e3,rfl⟩:=bw e2
 refine aZ S L e1 fun H1 ι1 v E1 S1 r1=>?_
 cases r1 with
 |tup h r=>cases e3;exact⟨_,rfl,.inr ⟨⟨_,h⟩,l5 (cG.tup h r) E1 S1 (L.ext E1) P⟩⟩
 |fl h r=>cases e3;exact⟨_,rfl,.inl ⟨⟨_,h.sql⟩,l5 (cG.fl h r) E1 S1 (L.ext E1) P⟩⟩
 | @ref n hn=>
  cases e3
  cases q:st2[n]? with
  |none=>
   rw[iQ n st2 (fun xs z=>by rw[q] at z;cases z)] at P
   exact P.elim
  |some o=>
   cases o with
   |lst xs=>
    obtain⟨vs,h1,_⟩:=S1.ob n _ q
    exact⟨_,rfl,.inl ⟨⟨vs,du.of h1⟩,l5 (cG.ref hn) E1 S1 (L.ext E1) P⟩⟩
   |_=>
    rw[iQ n st2 (fun xs z=>by rw[q] at z;cases z)] at P
    exact P.elim
 |_=>cases e3
theorem xo(hp:PassesOwn (model X.prog X.w) X.A X.env X.xe)(C:Ctx T g X sc N)(hcm:T.calm=true){ts:List Expr}{body:List Stmt}{a':Ex}{b':List S}(hfn:∀y,X.fn y=true)(ht:rc sc N ts=some is)(ha:PE X it (tE X.K (run g a')))(hf:∀v,foldedSetIterable it X.env v=pure v)(hb:PSs X body (tS X.K Xw (execs g b'))):
  PS X (.For (.Tuple ts tk p2) it body [] pos) (tS X.K Xw (exec g (.forU is a' b'))):=by
 obtain⟨h1,h2,h3⟩:=ji C hfn ht
 refine(lI hp (C.calm hcm) (lJ ha) (se (C.calm hcm) h1 h2 h3) hb hf).imp fun D σ H hp=>?_
 obtain⟨ι,st,loc,S,L,P⟩:=hp
 rw[exec] at P
 obtain⟨d,st1,e1,P⟩:=aJ P
 obtain⟨s,st2,e2,P⟩:=aJ P
 obtain⟨e3,rfl⟩:=bw e2
 refine aZ S L e1 fun H1 ι1 v E1 S1 r1=>?_
 cases r1 with
 |tup h r=>cases e3;exact⟨_,rfl,.inr ⟨⟨_,h⟩,gJ (cG.toG (cG.tup h r)) E1 S1 (L.ext E1) P⟩⟩
 |fl h r=>cases e3;exact⟨_,rfl,.inl ⟨⟨_,h.sql⟩,gJ (cG.toG (cG.fl h r)) E1 S1 (L.ext E1) P⟩⟩
 | @ref n hn=>
  cases e3
  cases q:st2[n]? with
  |none=>
   rw[iQ n st2 (fun xs z=>by rw[q] at z;cases z)] at P
   exact P.elim
  |some o=>
   cases o with
   |lst xs=>
    obtain⟨vs,h1,_⟩:=S1.ob n _ q
    exact⟨_,rfl,.inl ⟨⟨vs,du.of h1⟩,gJ (cG.toG (cG.ref hn)) E1 S1 (L.ext E1) P⟩⟩
   |_=>
    rw[iQ n st2 (fun xs z=>by rw[q] at z;cases z)] at P
    exact P.elim
 |_=>cases e3
theorem xp(hp:PassesOwn (model X.prog X.w) X.A X.env X.xe)(C:Ctx T g X sc N)(hcm:T.calm=true){body:List Stmt}{a':Ex}{b':List S}(hx:isLocal sc x=true)(hfn:∀y,X.fn y=true)(hi:dS N x=some i)(hg:aV sc "range"=true)(hst:starEach [a] X.env=[(false,eval a X.env)])(ha:PE X a (tE X.K (run g a')))(hb:PSs X body (tS X.K Xw (execs g b'))):
  PS X (.For (.Name x p2) (.Call (.Name "range" p3) [a] [] p4) body [] pos) (tS X.K Xw (exec g (.for_ i true a' b'))):=by
 have hgl:Gl X "range":=by
  show X.env.scope.names.lookup _=some .globalImplicit
  rw[C.sc]
  simpa[aV] using hg
 refine(lI hp (C.calm hcm) (kq hgl (C.blt _ (by decide+kernel)) (bC ha c_ hst) hst) (eR (i:=i) (by rw[C.n];exact C.nd) (by rw[C.n];exact bX hi) (fK C hx) (.inl (hfn x))) hb).imp fun D σ H hp=>?_
 obtain⟨ι,st,loc,S,L,P⟩:=hp
 rw[exec] at P
 obtain⟨d,st1,e1,P⟩:=aJ P
 obtain⟨s,st2,e2,P⟩:=aJ P
 obtain⟨e3,rfl⟩:=bw e2
 refine aZ S L e1 fun H1 ι1 v E1 S1 r1=>?_
 cases r1 with
 |int j=>
  simp only[c8] at e3
  split at e3
  ·rename_i hj
   cases e3
   exact⟨j,rfl,by omega,by omega,l5 cG.rng E1 S1 (L.ext E1) P⟩
  ·cases e3
 |_=>cases e3
end
theorem Sim.put{K:al}{st:aQ}(S:Sim K H ι st){o o':O}{ho:HO}(e:st[n]? =some o)(new:nz K (bj H (ι n) ho) ι st.length (ι n) o'):
  Ext H (bj H (ι n) ho) ι ι st.length st.length∧Sim K (bj H (ι n) ho) ι (st.set n o'):=by
 obtain⟨u,h1,nt,nf⟩:=(S.ob n o e).there
 have hn:n<st.length:=(aH e).1
 have E:Ext H (bj H (ι n) ho) ι ι st.length st.length:=by
  refine⟨⟨af _,fun _ _=>rfl,fun b zs q=>?_,fun b ob w q=>?_⟩,fun b ob q k=>⟨by rw[av (k n hn).symm];exact q,k⟩⟩
  ·rw[av (dR q h1 (fun z=>nt _ z.symm))];exact q
  ·rw[av (dR q h1 (fun z=>nf _ _ z.symm))];exact q
 refine⟨E,fun i j hi hj=>S.inj i j (by simpa using hi) (by simpa using hj),fun k ob q=>?_⟩
 rw[aE]
 by_cases hk:k=n
 ·subst hk
  rw[aN hn] at q
  cases q
  exact new
 ·rw[aL (Ne.symm hk)] at q
  have hk':k<st.length:=(aH q).1
  exact(S.ob k ob q).move E.toExt0 (av fun z=>hk (S.inj k n hk' hn z))
theorem LRel.unset{K:al}{loc:Loc}(L:LRel K H ι m loc σ)(j:Nat):LRel K H ι m (loc.set j none) (σ.set j none):=
 ⟨by simp[L.len],fun i e h=>by
  by_cases hj:j=i
  ·subst hj
   by_cases hl:j<loc.length
   ·rw[aN hl] at h;cases h
   ·rw[bq (by simpa using hl)] at h;cases h
  ·rw[aL hj] at h
   obtain⟨w,h1,h2⟩:=L.at_ i e h
   exact⟨w,by rw[aL hj];exact h1,h2⟩⟩
section
variable{T:Tab}{g:cY}{X:Cx}{sc:Scope}{N:List Str}{pos p2:Pos}{Xw:Addr→L2.St→Hp→Prop}
noncomputable def tX(X:Cx)(Xw:Addr→L2.St→Hp→Prop)(m:Loc→M Rs):TE:=fun σ H Q=>∃ι st loc,Sim X.K H ι st∧LRel X.K H ι st.length loc σ∧dB X.K (fun v _ H2=>∃a,v=.ref a∧Xw a σ H2) H ι st (m loc st) Q
theorem wb{as:List Expr}{xs:List Ex}(C:Ctx T g X sc N)(hx:dW X Xw)(hg:aV sc f=true)(hi:dS T.fns f=some i)(ha:PA X (a::as) (tA X.K (runs g xs)))
  (he:starEach (a::as) X.env=(false,eval a X.env)::starEach as X.env)(hpl:(backTo pos (starEach as X.env)).any (·.1)=false):PE X (.Call (.Name f p2) (a::as) [] pos) (tX X Xw fun loc=>aW (runs g xs loc) fun ds=>g i ds):=by
 obtain⟨hd,ad,fd,ps,k,hm,kp,hb,hr,har,F⟩:=C.fns i f (bX hi)
 refine(so F hr (d8 C hg) hm kp hb hx ha hd he hpl).imp fun σ H Q hp=>?_
 obtain⟨ι,st,loc,S,L,P⟩:=hp
 unfold aW at P
 dsimp only at P
 cases e1:runs g xs loc st with
 |bad=>rw[e1] at P;exact P.elim
 |ok ds st1=>
  rw[e1] at P
  refine f_ S L e1 fun H1 ι1 vs E1 S1 r1=>⟨?_,ι1,st1,ds,S1,r1,P.mono E1⟩
  by_cases hps:ds.length=ps.length
  ·rw[←r1.length];exact hps
  ·have P2:dB X.K _ H ι st (g i ds st1) Q:=P
   rw[har ds st1 hps] at P2;exact P2.elim
theorem nq{k:Tg}{xs:List Ex}{st:aQ}{loc:Loc}{D:Ends}(L:LRel X.K H ι st.length loc σ)(P:c6 X.K Xw H ι st (exec g (.callx k i xs) loc st) D)
  (hQ:∀d v H' ι' st',Ext H H' ι ι' st.length st'.length→Sim X.K H' ι' st'→VRel X.K H' ι' st'.length d v→c6 X.K Xw H' ι' st' (As k d loc st') D→Q v H'):
  dB X.K (fun v _ H2=>∃a,v=.ref a∧Xw a σ H2) H ι st (aW (runs g xs loc) (fun ds=>g i ds) st) Q:=by
 rw[exec] at P
 obtain⟨ds,st1,e1,P⟩:=aJ P
 obtain⟨r,st2,e2,P⟩:=aJ P
 unfold aW
 rw[e1]
 show dB X.K _ H ι st (g i ds st1) Q
 rw[e2]
 cases r with
 |v d=>exact fun H' ι' v E' S' r'=>hQ d v H' ι' st2 E' S' r' (c6.mono P E')
 |x n=>exact fun H' ι' E' S'=>⟨_,rfl,P H' ι' σ E' S' (L.ext E')⟩
theorem rK{xs:List Ex}(he:PE X e (tX X Xw fun loc=>aW (runs g xs loc) fun ds=>g i ds))(hs:swapsWith e none pos.line X.env=pure false):PS X (.Expr e pos) (tS X.K Xw (exec g (.callx .no i xs))):=
 (iM he hs).imp fun D σ H ⟨ι,st,loc,S,L,P⟩=>⟨ι,st,loc,S,L,nq L P fun d v H' ι' st' E' S' r' P'=>P' H' ι' σ (Ext.refl _ _ _) S' (L.ext E')⟩
theorem rJ{xs:List Ex}(hN:X.N.Nodup)(hj:X.N[j]? =some x)(hl:L2.Loc X.env.scope x)(hf:X.fn x=true)(he:PE X e (tX X Xw fun loc=>aW (runs g xs loc) fun ds=>g i ds))(hs:swapsWith e (some (.Name x p2)) pos.line X.env=pure false):
  PS X (.Assign [.Name x p2] e pos) (tS X.K Xw (exec g (.callx (.set j) i xs))):=
 (lH hN hj hl he hs (.inl hf)).imp fun D σ H ⟨ι,st,loc,S,L,P⟩=>⟨ι,st,loc,S,L,nq L P fun d v H' ι' st' E' S' r' P'=>P' H' ι' _ (Ext.refl _ _ _) S' ((L.ext E').set j r')⟩
theorem o8{xs:List Ex}{C0:Addr}{ps:List Str}{st:aQ}{loc:Loc}{Dn:Ends}(hn:PySem.W.nsIn X.K mainGlobals x=some (some (.ref C0)))(har:∀ds st,ds.length≠ps.length→g j ds st=R.bad)(hz:xs.length≤900)
  (S:Sim X.K H ι st)(L:LRel X.K H ι st.length loc σ)(P:c6 X.K Xw H ι st (exec g (.rais x j xs) loc st) Dn):rf X C0 (wA X.K ps.length (g j)) Xw (tA X.K (runs g xs)) Dn σ H:=by
 rw[exec] at P
 obtain⟨ds,st1,e1,P⟩:=aJ P
 obtain⟨n,st2,e2,P⟩:=aJ P
 refine f_ S L e1 fun H1 ι1 vs E1 S1 r1=>?_
 have lds:ds.length=xs.length:=by
  have:∀(es:List Ex)(a b:aQ)(zs:List D),runs g es loc a=.ok zs b→zs.length=es.length:=by
   intro es
   induction es with
   |nil=>intro a b zs h;rw[runs] at h;cases h;rfl
   |cons e es ih=>
    intro a b zs h
    rw[runs] at h
    unfold aW at h
    cases q:run g e loc a with
    |bad=>rw[q] at h;cases h
    |ok d c=>
     rw[q] at h
     simp only[aW] at h
     cases q2:runs g es loc c with
     |bad=>rw[q2] at h;cases h
     |ok ds2 c2=>rw[q2] at h;cases h;simp[ih _ _ _ q2]
  exact this xs st st1 ds e1
 refine⟨by rw[←r1.length,lds];exact aI hz (by decide),fun p hp hzp=>?_⟩
 have E0x:∀ι',(∀m,m<st1.length→ι' m=ι1 m)→Ext0 H1 (bj H1 p (bS p C0 none false)) ι1 ι' st1.length (st1.length+1):=fun ι' h1=>⟨Nat.le_succ _,h1,fun b xs e=>by rw[av (au e hp)];exact e,fun b ob u e=>by rw[av (au e hp)];exact e⟩
 obtain⟨ι2,E2,hι,S2⟩:=S1.laid hp (ho:=bS p C0 none false) (o:= .err x none false) (fun ι' h1 h2=>⟨C0,hn,ba,fun j e=>by cases e⟩)
 have l:(st1++[O.err x none false]).length=st1.length+1:=by simp
 have E2':Ext H1 (bj H1 p (bS p C0 none false)) ι1 ι2 st1.length (st1++[O.err x none false]).length:=by rw[l];exact E2
 have rp:VRel X.K (bj H1 p (bS p C0 none false)) ι2 (st1++[O.err x none false]).length (.ref st1.length) (.ref p):=by
  rw[←hι,l]
  exact .ref (aB _)
 have rr:VRels X.K (bj H1 p (bS p C0 none false)) ι2 (st1++[O.err x none false]).length (.ref st1.length::ds) (.ref p::vs):= .cons rp (r1.ext E2')
 unfold jj aW at e2
 dsimp only at e2
 cases e3:g j (.ref st1.length::ds) (st1++[.err x none false]) with
 |bad=>rw[e3] at e2;cases e2
 |ok r st3=>
  rw[e3] at e2
  cases r with
  |x m=>cases e2
  |v d=>
   cases d with
   |non=>
    dsimp only at e2
    split at e2
    ·rename_i c dd q
     split at e2
     ·rename_i hc
      subst hc
      cases e2
      refine⟨?_,ι2,_,_,S2,rr,?_⟩
      ·rw[←rr.length]
       by_cases w:(D.ref st1.length::ds).length=ps.length
       ·exact w
       ·rw[har _ _ w] at e3;cases e3
      ·rw[e3]
       intro H' ι' v E' S' rv
       cases rv
       refine⟨rfl,?_⟩
       have hp':ι' st1.length=p:=(E'.ad _ (by rw[l];exact aB _)).trans hι
       obtain⟨C1,n1,h1,h2⟩:=S'.ob _ _ q
       rw[hn] at n1
       cases n1
       have ob:=S'.put (ho:=bS (ι' st1.length) C0 (dd.map ι') true) (o':= .err c dd true) q ⟨C0,hn,ba,h2⟩
       refine⟨p,dd.map ι',rfl,hzp,by rw[←hp'];exact h1,?_⟩
       have lz:(st3.set st1.length (O.err c dd true)).length=st3.length:=aE
       have E5:Ext H (bj H' (ι' st1.length) (bS (ι' st1.length) C0 (dd.map ι') true)) ι ι' st.length (st3.set st1.length (O.err c dd true)).length:=by
        rw[lz]
        exact((E1.trans E2').trans E').trans ob.1
       have z:=P _ ι' σ E5 ob.2 (L.ext E5)
       rw[hp'] at z
       exact z
     ·cases e2
    ·cases e2
   |_=>cases e2
theorem xl{as:List Expr}{xs:List Ex}(C:Ctx T g X sc N)(hx:dW X Xw)(hg:aV sc x=true)(hi:T.ini.lookup x=some j)(ha:PA X (a::as) (tA X.K (runs g xs)))(hz:xs.length≤900)
  (he:starEach (a::as) X.env=(false,eval a X.env)::starEach as X.env)(hpl:(backTo cp (starEach as X.env)).any (·.1)=false):PS X (.Raise (some (.Call (.Name x p) (a::as) [] cp)) none pos) (tS X.K Xw (exec g (.rais x j xs))):=by
 obtain⟨hd,C0,ad,fd,ps,k,hn,hm,mk,mb,kp,hin,hfn,hb,hr,har,F⟩:=C.ini x j (aw hi)
 exact(rY mk mb kp hin hfn F hr (d8 C hg) hm hb hx ha hd he hpl).imp fun D σ H ⟨ι,st,loc,S,L,P⟩=>o8 hn har hz S L P
theorem uT(C:Ctx T g X sc N)(hx:dW X Xw)(hg:aV sc x=true)(hi:T.ini.lookup x=some j):PS X (.Raise (some (.Call (.Name x p) [] [] cp)) none pos) (tS X.K Xw (exec g (.rais x j []))):=by
 obtain⟨hd,C0,ad,fd,ps,k,hn,hm,mk,mb,kp,hin,hfn,hb,hr,har,F⟩:=C.ini x j (aw hi)
 refine(p6 mk mb kp hin hfn F hr (d8 C hg) hm hb hx hd).imp fun D σ H hp=>?_
 obtain⟨ι,st,loc,S,L,P⟩:=hp
 obtain⟨ι2,st2,loc2,S2,L2',P2⟩:=o8 (ps:=ps) hn har (Nat.zero_le _) S L P
 rw[runs] at P2
 exact P2 H ι2 [] (Ext.refl _ _ _) S2 .nil
theorem sL{fs:List (Str×D)}{d:D}{st:aQ}(C:Ctx T g X sc N)(S:Sim X.K H ι st)(q:st[n]? =some (.ins c fs))(hc:c∈T.ics f)(hl:fs.length<900)(r:VRel X.K H ι st.length d v):
  ∃C0 dx vs,H (ι n)=some (.ins C0 dx vs)∧Cls X.K C0∧ez X.K C0 f∧vs.length<1000∧Ext H (bj H (ι n) (.ins C0 dx (cK f v vs))) ι ι st.length (st.set n (O.ins c (putD f d fs))).length∧Sim X.K (bj H (ι n) (.ins C0 dx (cK f v vs))) ι (st.set n (.ins c (putD f d fs))):=by
 obtain⟨ic,hi,rfl,hf⟩:=lO hc
 obtain⟨C0,n0,cl,na,_⟩:=C.icl ic hi
 obtain⟨C1,dx,vs,n1,h1,h2,h3⟩:=S.ob n _ q
 rw[n0] at n1
 cases n1
 have lw:=h2.length
 have X0:Ext0 H (bj H (ι n) (.ins C0 dx (cK f v vs))) ι ι st.length st.length:=by
  refine⟨af _,fun _ _=>rfl,fun b zs z=>?_,fun b ob w z=>?_⟩
  ·rw[av (dR z h1 (by intro y;cases y))];exact z
  ·rw[av (dR z h1 (by intro y;cases y))];exact z
 have lp:(putD f d fs).length≤900:=by
  have:=dZ f v vs
  have:=(h2.put (f:=f) r).length
  omega
 obtain⟨E4,S4⟩:=S.put (ho:= .ins C0 dx (cK f v vs)) (o':= .ins ic.x (putD f d fs)) q ⟨C0,dx,cK f v vs,n0,ba,(h2.put r).ext0 X0,lp⟩
 exact⟨C0,dx,vs,h1,cl,na f hf,by omega,by rw[aE];exact E4,S4⟩
theorem xh{o' e':Ex}(C:Ctx T g X sc N)(hn:vQ e=true)(ho:PE X o (tE X.K (run g o')))(he:PE X e (tE X.K (run g e'))):PS X (.Assign [.Attribute o f p2] e pos) (tS X.K Xw (exec g (.setf o' f e' (T.ecs f) (T.ics f)))):=by
 refine((vn ho he (by cases e<;>first|rfl|cases hn)).or (xG ho he (by cases e<;>first|rfl|cases hn))).imp fun D σ H hp=>?_
 obtain⟨ι,st,loc,S,L,P⟩:=hp
 rw[exec] at P
 obtain⟨d,st1,e1,P⟩:=aJ P
 obtain⟨x,st2,e2,P⟩:=aJ P
 obtain⟨u,st3,e3,P⟩:=aJ P
 unfold fE at e3
 cases x with
 |ref n=>
  dsimp only at e3
  split at e3
  ·rename_i c fs q
   split at e3
   ·rename_i hc
    cases e3
    refine .inr (aZ S L e1 fun H1 ι1 v E1 S1 r1=>aZ S1 (L.ext E1) e2 fun H2 ι2 vx E2 S2 r2=>?_)
    have E12:=E1.trans E2
    cases r2 with
    |ref hnn=>
     obtain⟨C0,dx,vs,h1,cl,na,lz,E4,S4⟩:=sL C S2 q hc.2 hc.1 (r1.ext E2)
     exact⟨_,C0,dx,vs,rfl,h1,cl,na,lz,P _ ι2 σ (E12.trans E4) S4 (L.ext (E12.trans E4))⟩
   ·cases e3
  ·rename_i c t q
   split at e3
   ·rename_i hc
    cases e3
    refine .inl (aZ S L e1 fun H1 ι1 v E1 S1 r1=>aZ S1 (L.ext E1) e2 fun H2 ι2 vx E2 S2 r2=>?_)
    have r1':=r1.ext E2
    have E12:=E1.trans E2
    cases r2 with
    |ref hnn=>
     obtain⟨hf,anc,hp⟩:=lP hc
     obtain⟨C0,n0,ec,fl,_⟩:=C.cls c anc hp
     obtain⟨C1,n1,h1,h2⟩:=S2.ob n _ q
     rw[n0] at n1
     cases n1
     refine⟨_,C0,t,rfl,ec,fl f hf,.inl ⟨h1,fun dx hdx hne=>?_⟩⟩
     obtain⟨ι3,E3,hι,S3⟩:=S2.laid hdx (ho:=k_ dx [(f,v)]) (o:= .edc [(f,d)]) (fun ι' k1 k2=>⟨[(f,v)],ba,.cons (VRel.ext0 ⟨Nat.le_succ _,k1,fun b xs e=>by rw[av (au e hdx)];exact e,fun b ob u e=>by rw[av (au e hdx)];exact e⟩ r1') .nil,by simp⟩)
     have hnl:n<st2.length:=(aH q).1
     have l:(st2++[O.edc [(f,d)]]).length=st2.length+1:=by simp
     have hιn:ι3 n=ι2 n:=E3.ad n hnl
     have q3:(st2++[O.edc [(f,d)]])[n]? =some (.err c none t):=by rw[aM hnl];exact q
     obtain⟨E4,S4⟩:=S3.put (ho:=bS (ι3 n) C0 (some dx) t) (o':= .err c (some st2.length) t) q3 ⟨C0,n0,by rw[ba,Option.map_some,hι],fun j e=>by cases e;rw[l];exact aB _⟩
     have es:(st2++[O.edc [(f,d)]]).set n (.err c (some st2.length) t)=st2.set n (.err c (some st2.length) t)++[O.edc [(f,d)]]:=by rw[aS _ _ hnl]
     have l2:(st2.set n (O.err c (some st2.length) t)++[O.edc [(f,d)]]).length=(st2++[O.edc [(f,d)]]).length:=by simp
     rw[es] at S4
     have E5:Ext H (bj (bj H2 dx (k_ dx [(f,v)])) (ι3 n) (bS (ι3 n) C0 (some dx) t)) ι ι3 st.length (st2.set n (O.err c (some st2.length) t)++[O.edc [(f,d)]]).length:=by
      rw[l2]
      refine E12.trans (Ext.trans ?_ E4)
      rw[l];exact E3
     have z:=P _ ι3 σ E5 S4 (L.ext E5)
     rw[hιn] at z
     exact z
   ·cases e3
  ·rename_i c m t q
   split at e3
   ·rename_i fs q2
    split at e3
    ·rename_i hc
     cases e3
     refine .inl (aZ S L e1 fun H1 ι1 v E1 S1 r1=>aZ S1 (L.ext E1) e2 fun H2 ι2 vx E2 S2 r2=>?_)
     have r1':=r1.ext E2
     have E12:=E1.trans E2
     cases r2 with
     |ref hnn=>
      obtain⟨hf,anc,hp⟩:=lP hc.2
      obtain⟨C0,n0,ec,fl,_⟩:=C.cls c anc hp
      obtain⟨C1,n1,h1,h2⟩:=S2.ob n _ q
      rw[n0] at n1
      cases n1
      obtain⟨ws,g1,g2,g3⟩:=S2.ob m _ q2
      have hnm:ι2 m≠ι2 n:=fun z=>by
       have:=S2.inj m n (aH q2).1 (aH q).1 z
       subst this
       rw[q] at q2
       cases q2
      have lw:=g2.length
      have X0:Ext0 H2 (bj H2 (ι2 m) (k_ (ι2 m) (cK f v ws))) ι2 ι2 st2.length st2.length:=by
       obtain⟨u0,w1,nt,nf⟩:=(S2.ob m _ q2).there
       refine⟨af _,fun _ _=>rfl,fun b zs z=>?_,fun b ob w z=>?_⟩
       ·rw[av (dR z w1 (fun y=>nt _ y.symm))];exact z
       ·rw[av (dR z w1 (fun y=>nf _ _ y.symm))];exact z
      have lp:(putD f d fs).length≤900:=by
       have:=dZ f v ws
       have:=(g2.put (f:=f) r1').length
       omega
      obtain⟨E4,S4⟩:=S2.put (ho:=k_ (ι2 m) (cK f v ws)) (o':= .edc (putD f d fs)) q2 ⟨cK f v ws,ba,(g2.put r1').ext0 X0,lp⟩
      refine⟨_,C0,t,rfl,ec,fl f hf,.inr ⟨ι2 m,ws,h1,g1,hnm,by omega,?_⟩⟩
      have E5:Ext H (bj H2 (ι2 m) (k_ (ι2 m) (cK f v ws))) ι ι2 st.length (st2.set m (O.edc (putD f d fs))).length:=by rw[aE];exact E12.trans E4
      exact P _ ι2 σ E5 S4 (L.ext E5)
    ·cases e3
   ·cases e3
  ·cases e3
 |_=>cases e3
theorem xx{o' e':Ex}(C:Ctx T g X sc N)(ho:PE X o (tE X.K (run g o')))(he:PE X e (tE X.K (run g e'))):PS X (.AugAssign (.Attribute o f p2) .Add e pos) (tS X.K Xw (exec g (.augf o' f e' (T.ics f)))):=by
 refine(p7 ho he ym).imp fun D σ H hp=>?_
 obtain⟨ι,st,loc,S,L,P⟩:=hp
 rw[exec] at P
 obtain⟨x,st1,e1,P⟩:=aJ P
 obtain⟨y,st2,e2,P⟩:=aJ P
 obtain⟨c1,st6,e6,P⟩:=aJ P
 obtain⟨z,st3,e3,P⟩:=aJ P
 obtain⟨w,st4,e4,P⟩:=aJ P
 obtain⟨c2,st7,e7,P⟩:=aJ P
 split at P
 rotate_left
 ·exact P.elim
 rename_i hcc
 subst hcc
 obtain⟨u,st5,e5,P⟩:=aJ P
 unfold om at e2
 cases x with
 |ref n=>
  dsimp only at e2
  split at e2
  ·rename_i c fs q
   split at e2
   ·rename_i dd hl
    split at e2
    ·rename_i hc
     cases e2
     unfold qz at e6
     dsimp only at e6
     rw[q] at e6
     cases e6
     refine aZ S L e1 fun H1 ι1 vx E1 S1 r1=>?_
     cases r1 with
     |ref hn=>
      obtain⟨ic,hi,rfl,hf⟩:=lO hc
      obtain⟨C0,n0,cl,na,_⟩:=C.icl ic hi
      obtain⟨C1,dx,vs,n1,h1,h2,h3⟩:=S1.ob n _ q
      rw[n0] at n1
      cases n1
      obtain⟨v1,lv,rv⟩:=h2.look hl
      refine⟨_,C0,dx,vs,v1,rfl,h1,cl,na f hf,lv,aZ S1 (L.ext E1) e3 fun H3 ι3 v3 E3 S3 r3=>?_⟩
      unfold tR at e4
      split at e4
      ·cases e4
       unfold qz at e7
       dsimp only at e7
       have rv3:=rv.ext E3
       cases rv
       cases r3
       refine⟨_,_,rfl,rfl,?_⟩
       unfold fE at e5
       dsimp only at e5
       split at e5
       ·rename_i c2 fs2 q2
        split at e7
        rotate_left
        ·cases e7
        rename_i c3 fs3 q3
        cases e7
        rw[q3] at q2
        cases q2
        split at e5
        ·rename_i hc2
         cases e5
         obtain⟨C2,dx2,vs2,g1,g2,g3,g4,E5,S5⟩:=sL C S3 q3 hc2.2 hc2.1 (.int _)
         have e6:ι3 n=ι1 n:=E3.ad n hn
         have hCC:C2=C0:=by
          obtain⟨C4,dx4,vs4,n4,k4,_⟩:=S3.ob n _ q3
          rw[n0] at n4
          cases n4
          rw[g1] at k4
          cases k4
          rfl
         subst hCC
         rw[e6] at g1 E5 S5
         have E6:=(E1.trans E3).trans E5
         exact⟨dx2,vs2,g1,g4,P _ ι3 σ E6 S5 (L.ext E6)⟩
        ·cases e5
       ·split at e5
        ·rename_i hc2
         cases hc2
        ·cases e5
       ·split at e5
        ·split at e5
         ·rename_i hc2
          cases hc2.2
         ·cases e5
        ·cases e5
       ·cases e5
      ·cases e4
    ·cases e2
   ·cases e2
  ·split at e2
   ·split at e2
    ·split at e2
     ·rename_i hc
      cases hc
     ·cases e2
    ·cases e2
   ·cases e2
  ·cases e2
 |_=>cases e2
theorem xf{body suite:List Stmt}{b₀:Stmt}{n:Str}{pt hpo:Pos}{b' s':List S}(C:Ctx T g X sc N)(hfn:∀y,X.fn y=true)(hst:X.stack=X.env::X.outer∧X.env.frame=some X.env.locals)(hg:aV sc t=true)(ht:t∈T.cats)(hi:dS N n=some i)(hk:sc.names.lookup n=some .local)
  (hb:∀pins E Xw',PassesOwn (model X.prog X.w) X.A X.env E→dW (jK X pins E) Xw'→PSs (jK X pins E) body (tS X.K Xw' (execs g b')))(hs:∀a,PSs (eh X a) (b₀::suite) (tS X.K qE (execs g s'))):
  PS X (.Try body [.ExceptHandler (some (.Name t pt)) (some n) (b₀::suite) hpo] [] [] pos) (tS X.K Xw (exec g (.tryx b' (T.yes [t]) i s'))):=by
 obtain⟨hdb,D,n1,m1,ec⟩:=C.cats t ht
 refine(vi (tb:=fun Xw'=>tS X.K Xw' (execs g b')) (ts:=tS X.K qE (execs g s')) ec (d8 C hg) m1 hdb (by rw[C.n];exact C.nd) (by rw[C.n];exact bX hi) (by rw[C.sc];exact hk) (hfn n) hst hb hs).imp fun Dn σ H hp=>?_
 obtain⟨ι,st,loc,S,L,P⟩:=hp
 rw[exec] at P
 obtain⟨r,st1,e1,P⟩:=aJ P
 refine⟨ι,st,loc,S,L,?_⟩
 rw[e1]
 cases r with
 |nx l=>exact P
 |rt d=>exact P
 |ex m l=>
  intro H' ι' σ' E' S' L'
  dsimp only at P
  split at P
  ·rename_i x dd q
   split at P
   ·rename_i hy
    obtain⟨anc,m2,m3⟩:=pA hy
    obtain⟨C1,n2,ec2,_,kk,_⟩:=C.cls x anc m2
    obtain⟨C2,n3,h1,h2⟩:=S'.ob m _ q
    rw[n2] at n3
    cases n3
    have km:=(kk t ht D n1).2
    rw[show anc.contains t=true by simpa using m3] at km
    refine⟨⟨C1,_,h1,km⟩,ι',st1,l.set i (some (.ref m)),S',L'.set i (.ref (aH q).1),?_⟩
    obtain⟨r2,st4,e4,P⟩:=aJ P
    rw[e4]
    cases r2 with
    |nx l2=>exact fun H3 ι3 σ3 E3 S3 L3=>P H3 ι3 _ (E'.trans E3) S3 (L3.unset i)
    |rt d=>exact fun H3 ι3 v E3 S3 r3=>P H3 ι3 v (E'.trans E3) S3 r3
    |ex _ _=>exact P.elim
   ·exact P.elim
  ·exact P.elim
end
noncomputable abbrev jR(X:Cx):Prop:=X.stack=X.env::X.outer∧X.env.frame=some X.env.locals
noncomputable def SS(T:Tab)(g:cY)(n:Nat):Prop:=∀{X:Cx}{sc:Scope}{N:List Str}{s:Stmt}{s':S}{Xw:Addr→L2.St→Hp→Prop},Ctx T g X sc N→(∀y,X.fn y=true)→PassesOwn (model X.prog X.w) X.A X.env X.xe→jR X→dW X Xw→cS T n sc N s=some s'→PS X s (tS X.K Xw (exec g s'))
noncomputable def AS(T:Tab)(g:cY)(n:Nat):Prop:=∀{X:Cx}{sc:Scope}{N:List Str}{s:List Stmt}{s':List S}{Xw:Addr→L2.St→Hp→Prop},Ctx T g X sc N→(∀y,X.fn y=true)→PassesOwn (model X.prog X.w) X.A X.env X.xe→jR X→dW X Xw→t6 T n sc N s=some s'→PSs X s (tS X.K Xw (execs g s'))
noncomputable def B4(T:Tab)(g:cY)(n:Nat):Prop:=∀{X:Cx}{sc:Scope}{N:List Str}{s:Stmt}{s':S}{Xw:Addr→L2.St→Hp→Prop},Ctx T g X sc N→(∀y,X.fn y=true)→PassesOwn (model X.prog X.w) X.A X.env X.xe→jR X→dW X Xw→Cj T n sc N s=some s'→PS X s (tS X.K Xw (exec g s'))
theorem rl{T:Tab}{g:cY}(h1:SS T g n)(h2:AS T g n):AS T g (n+1):=by
 intro X sc N s s' Xw C hf hp hst hx h
 cases s with
 |nil=>
  cases h
  refine vh.imp fun D σ H hp=>?_
  obtain⟨ι,st,loc,S,L,P⟩:=hp
  rw[execs] at P
  exact P H ι σ (Ext.refl _ _ _) S L
 |cons a r=>
  obtain⟨r',er,rfl⟩:=map_some h
  have ea:PS X a (tS X.K Xw (exec g ((cS T n sc N a).getD .stop))):=by
   cases q:cS T n sc N a with
   |none=>exact rA
   |some a'=>exact h1 C hf hp hst hx q
  refine(rW ea (h2 C hf hp hst hx er)).imp fun D σ H hp=>?_
  obtain⟨ι,st,loc,S,L,P⟩:=hp
  rw[execs] at P
  obtain⟨f,st1,e1,P⟩:=aJ P
  refine⟨ι,st,loc,S,L,?_⟩
  rw[e1]
  cases f with
  |nx loc1=>exact fun H1 ι1 σ1 E1 S1 L1=>⟨ι1,st1,loc1,S1,L1,P.mono E1⟩
  |rt d=>exact P
  |ex n l=>exact P
theorem rh{T:Tab}{sc:Scope}{e':Ex}(hk:lT e=false)(hm:cE T n sc N e=some e')(o:Option Expr)(l:Nat)(env:Env)(ho:o=none∨∃x p,o=some (.Name x p)):swapsWith e o l env=pure false:=by
 cases n with
 |zero=>cases hm
 |succ n=>
  rcases ho with rfl|⟨x,p,rfl⟩
  ·cases e<;>first|rfl|(cases hm;done)|cases hk
  ·cases e<;>first|rfl|(cases hm;done)|cases hk
theorem wL{T:Tab}{g:cY}{sc:Scope}{k:Tg}{s':S}(C:Ctx T g X sc N)(hx:dW X Xw)(h:oB T n sc N k e=some s'):∃i xs,s'=.callx k i xs∧PE X e (tX X Xw fun loc=>aW (runs g xs loc) fun ds=>g i ds)∧(∀o l,(o=none∨∃x p,o=some (Expr.Name x p))→swapsWith e o l X.env=pure false)∧starEach [e] X.env=[(false,eval e X.env)]:=by
 obtain⟨⟨f,as⟩,hc,h⟩:=bs h
 obtain⟨⟨hg,hne⟩,h⟩:=eS h
 obtain⟨i,hi,h⟩:=bs h
 obtain⟨xs,hc2,rfl⟩:=map_some h
 obtain⟨p,cp,rfl⟩:=gR hc
 cases as with
 |nil=>exact absurd rfl hne
 |cons a as=>
  obtain⟨h1,h2,_,h3⟩:=(sound T g n).2.1 C hc2
  obtain⟨h4,h5⟩:=h3 _ _ rfl
  exact⟨i,xs,rfl,wb C hx hg hi h1 h4 (h5 _),fun o l ho=>by rcases ho with rfl|⟨_,_,rfl⟩<;>rfl,rfl⟩
theorem uF{T:Tab}{g:cY}{sc:Scope}{xs:List Ex}(C:Ctx T g X sc N)(hx:dW X Xw)(hg:aV sc x=true)(hj:T.ini.lookup x=some j)(hc:nC T n sc N args=some xs)(hz:args.length≤900):
  PS X (.Raise (some (.Call (.Name x p) args [] cp)) none pos) (tS X.K Xw (exec g (.rais x j xs))):=by
 obtain⟨h1,h2,_,h3⟩:=(sound T g n).2.1 C hc
 cases args with
 |nil=>
  have e:xs=[]:=List.length_eq_zero_iff.mp h2.symm
  subst e
  exact uT C hx hg hj
 |cons a as=>
  obtain⟨h4,h5⟩:=h3 _ _ rfl
  exact xl C hx hg hj h1 (by rw[←h2];exact hz) h4 (h5 _)
theorem uE{T:Tab}{g:cY}{sc:Scope}{s:Stmt}{s':S}(C:Ctx T g X sc N)(hf:∀y,X.fn y=true)(hx:dW X Xw)(h:cX T n sc N s=some s'):PS X s (tS X.K Xw (exec g s')):=by
 have hN:X.N.Nodup:=by rw[C.n];exact C.nd
 cases s with
 |Expr e _=>
  obtain⟨i,xs,rfl,pe,sw,_⟩:=wL C hx h
  exact rK pe (sw _ _ (.inl rfl))
 |Assign ts e _=>
  obtain⟨t,h1,h⟩:=bs h
  obtain⟨x,h2,h⟩:=bs h
  obtain⟨hl,h⟩:=eS h
  obtain⟨j,hj,h⟩:=bs h
  obtain⟨i,xs,rfl,pe,sw,st⟩:=wL C hx h
  cases cw h1
  obtain⟨_,rfl⟩:=dg h2
  exact rJ hN (by rw[C.n];exact bX hj) (fK C hl) (hf _) pe (sw _ _ (.inr ⟨_,_,rfl⟩))
 |Raise o c _=>
  cases c with
  |some=>cases h
  |none=>
   obtain⟨e,rfl,h⟩:=bs h
   obtain⟨⟨x,args⟩,h1,h⟩:=bs h
   obtain⟨⟨hg,hz⟩,h⟩:=eS h
   obtain⟨j,hj,h⟩:=bs h
   obtain⟨xs,hc,rfl⟩:=map_some h
   obtain⟨p,q,rfl⟩:=gR h1
   exact uF C hx hg hj hc hz
 |_=>cases h
theorem qx{T:Tab}{g:cY}{sc:Scope}(C:Ctx T g X sc N)(a:Addr):Ctx T.suite g (eh X a) sc N:=
 ⟨C.sc,C.n,C.nd,C.nm,(fun z=>by cases z),C.un,(fun i f z=>by simp[Tab.suite] at z),C.csts,C.blt,C.cats,C.cls,(fun x j z=>by simp[Tab.suite] at z),(fun c z=>by simp[Tab.suite] at z),C.icats,(fun x j z=>by simp[Tab.suite] at z),(fun x m j z=>by simp[Tab.suite] at z),C.gds,C.catn⟩
theorem we{T:Tab}{g:cY}{sc:Scope}(C:Ctx T g X sc N)(pins:List (Addr×Obj))(E:Value→Shared→Prop):Ctx T g (jK X pins E) sc N:=
 ⟨C.sc,C.n,C.nd,C.nm,C.calm,C.un,C.fns,C.csts,C.blt,C.cats,C.cls,C.ini,C.icl,C.icats,C.mks,C.ums,C.gds,C.catn⟩
theorem uG{T:Tab}{g:cY}(h0:B4 T g n):SS T g (n+1):=by
 intro X sc N s s' Xw C hf hp hst hx h
 rcases lN h with⟨r,hr,h⟩|⟨_,h⟩
 ·cases h
  exact uE C hf hx (eS hr).2
 ·exact h0 C hf hp hst hx h
theorem vd{T:Tab}{g:cY}(h2:AS T g n)(h3:AS T.suite g n):B4 T g (n+1):=by
 intro X sc N s s' Xw C hf hp hst hx h
 have snd:=sound T g n
 have he:=fun{e:Expr}{e':Ex}(q:cE T n sc N e=some e')=>snd.1 C q
 cases s with
 |Assign ts e _=>
  obtain⟨t,ht,h⟩:=bs h
  cases cw ht
  clear ht
  cases t with
  |Name x px=>
   obtain⟨hl,h⟩:=eS h
   obtain⟨i,hi,h⟩:=bs h
   obtain⟨e',hee,rfl⟩:=map_some h
   have k1:X.N[i]? =some x:=by rw[C.n];exact bX hi
   by_cases hk:lT e=true
   ·cases e with
    |ListComp elt gens scope pos=>
     cases n with
     |zero=>cases hee
     |succ m=>
      exact pN (sound T g m).1 (sound T g m).2.2.1 C hee (fun y py it ifs e hcm hc hd=>by cases e;exact(gi.ps C hcm hc hd k1 (fK C hl) (.inl (hf _))).imp fun D σ H q=>nR q) fun y1 y2 p1 p2 k pt it ifs e hcm hc hd=>by cases e;exact(eB.ps C hcm hc hd k1 (fK C hl) (.inl (hf _))).imp fun D σ H q=>nR q
    |_=>cases hk
   ·exact(lH (by rw[C.n];exact C.nd) k1 (fK C hl) (he hee).1 (rh (by simpa using hk) hee _ _ _ (.inr ⟨_,_,rfl⟩)) (.inl (hf _))).imp fun D σ H q=>nR q
  |Subscript o i _=>
   obtain⟨hp',h⟩:=eS h
   obtain⟨o',a1,h⟩:=bs h
   obtain⟨i',a2,h⟩:=bs h
   obtain⟨e',a3,rfl⟩:=map_some h
   exact uS (by have:=C.un;omega) hp'.1 hp'.2 (he a1).1 (he a2).1 (he a3).1
  |Attribute o f _=>
   obtain⟨hnc,h⟩:=eS h
   obtain⟨o',a1,h⟩:=bs h
   obtain⟨e',a2,rfl⟩:=map_some h
   exact xh C hnc (he a1).1 (he a2).1
  |_=>cases h
 |Return o _=>
  cases o with
  |none=>cases h;exact xk
  |some e=>
   cases h
   cases q:cE T n sc N e with
   |none=>exact rA
   |some e'=>exact zw (he q).1
 |Expr e _=>
  rcases lN h with⟨z,hq,h⟩|⟨_,h⟩
  ·obtain⟨o',a1,h⟩:=bs h
   obtain⟨e',a2,rfl⟩:=map_some h
   obtain⟨m,ap,cp,rfl,hm⟩:=nw hq
   simp only[Bool.and_eq_true] at hm
   exact zM hm.1.1 hm.1.2 (cq a2 [] _) (gT hm.2 _ _) (he a1).1 (he a2).1
  rcases lN h with⟨z,hq,h⟩|⟨_,h⟩
  ·obtain⟨o',a1,h⟩:=bs h
   obtain⟨e',a2,rfl⟩:=map_some h
   obtain⟨m,ap,cp,rfl,hm⟩:=nw hq
   simp only[Bool.and_eq_true] at hm
   exact zJ hm.1.1 hm.1.2 (cq a2 [] _) (gT hm.2 _ _) (he a1).1 (he a2).1
  ·obtain⟨hk,h⟩:=eS h
   obtain⟨e',q,rfl⟩:=map_some h
   exact By (T:=T) hk ⟨n,sc,N,q⟩ (he q).1
 |AugAssign t op e _=>
  cases t with
  |Name x _=>
   cases op with
   |Add=>
    obtain⟨hl,h⟩:=eS h
    obtain⟨i,hi,h⟩:=bs h
    obtain⟨e',q,rfl⟩:=map_some h
    exact zL (by rw[C.n];exact C.nd) (by rw[C.n];exact bX hi) (fK C hl) (hf _) (he q).1
   |_=>cases h
  |Attribute o f _=>
   cases op with
   |Add=>
    obtain⟨o',a1,h⟩:=bs h
    obtain⟨e',a2,rfl⟩:=map_some h
    exact xx C (he a1).1 (he a2).1
   |_=>cases h
  |_=>cases h
 |If c a b _=>
  obtain⟨c',a1,h⟩:=bs h
  obtain⟨a',a2,h⟩:=bs h
  obtain⟨b',a3,rfl⟩:=map_some h
  exact Bx (he a1).2 (h2 C hf hp hst hx a2) (h2 C hf hp hst hx a3)
 |For t it body els _=>
  cases els with
  |cons=>cases h
  |nil=>
   cases t with
   |Name x _=>
    obtain⟨hl,h⟩:=eS h
    obtain⟨i,hi,h⟩:=bs h
    obtain⟨b',hb,h⟩:=bs h
    rcases lN h with⟨a,ha,h⟩|⟨_,h⟩
    ·obtain⟨a',q,rfl⟩:=map_some h
     obtain⟨hg,_,_,rfl⟩:=rP ha
     exact xp hp C hl.2 hl.1 hf hi hg (cq q [] _) (he q).1 (h2 C hf hp hst hx hb)
    ·obtain⟨a',q,rfl⟩:=map_some h
     exact zI hp C hl.2 hl.1 hf hi (he q).1 (iT q _) (h2 C hf hp hst hx hb)
   |Tuple ts _ _=>
    obtain⟨hcm,h⟩:=eS h
    obtain⟨is,ht,h⟩:=bs h
    obtain⟨b',hb,h⟩:=bs h
    rcases lN h with⟨a,hen,h⟩|⟨_,h⟩
    ·obtain⟨a',q,rfl⟩:=map_some h
     obtain⟨hg,_,_,rfl⟩:=kI hen
     exact xq hp C hcm hf ht hg (cq q [] _) (he q).1 (h2 C hf hp hst hx hb)
    ·obtain⟨a',q,rfl⟩:=map_some h
     exact xo hp C hcm hf ht (he q).1 (iT q _) (h2 C hf hp hst hx hb)
   |_=>cases h
 |While c body els _=>
  cases els with
  |cons=>cases h
  |nil=>
   obtain⟨c',hc,h⟩:=bs h
   obtain⟨b',hb,rfl⟩:=map_some h
   exact xb hp (he hc).2 (h2 C hf hp hst hx hb)
 |Pass=>cases h;exact xm
 |Try body hs els fin _=>
  cases els with
  |cons=>cases h
  |nil=>
   cases fin with
   |cons=>cases h
   |nil=>
    obtain⟨u,hh,h⟩:=bs h
    obtain⟨p,he1,h⟩:=bs h
    obtain⟨⟨hk,hcm⟩,h⟩:=eS h
    obtain⟨i,hi,h⟩:=bs h
    obtain⟨b',hb,h⟩:=bs h
    obtain⟨s1,hs1,rfl⟩:=map_some h
    cases cw hh
    obtain⟨_,_,rfl⟩:=vX he1
    simp only[Bool.and_eq_true] at hk
    exact xf C hf hst hk.1.1 (List.contains_iff_mem.mp hk.1.2) hi (by simpa using hk.2) (fun pins E Xw' hpo hxe=>h2 (we C pins E) hf hpo hst hxe hb) (fun a=>h3 (qx C a) hf PassesOwn.never hst dW.no hs1)
 |_=>cases h
theorem g9(g:cY):∀n T,SS T g n∧AS T g n∧B4 T g n
 |0,T=>⟨fun C hf hp hst hx h=>(by cases h),fun C hf hp hst hx h=>(by cases h),fun C hf hp hst hx h=>(by cases h)⟩
 |n+1,T=>⟨uG (g9 g n T).2.2,rl (g9 g n T).1 (g9 g n T).2.1,vd (g9 g n T).2.1 (g9 g n T.suite).2.1⟩
structure Rec where
 name:Str
 fname:Str
 qual:Str
 ps:List Str
 N:List Str
 st:Stmt
 fn:Fn
 rz:Bool
structure Chk(T:Tab)(r:Rec):Prop where
 sc:FnScope r.N r.ps (bG r.st)
 nm:∀x∈r.N,(x==("__debug__":Str))=false∧(x==("__classdict__":Str))=false
 cc:t6 {T with rz:=r.rz} 100 (bG r.st) r.N (dM r.st)=some r.fn.body
 ar:r.fn.ar=r.ps.length
 nl:r.fn.nl=r.N.length
structure Lnk(K:al)(r:Rec)(a:Addr)(fd:FuncData):Prop where
 f:Fun K r.fname r.qual r.st a fd
 b:Binds K fd r.ps []
theorem Cv{K:al}{st:Stmt}{f:Addr}{fd:FuncData}{ps:List Str}{k:Nat}(F:Fun K x qual st f fd)(S:FnScope N ps (bG st))(len:∀vs H Q E,sp vs H Q E→vs.length=ps.length)
  (hbody:∀(cdv:Value)(A:Around)(outer:List Env)(s:Shared)(H:Hp)(vs:List V)(Q:VK)(E:XK),Room k (A.deeper (envOfC qual (bG st) s.heap.objs.size f cdv))→sp vs H Q E→
   ∃t,PSs (m_ (iU P w) P w K mg base N qual (bG st) f cdv A outer s H E) (dM st) t∧t {nx:=fun _ H'=>Q .non H',rt:=Q} (start N vs) H):FnOk P w K mg base (iU P w) (k+1) f fd ps sp:=by
 obtain⟨oc,od,kV,doc,pm,an,cdv,ct,osl,rfl,lk,hcd⟩:=F.ex
 exact Ar lk hcd S len fun A outer s H vs Q E hr hsp=>hbody cdv A outer s H vs Q E hr hsp
theorem eM{bc:List Rec}{T:Tab}{r:Rec}(hr:bc[i]? =some r)(hc:Chk T r):∀(n:Nat)(ds:List D)(st:aQ),ds.length≠r.ps.length→calls (bc.map (·.fn)) n i ds st=.bad
 |0,_,_,_=>rfl
 |n+1,ds,st,h=>by
  have e:(bc.map (·.fn))[i]? =some r.fn:=by rw[aR,hr];rfl
  simp only[calls,e,nr]
  rw[if_neg (by rw[hc.ar];exact h)]
  rfl
theorem pW{K:al}{ds:List D}(r:VRels K H ι m ds vs)(N:List Str)(k:Nat)(hk:k=N.length):LRel K H ι m (ds.map some++List.replicate (k - ds.length) none) (L2.start N vs):=by
 have l:=r.length
 refine⟨by simp[L2.start,l,hk],fun i d e=>?_⟩
 by_cases hi:i<ds.length
 ·rw[aM (by simpa using hi),aR] at e
  cases q:ds[i]? with
  |none=>rw[q] at e;cases e
  |some d'=>
   rw[q] at e
   have e':d'=d:=by simpa using e
   subst e'
   obtain⟨v,hv,rv⟩:=r.get q
   refine⟨v,?_,rv⟩
   unfold L2.start
   rw[aM (by simpa[←l] using hi),aR,hv]
   rfl
 ·rw[aP (by simpa using hi),List.getElem?_replicate] at e
  split at e<;>cases e
structure Facts(P:Program)(w:World)(K:al)(mg:Str→Option Value)(T:Tab)(bc:List Rec):Prop where
 chk:∀r∈bc,Chk T r
 calm:T.calm=true
 fns:∀(i:Nat)(f:Str),T.fns[i]? =some f→(f==("__debug__":Str))=false∧∃r a fd,bc[i]? =some r∧Lnk K r a fd∧mg f=some (.ref a)
 csts:∀x d,T.csts.lookup x=some d→(x==("__debug__":Str))=false∧∃u v,mg x=some u∧RelV v u∧∀H ι m,VRel K H ι m d v
 blt:∀x∈qC,mg x=none
 cats:∀t,t∈T.cats→(t==("__debug__":Str))=false∧∃D,PySem.W.nsIn K mainGlobals t=some (some (.ref D))∧mg t=some (.ref D)∧ECat K D
 cls:∀x anc,(x,anc)∈T.cls→∃C,PySem.W.nsIn K mainGlobals x=some (some (.ref C))∧ECls K C∧(∀f∈T.flds,PySem.W.findIn K (.ref C) f=some none)∧
  (∀t∈T.cats,∀D,PySem.W.nsIn K mainGlobals t=some (some (.ref D))→PySem.W.kitOne K (.ref C) (.ref D)=some (anc.contains t)∧PySem.W.mroIn K C (.ref D)=some (anc.contains t))∧PySem.W.kitOne K (.ref C) (.type "ValueError")=some (anc.contains "ValueError")
 ini:∀(x:Str)(j:Nat),(x,j)∈T.ini→(x==("__debug__":Str))=false∧∃C r a fd,bc[j]? =some r∧Lnk K r a fd∧PySem.W.nsIn K mainGlobals x=some (some (.ref C))∧mg x=some (.ref C)∧EMk K C∧PySem.W.mroIn K C (.type "BaseException")=some true∧PySem.W.keepIn K (.ref C)=true∧
  PySem.W.findIn K (.ref C) "__init__"=some (some (.ref a))∧PySem.W.isFn K (.ref a)=true
 icl:∀c∈T.icl,∃C,PySem.W.nsIn K mainGlobals c.x=some (some (.ref C))∧Cls K C∧(∀f∈c.flds,ez K C f)∧(∀(m:Str)(j:Nat),(m,j)∈c.mts→∃r a fd,bc[j]? =some r∧Lnk K r a fd∧Meth K C m a)∧
  (PySem.W.findIn K (.ref C) "__class__"=some (some (.builtin "object.__class__"))∧PySem.W.specialIn K (.builtin "object.__class__") "__get__"=some (some (.builtin "getset_descriptor.__get__"))∧PySem.W.takesIn K (.builtin "object.__class__")=some true∧PySem.W.mroIn K C (.type "object")=some true)∧
  ∀t∈T.icats,∀D,PySem.W.nsIn K mainGlobals t=some (some (.ref D))→PySem.W.kitOne K (.ref C) (.ref D)=some (c.anc.contains t)
 icats:∀t,t∈T.icats→(t==("__debug__":Str))=false∧∃D,PySem.W.nsIn K mainGlobals t=some (some (.ref D))∧mg t=some (.ref D)
 mks:∀(x:Str)(j:Nat),(x,j)∈T.mks→(x==("__debug__":Str))=false∧∃C r a fd,bc[j]? =some r∧Lnk K r a fd∧PySem.W.nsIn K mainGlobals x=some (some (.ref C))∧mg x=some (.ref C)∧Mk K C a
 ums:∀(x m:Str)(j:Nat),(x,m,j)∈T.ums→(x==("__debug__":Str))=false∧∃C r a fd,bc[j]? =some r∧Lnk K r a fd∧mg x=some (.ref C)∧UMeth K C m a
 gds:∀x ks,T.gds.lookup x=some ks→(x==("__debug__":Str))=false∧∃a,mg x=some (.ref a)∧mi P w K a ks
 catn:PySem.W.kitOne K (.type "NoneType") (.type "ValueError")=some false∧∀t∈T.cats,∀D,PySem.W.nsIn K mainGlobals t=some (some (.ref D))→PySem.W.kitOne K (.type "NoneType") (.ref D)=some false
theorem fY{P:Program}{w:World}{K:al}{mg:Str→Option Value}{base:Heap}{T:Tab}{bc:List Rec}(Z:Facts P w K mg T bc):
  ∀(n i:Nat)(r:Rec)(a:Addr)(fd:FuncData),bc[i]? =some r→Lnk K r a fd→FnOk P w K mg base (iU P w) (2*n) a fd r.ps (wA K r.ps.length (calls (bc.map (·.fn)) n i))
 |0,i,r,a,fd,hr,L=>⟨fun vs H Q E h=>h.1,fun A outer s H args us vs Q E _ _ _ _ h=>by
   obtain⟨_,ι,st,ds,_,_,q⟩:=h
   exact False.elim q⟩
 |n+1,i,r,a,fd,hr,L=>by
  have c:=Z.chk r (am hr)
  refine Cv (k:=2*n+1) L.f c.sc (fun vs H Q E h=>h.1) (fun cdv A outer s H vs Q E hroom h=>?_)
  obtain⟨hlen,ι,st,ds,S,rv,q⟩:=h
  have un:=hroom.un
  have C:Ctx {T with rz:=r.rz} (calls (bc.map (·.fn)) n) (m_ (iU P w) P w K mg base r.N r.qual (bG r.st) a cdv A outer s H E) (bG r.st) r.N:=by
   refine⟨rfl,rfl,c.sc.nd,c.nm,fun _=>rfl,?_,fun j f hj=>?_,Z.csts,Z.blt,Z.cats,Z.cls,fun x j hj=>?_,fun c hc=>?_,Z.icats,fun x j hj=>?_,fun x m j hj=>?_,Z.gds,Z.catn⟩
   ·show(A.deeper _).units+100<cLine
    omega
   ·obtain⟨hd,r2,a2,fd2,hr2,L2',hm⟩:=Z.fns j f hj
    exact⟨hd,a2,fd2,r2.ps,2*n,hm,L2'.f.kp,L2'.b,hroom.mono (Nat.le_succ _),eM hr2 (Z.chk r2 (am hr2)) n,fY Z n j r2 a2 fd2 hr2 L2'⟩
   ·obtain⟨hd,C0,r2,a2,fd2,hr2,L2',q1,q2,q3,q4,q5,q6,q7⟩:=Z.ini x j hj
    exact⟨hd,C0,a2,fd2,r2.ps,2*n,q1,q2,q3,q4,q5,q6,q7,L2'.b,hroom,eM hr2 (Z.chk r2 (am hr2)) n,fY Z n j r2 a2 fd2 hr2 L2'⟩
   ·obtain⟨C0,q1,q2,q3,q4,q5,q6⟩:=Z.icl c hc
    refine⟨C0,q1,q2,q3,fun m j hj=>?_,q5,q6⟩
    obtain⟨r2,a2,fd2,hr2,L2',M⟩:=q4 m j hj
    exact⟨a2,fd2,r2.ps,2*n,M,L2'.b,hroom.mono (Nat.le_succ _),eM hr2 (Z.chk r2 (am hr2)) n,fY Z n j r2 a2 fd2 hr2 L2'⟩
   ·obtain⟨hd,C0,r2,a2,fd2,hr2,L2',q1,q2,q3⟩:=Z.mks x j hj
    exact⟨hd,C0,a2,fd2,r2.ps,2*n,q1,q2,q3,L2'.b,hroom,eM hr2 (Z.chk r2 (am hr2)) n,fY Z n j r2 a2 fd2 hr2 L2'⟩
   ·obtain⟨hd,C0,r2,a2,fd2,hr2,L2',q1,q2⟩:=Z.ums x m j hj
    exact⟨hd,C0,a2,fd2,r2.ps,2*n,q1,q2,L2'.b,hroom.mono (Nat.le_succ _),eM hr2 (Z.chk r2 (am hr2)) n,fY Z n j r2 a2 fd2 hr2 L2'⟩
  refine⟨_,(g9 _ 100 _).2.1 C (fun _=>rfl) PassesOwn.leaving ⟨rfl,rfl⟩ pS c.cc,ι,st,ds.map some++List.replicate (r.fn.nl - ds.length) none,S,pW rv _ _ c.nl,?_⟩
  have e:(bc.map (·.fn))[i]? =some r.fn:=by rw[aR,hr];rfl
  have hd:ds.length=r.fn.ar:=by rw[rv.length,hlen,c.ar]
  simp only[calls,e,nr] at q
  rw[if_pos hd] at q
  unfold aW at q
  cases e1:execs (calls (bc.map (·.fn)) n) r.fn.body (ds.map some++List.replicate (r.fn.nl - ds.length) none) st with
  |bad=>rw[e1] at q;exact q.elim
  |ok f st1=>
   rw[e1] at q
   cases f with
   |nx loc=>exact fun H1 ι1 σ1 E1 S1 L1=>q H1 ι1 .non E1 S1 .non
   |rt d=>exact q
   |ex m l=>exact fun H1 ι1 σ1 E1 S1 L1=>q H1 ι1 E1 S1
noncomputable def oZ(K:al):Sp:=fun vs H Q _=>∃(a:Addr)(ns:List Int),vs=[.ref a]∧du K H a (ns.map V.int)∧wo H∧ns.length≤63∧∀H',Q (.bl true) H'
theorem mR{K:al}{H:Hp}{ι:Nat→Addr}{m:Nat}:∀ns:List Int,VRels K H ι m (ns.map .int) (ns.map V.int)
 |[]=>.nil
 |n::ns=>.cons (.int n) (mR ns)
theorem yb{K:al}{a:Addr}{fd:FuncData}{f:List D→M Rs}(F:FnOk P w K mg base (iU P w) n a fd [x] (wA K 1 f))
  (h:∀ns:List Int,ns.length≤63→∃st',f [.fl (ns.map .int)] []=.ok (.v (.bl true)) st'):FnOk P w K mg base (iU P w) n a fd [x] (oZ K):=by
 refine F.imp fun vs H Q E hp=>?_
 obtain⟨a,ns,e,hS,hO,hl,q⟩:=hp
 subst e
 obtain⟨st',e⟩:=h ns hl
 refine⟨rfl,fun _=>0,[],[.fl (ns.map .int)],⟨fun i _ hi=>absurd hi (Nat.not_lt_zero _),fun i o e=>by simp at e⟩,.cons (.fl (xs:=ns.map V.int) ?_ (mR ns)) .nil,?_⟩
 ·rcases hS with(h|h)|h
  ·rcases hO a with z|⟨o,xs,z⟩
   ·rw[h] at z;cases z
   ·rw[h] at z;cases z
  ·exact .inl h
  ·exact .inr h
 ·rw[e]
  intro H' ι' v E' S' r
  cases r
  exact q H'
theorem walk{l:PySem.W.OpenLaw}{q:Program}{loose:List Str}{XP:(Str→Option Value)→Heap→Prop}{YP:World→Heap→Prop}{d:DefRec}{K:Params→al}(hn:l.most=some 63)(hdf:d.params.defaults=[])(hr:Room n callerA)
  (hY:∀(w:World)(h:Heap),YP w h→(K w.params).In h)
  (F:∀(w:World)(mg:Str→Option Value)(fa:Addr)(h:Heap),(K w.params).In h→h.Ns mainGlobals mg→mg d.name=some (.ref fa)→
   ∃fd:FuncData,(∀(s:Shared)(u:Value),BindsTo s fd ⟨[u],[]⟩ [(x,u)])∧∀base:Heap,(K w.params).In base→base.Ns mainGlobals mg→FnOk l.prog w (K w.params) mg base (iU l.prog w) n fa fd [x] (oZ (K w.params))):
  PySem.W.WalkO q loose XP YP l.row.toRowW d [] (fun f vs=>PySem.call f vs):=
 L2.ud (n:=63) (k:=n) (x:=x) (CX:=fun w=>iU l.prog w) (sp:=fun w=>oZ (K w.params)) hn (by decide) hdf hr hY F (fun _ _ a ns hl hO hS=>⟨a,ns,rfl,hS,hO,hl,fun _=>rfl⟩) fun _ _ _ _ _ ⟨_,_,_,_,_,_,_,_,_,_,_,_,z⟩=>z
set_option maxHeartbeats 4000000
noncomputable def j0(o:Option (Option Value))(s:String):Bool:=match o with
 |some (some (.builtin t))=>t==s
 |_=>false
theorem d6{o:Option (Option Value)}{s:String}(h:j0 o s=true):o=some (some (.builtin s)):=by
 unfold j0 at h
 split at h
 ·rename_i t
  have:t=s:=by simpa using h
  rw[this]
 ·cases h
noncomputable def qh(o:Option (Option Value)):Bool:=match o with
 |some none=>true
 |_=>false
theorem iP{o:Option (Option Value)}(h:qh o=true):o=some none:=by
 unfold qh at h
 split at h
 ·rfl
 ·cases h
noncomputable def oa(o:Option Bool)(b:Bool):Bool:=match o with
 |some c=>c==b
 |_=>false
theorem db{o:Option Bool}{b:Bool}(h:oa o b=true):o=some b:=by
 unfold oa at h
 split at h
 ·rename_i c
  have:c=b:=by simpa using h
  rw[this]
 ·cases h
noncomputable def tD(K:al)(C:Addr):Bool:=
 j0 (PySem.W.findIn K (.ref C) "__getattribute__") "BaseException.__getattribute__" &&(qh (PySem.W.findIn K (.ref C) "__getattr__")&&
 (j0 (PySem.W.findIn K (.ref C) "__setattr__") "object.__setattr__" &&(oa (PySem.W.mroIn K C (.type "BaseException")) true&&(oa (PySem.W.mroIn K C (.type "object")) true&&
 (PySem.W.hasDictIn K C&&(j0 (PySem.W.findIn K (.ref C) "__class__") "object.__class__" &&(j0 (PySem.W.specialIn K (.builtin "object.__class__") "__get__") "getset_descriptor.__get__" &&
 (oa (PySem.W.takesIn K (.builtin "object.__class__")) true&&(PySem.W.clsIn K C).any (fun cd=>l6 cd.mro)))))))))
theorem tz{K:al}(h:tD K C=true):ECls K C:=by
 unfold tD at h
 simp only[Bool.and_eq_true] at h
 obtain⟨h1,h2,h3,h4,h5,h6,h7,h8,h9,h10⟩:=h
 exact⟨d6 h1,iP h2,d6 h3,db h4,db h5,h6,d6 h7,d6 h8,db h9,h10⟩
noncomputable def yE(K:al)(D:Addr):Bool:=(match K.lookup D with
 |some ⟨.type t,_,.cls _,_⟩=>t== "type"
 |_=>false)&&oa (PySem.W.mroIn K D (.type "BaseException")) true
theorem wk{K:al}{D:Addr}(h:yE K D=true):ECat K D:=by
 unfold yE at h
 rw[Bool.and_eq_true] at h
 obtain⟨h1,h2⟩:=h
 refine⟨?_,db h2⟩
 split at h1
 ·rename_i t d cd sl e
  have:t= "type":=by simpa using h1
  subst this
  exact⟨_,_,_,e⟩
 ·cases h1
noncomputable def dA(K:al)(x:Str)(f:Addr→Bool):Bool:=match PySem.W.nsIn K mainGlobals x with
 |some (some (.ref C))=>f C
 |_=>false
theorem bH{K:al}{f:Addr→Bool}(h:dA K x f=true):∃C,PySem.W.nsIn K mainGlobals x=some (some (.ref C))∧f C=true:=by
 unfold dA at h
 split at h
 ·exact⟨_,by assumption,h⟩
 ·cases h
noncomputable def pE(K:al)(o:Option (Option Value)):Bool:=match o with
 |some (some v)=>PySem.W.isFn K v
 |_=>false
noncomputable def qA(K:al)(T:Tab):Bool:=
 (T.cats.all fun t=>(t==("__debug__":Str))==false&&dA K t (yE K))&&
 ((T.cls.all fun p=>dA K p.1 fun C=>tD K C&&(T.flds.all (fun f=>qh (PySem.W.findIn K (.ref C) f))&&
  (T.cats.all (fun t=>dA K t fun D=>oa (PySem.W.kitOne K (.ref C) (.ref D)) (p.2.contains t)&&oa (PySem.W.mroIn K C (.ref D)) (p.2.contains t))&&oa (PySem.W.kitOne K (.ref C) (.type "ValueError")) (p.2.contains "ValueError"))))&&
 (T.ini.all fun p=>dA K p.1 fun C=>oa (PySem.W.mroIn K C (.type "BaseException")) true&&(PySem.W.keepIn K (.ref C)&&pE K (PySem.W.findIn K (.ref C) "__init__"))))
noncomputable def wM(K:al)(mg:Str→Option Value)(bc:List Rec)(x:Str)(j:Nat):Prop:=(x==("__debug__":Str))=false∧∃C r a fd,bc[j]? =some r∧Lnk K r a fd∧PySem.W.nsIn K mainGlobals x=some (some (.ref C))∧mg x=some (.ref C)∧EMk K C∧PySem.W.mroIn K C (.type "BaseException")=some true∧PySem.W.keepIn K (.ref C)=true∧
  PySem.W.findIn K (.ref C) "__init__"=some (some (.ref a))∧PySem.W.isFn K (.ref a)=true
section
variable{K:al}{mg:Str→Option Value}{T:Tab}{bc:List Rec}{h:Heap}
theorem yl{r:Rec}{a:Addr}{fd:FuncData}(hd:(x==("__debug__":Str))=false)(hr:bc[j]? =some r)(L:Lnk K r a fd)(e:PySem.W.nsIn K mainGlobals x=some (some (.ref C)))(m:mg x=some (.ref C))(k:EMk K C)(hB:qA K T=true)
  (hx:(T.ini.map (·.1)).contains x=true)(hf:PySem.W.findIn K (.ref C) "__init__"=some (some (.ref a))):wM K mg bc x j:=by
 unfold qA at hB
 simp only[Bool.and_eq_true] at hB
 obtain⟨_,_,h3⟩:=hB
 obtain⟨p,hp,rfl⟩:=List.mem_map.mp (List.contains_iff_mem.mp hx)
 obtain⟨C',e',q⟩:=bH (List.all_eq_true.mp h3 p hp)
 rw[e] at e'
 cases e'
 simp only[Bool.and_eq_true] at q
 obtain⟨q1,q2,q3⟩:=q
 rw[hf] at q3
 exact⟨hd,C,r,a,fd,hr,L,e,m,k,db q1,q2,hf,q3⟩
noncomputable def vS(K:al)(T:Tab):Bool:=
 (T.icats.all fun t=>(t==("__debug__":Str))==false&&dA K t fun _=>true)&&
 ((T.icl.all fun c=>dA K c.x fun C=>PySem.W.plainGet K C Str.empty&&(PySem.W.hasDictIn K C&&(PySem.W.plainOver K C&&(j0 (PySem.W.findIn K (.ref C) "__setattr__") "object.__setattr__" &&(c.flds.all (fun f=>qh (PySem.W.findIn K (.ref C) f))&&
  (c.mts.all (fun p=>pE K (PySem.W.findIn K (.ref C) p.1))&&(j0 (PySem.W.findIn K (.ref C) "__class__") "object.__class__" &&(j0 (PySem.W.specialIn K (.builtin "object.__class__") "__get__") "getset_descriptor.__get__" &&(oa (PySem.W.takesIn K (.builtin "object.__class__")) true&&(oa (PySem.W.mroIn K C (.type "object")) true&&
  T.icats.all (fun t=>dA K t fun D=>oa (PySem.W.kitOne K (.ref C) (.ref D)) (c.anc.contains t))))))))))))&&
 ((T.mks.all fun p=>dA K p.1 fun C=>PySem.W.makesIn K C&&(PySem.W.keepIn K (.ref C)&&pE K (PySem.W.findIn K (.ref C) "__init__")))&&
 (T.ums.all fun p=>dA K p.1 fun C=>j0 (PySem.W.specialIn K (.ref C) "__getattribute__") "type.__getattribute__" &&PySem.W.readsIn K C (.type "type"))))
noncomputable def vH(K:al)(T:Tab):Bool:=oa (PySem.W.kitOne K (.type "NoneType") (.type "ValueError")) false&&T.cats.all fun t=>dA K t fun D=>oa (PySem.W.kitOne K (.type "NoneType") (.ref D)) false
noncomputable def AX(K:al)(bc:List Rec)(x m:Str)(j:Nat):Prop:=∃C r a fd,bc[j]? =some r∧Lnk K r a fd∧PySem.W.nsIn K mainGlobals x=some (some (.ref C))∧PySem.W.findIn K (.ref C) m=some (some (.ref a))
noncomputable def B6(K:al)(mg:Str→Option Value)(bc:List Rec)(x:Str)(j:Nat):Prop:=(x==("__debug__":Str))=false∧∃C r a fd,bc[j]? =some r∧Lnk K r a fd∧PySem.W.nsIn K mainGlobals x=some (some (.ref C))∧mg x=some (.ref C)∧PySem.W.findIn K (.ref C) "__init__"=some (some (.ref a))
noncomputable def B3(K:al)(mg:Str→Option Value)(bc:List Rec)(x m:Str)(j:Nat):Prop:=(x==("__debug__":Str))=false∧∃C r a fd,bc[j]? =some r∧Lnk K r a fd∧PySem.W.nsIn K mainGlobals x=some (some (.ref C))∧mg x=some (.ref C)∧PySem.W.findCls K (.ref C) (.type "type") m=some (.val (.ref a))
theorem mP{v:Value}{o:Option (Option Value)}(h:pE K o=true)(e:o=some (some v)):PySem.W.isFn K v=true:=by
 rw[e] at h
 exact h
theorem sY(X:K.In h)(G:h.Ns mainGlobals mg)(hc:∀r∈bc,Chk T r)(hq:T.calm=true)(hlen:T.fns.length≤bc.length)
  (hf:∀p∈List.zip T.fns bc,(p.1==("__debug__":Str))=false∧∃a fd,Lnk K p.2 a fd∧mg p.1=some (.ref a))
  (hcs:∀x d,T.csts.lookup x=some d→(x==("__debug__":Str))=false∧∃u v,mg x=some u∧RelV v u∧∀H ι m,VRel K H ι m d v)
  (hb:∀x∈qC,mg x=none)(hB:qA K T=true)(hi:∀p∈T.ini,wM K mg bc p.1 p.2)
  (hI:vS K T=true)(hm:∀c∈T.icl,∀p∈c.mts,AX K bc c.x p.1 p.2)(hk:∀p∈T.mks,B6 K mg bc p.1 p.2)(hu:∀p∈T.ums,B3 K mg bc p.1 p.2.1 p.2.2)
  (hg:∀x ks,T.gds.lookup x=some ks→(x==("__debug__":Str))=false∧∃a,mg x=some (.ref a)∧mi P w K a ks) (hN:vH K T=true):Facts P w K mg T bc:=by
 have hB':=hB
 unfold qA at hB'
 simp only[Bool.and_eq_true] at hB'
 obtain⟨h1,h2,_⟩:=hB'
 unfold vS at hI
 simp only[Bool.and_eq_true] at hI
 obtain⟨i1,i2,i3,i4⟩:=hI
 unfold vH at hN
 rw[Bool.and_eq_true] at hN
 refine⟨hc,hq,?_,hcs,hb,?_,?_,fun x j hm=>hi (x,j) hm,?_,?_,?_,?_,hg,db hN.1,fun t ht D eD=>?_⟩
 ·intro i f e
  have hl:i<bc.length:=ao (aH e).1 hlen
  have er:bc[i]? =some bc[i]:=aU hl
  have:(f,bc[i])∈List.zip T.fns bc:=am (i:=i) (by rw[List.getElem?_zip_eq_some];exact⟨e,er⟩)
  obtain⟨d,a,fd,L,m⟩:=hf _ this
  exact⟨d,_,a,fd,er,L,m⟩
 ·intro t ht
  have q:=List.all_eq_true.mp h1 t ht
  simp only[Bool.and_eq_true] at q
  obtain⟨D,e,qc⟩:=bH q.2
  exact⟨by simpa using q.1,D,e,PySem.W.mg_of X G e,wk qc⟩
 ·intro x anc hx
  obtain⟨C,e,q⟩:=bH (List.all_eq_true.mp h2 (x,anc) hx)
  simp only[Bool.and_eq_true] at q
  obtain⟨q1,q2,q3,q4⟩:=q
  refine⟨C,e,tz q1,fun f hf=>iP (List.all_eq_true.mp q2 f hf),fun t ht D eD=>?_,db q4⟩
  obtain⟨D',eD',qq⟩:=bH (List.all_eq_true.mp q3 t ht)
  rw[eD] at eD'
  cases eD'
  simp only[Bool.and_eq_true] at qq
  exact⟨db qq.1,db qq.2⟩
 ·intro c hc'
  obtain⟨C,e,q⟩:=bH (List.all_eq_true.mp i2 c hc')
  simp only[Bool.and_eq_true] at q
  obtain⟨q1,q2,q3,q4,q5,q6,q7,q8,q9,q10,q11⟩:=q
  refine⟨C,e,⟨q1,q2,q3,d6 q4⟩,fun f hf=>iP (List.all_eq_true.mp q5 f hf),fun m j hmj=>?_,⟨d6 q7,d6 q8,db q9,db q10⟩,fun t ht D eD=>?_⟩
  ·obtain⟨C',r,a,fd,hr,L,e',hf⟩:=hm c hc' (m,j) hmj
   rw[e] at e'
   cases e'
   exact⟨r,a,fd,hr,L,⟨hf,mP (List.all_eq_true.mp q6 (m,j) hmj) hf,L.f.kp⟩⟩
  ·obtain⟨D',eD',qq⟩:=bH (List.all_eq_true.mp q11 t ht)
   rw[eD] at eD'
   cases eD'
   exact db qq
 ·intro t ht
  have q:=List.all_eq_true.mp i1 t ht
  simp only[Bool.and_eq_true] at q
  obtain⟨D,e,_⟩:=bH q.2
  exact⟨by simpa using q.1,D,e,PySem.W.mg_of X G e⟩
 ·intro x j hx
  obtain⟨hd,C,r,a,fd,hr,L,e,m,hf⟩:=hk (x,j) hx
  obtain⟨C',e',q⟩:=bH (List.all_eq_true.mp i3 (x,j) hx)
  rw[e] at e'
  cases e'
  simp only[Bool.and_eq_true] at q
  exact⟨hd,C,r,a,fd,hr,L,e,m,⟨q.1,hf,mP q.2.2 hf,q.2.1⟩⟩
 ·intro x m j hx
  obtain⟨hd,C,r,a,fd,hr,L,e,mgx,hf⟩:=hu (x,m,j) hx
  obtain⟨C',e',q⟩:=bH (List.all_eq_true.mp i4 (x,m,j) hx)
  rw[e] at e'
  cases e'
  simp only[Bool.and_eq_true] at q
  exact⟨hd,C,r,a,fd,hr,L,mgx,⟨d6 q.1,q.2,hf,rfl,L.f.kp⟩⟩
 ·obtain⟨D',eD',qq⟩:=bH (List.all_eq_true.mp hN.2 t ht)
  rw[eD] at eD'
  cases eD'
  exact db qq
end
noncomputable def yR(r:Rec):Option Obj→Option Obj
 |some ⟨oc,od,.func f,sl⟩=>some ⟨oc,od,.func (PySem.W.fnOf r.fname r.qual (e8 r.st) (dM r.st) (bG r.st) .none f.kwdefaults f.doc f.pyModule f.annotations f.code f.closureTuple),sl⟩
 |_=>none
noncomputable def BS(K:al)(r:Rec)(a:Addr):Bool:=match K.lookup a with
 |some ⟨_,_,.func f,_⟩=>PySem.W.codeIn K f.code r.qual&&PySem.W.keepIn K (.ref a)
 |_=>false
noncomputable def AZ(r:Rec):Prop:=∀(kV doc pm:Value)(an:Option Addr)(cdv ct:Value)(us:List Value),us.length=r.ps.length→bindArgs (PySem.W.fnOf r.fname r.qual (e8 r.st) (dM r.st) (bG r.st) .none kV doc pm an cdv ct) ⟨us,[]⟩=pure (r.ps.zip us)
theorem uc(h:us.length=n+1):∃a r,us=a::r∧r.length=n:=by
 cases us with
 |nil=>cases h
 |cons a r=>exact⟨a,r,rfl,Nat.succ.inj h⟩
theorem ya{K:al}{r:Rec}{a:Addr}(hb:AZ r)(h:BS K r a=true)(e:K.lookup a=yR r (K.lookup a)):∃fd,Lnk K r a fd:=by
 unfold BS at h
 cases q:K.lookup a with
 |none=>rw[q] at h;cases h
 |some o=>
  obtain⟨oc,od,dt,sl⟩:=o
  cases dt with
  |func f=>
   rw[q] at h e
   rw[Bool.and_eq_true] at h
   have F:=yo (x:=r.fname) (qual:=r.qual) (st:=r.st) (q.trans e) h.1 h.2
   exact⟨_,F,F.binds hb⟩
  |_=>rw[q] at h;cases h
noncomputable def yS(o:Option (Option Value))(a:Option Addr):Bool:=match o,a with
 |some (some (.ref x)),some y=>x==y
 |_,_=>false
theorem lS{o:Option (Option Value)}{a:Option Addr}(h:yS o a=true):∃x,a=some x∧o=some (some (.ref x)):=by
 unfold yS at h
 split at h
 ·rename_i x y
  have:x=y:=by simpa using h
  subst this
  exact⟨_,rfl,rfl⟩
 ·cases h
noncomputable def BM(o:Option PySem.W.CFound)(a:Option Addr):Bool:=match o,a with
 |some (.val (.ref x)),some y=>x==y
 |_,_=>false
theorem yj{o:Option PySem.W.CFound}{a:Option Addr}(h:BM o a=true):∃x,a=some x∧o=some (.val (.ref x)):=by
 unfold BM at h
 split at h
 ·rename_i x y
  have:x=y:=by simpa using h
  subst this
  exact⟨_,rfl,rfl⟩
 ·cases h
noncomputable def wc(x:Str):Bool:=(x==("__debug__":Str))==false
noncomputable def yD(K:al)(x:Str)(d:D):Bool:=match d,PySem.W.nsIn K mainGlobals x with
 | .tup [.str s],some (some (.ref q))=>(match K.lookup q with
  |some ⟨.type t,_,.seq ⟨[.str z _]⟩ _,_⟩=>t== "tuple" &&z==s
  |_=>false)
 |_,_=>false
theorem wf{K:al}{d:D}(h:yD K x d=true):∃q,PySem.W.nsIn K mainGlobals x=some (some (.ref q))∧∀H ι m,VRel K H ι m d (.ref q):=by
 unfold yD at h
 split at h
 ·rename_i s q e
  split at h
  ·rename_i t dd z tk n sl e2
   rw[Bool.and_eq_true] at h
   have h1:t= "tuple":=by simpa using h.1
   have h2:z=s:=by simpa using h.2
   subst h1 h2
   exact⟨q,e,fun H ι m=>.tup (xs:=[.str z]) (.inr ⟨_,_,_,e2,rfl,rfl,(by show 1≤sizeLine;decide),.cons ⟨tk,rfl⟩ .nil⟩) (.cons (.str _) .nil)⟩
  ·cases h
 ·cases h
noncomputable def kx(K:al)(T:Tab)(bc:List Rec)(ad:List Addr):Bool:=
 bc.length==ad.length&&((bc.zip ad).all (fun p=>BS K p.1 p.2)&&((T.fns.zip (bc.zip ad)).all (fun p=>wc p.1&&yS (PySem.W.nsIn K mainGlobals p.1) (some p.2.2))&&
 (T.csts.all (fun p=>wc p.1&&yD K p.1 p.2)&&(qC.all (fun x=>qh (PySem.W.nsIn K mainGlobals x))&&(T.ini.all (fun p=>wc p.1&&dA K p.1 fun C=>yS (PySem.W.findIn K (.ref C) "__init__") ad[p.2]?)&&
 (T.icl.all (fun c=>dA K c.x fun C=>c.mts.all fun p=>yS (PySem.W.findIn K (.ref C) p.1) ad[p.2]?)&&(T.mks.all (fun p=>wc p.1&&dA K p.1 fun C=>yS (PySem.W.findIn K (.ref C) "__init__") ad[p.2]?)&&
 T.ums.all (fun p=>wc p.1&&dA K p.1 fun C=>BM (PySem.W.findCls K (.ref C) (.type "type") p.2.1) ad[p.2.2]?))))))))
section
variable{K:al}{mg:Str→Option Value}{T:Tab}{bc:List Rec}{h:Heap}{ad:List Addr}
theorem wF(hb:∀r∈bc,AZ r)(hl:kx K T bc ad=true)(e:(bc.zip ad).map (fun p=>K.lookup p.2)=(bc.zip ad).map fun p=>yR p.1 (K.lookup p.2)){a:Addr}(ha:ad[j]? =some a):∃r fd,bc[j]? =some r∧Lnk K r a fd:=by
 unfold kx at hl
 simp only[Bool.and_eq_true] at hl
 obtain⟨h0,h1,_⟩:=hl
 have h0:bc.length=ad.length:=by simpa using h0
 have hj:j<bc.length:=by rw[h0];exact(aH ha).1
 have hr:bc[j]? =some bc[j]:=aU hj
 have hz:(bc.zip ad)[j]? =some (bc[j],a):=by rw[List.getElem?_zip_eq_some];exact⟨hr,ha⟩
 have hm:=am hz
 have e2:K.lookup a=yR bc[j] (K.lookup a):=by
  have q:=congrArg (·[j]?) e
  simpa[List.getElem?_map,hz] using q
 obtain⟨fd,L⟩:=ya (hb _ (am hr)) (List.all_eq_true.mp h1 _ hm) e2
 exact⟨_,fd,hr,L⟩
theorem ib(h:wc x=true):(x==("__debug__":Str))=false:=by
 unfold wc at h
 simpa using h
theorem qo(X:K.In h)(G:h.Ns mainGlobals mg)(hc:∀r∈bc,Chk T r)(hq:T.calm=true)(hbd:∀r∈bc,AZ r)(hl:kx K T bc ad=true)(e:(bc.zip ad).map (fun p=>K.lookup p.2)=(bc.zip ad).map fun p=>yR p.1 (K.lookup p.2))
  (hlen:T.fns.length≤bc.length)(hB:qA K T=true)(hI:vS K T=true)(hE:∀p∈T.ini,∀C,PySem.W.nsIn K mainGlobals p.1=some (some (.ref C))→EMk K C)
  (hg:∀p∈T.gds,wc p.1=true∧∃a,PySem.W.nsIn K mainGlobals p.1=some (some (.ref a))∧mi P w K a p.2)(hN:vH K T=true):Facts P w K mg T bc:=by
 have LK:=fun{j:Nat}{a:Addr}(ha:ad[j]? =some a)=>wF hbd hl e ha
 unfold kx at hl
 simp only[Bool.and_eq_true] at hl
 obtain⟨h0,h1,h2,h3,h4,h5,h6,h7,h8⟩:=hl
 refine sY X G hc hq hlen (fun p hp=>?_) (fun x d hx=>?_) (fun x hx=>PySem.W.mg_none_of X G (iP (List.all_eq_true.mp h4 x hx))) hB (fun p hp=>?_) hI (fun c hc p hp=>?_) (fun p hp=>?_) (fun p hp=>?_) (fun x ks hx=>?_) hN
 ·obtain⟨i,hi⟩:=List.getElem?_of_mem hp
  rw[List.getElem?_zip_eq_some] at hi
  have h0:bc.length=ad.length:=by simpa using h0
  have hj:i<ad.length:=by rw[←h0];exact(aH hi.2).1
  have ha:ad[i]? =some ad[i]:=aU hj
  obtain⟨r,fd,hr,L⟩:=LK ha
  rw[hi.2] at hr
  cases hr
  have hz:(T.fns.zip (bc.zip ad))[i]? =some (p.1,p.2,ad[i]):=by rw[List.getElem?_zip_eq_some];exact⟨hi.1,by rw[List.getElem?_zip_eq_some];exact⟨hi.2,ha⟩⟩
  have q:=List.all_eq_true.mp h2 _ (am hz)
  simp only[Bool.and_eq_true] at q
  obtain⟨x,ex,eo⟩:=lS q.2
  cases ex
  exact⟨ib q.1,_,fd,L,PySem.W.mg_of X G eo⟩
 ·have q:=List.all_eq_true.mp h3 (x,d) (aw hx)
  simp only[Bool.and_eq_true] at q
  obtain⟨q0,eq,r⟩:=wf q.2
  exact⟨ib q.1,_,.ref q0,PySem.W.mg_of X G eq,rfl,r⟩
 ·have q:=List.all_eq_true.mp h5 p hp
  simp only[Bool.and_eq_true] at q
  obtain⟨C,eC,qq⟩:=bH q.2
  obtain⟨a,ea,ef⟩:=lS qq
  obtain⟨r,fd,hr,L⟩:=LK ea
  exact yl (ib q.1) hr L eC (PySem.W.mg_of X G eC) (hE p hp C eC) hB (List.contains_iff_mem.mpr (List.mem_map_of_mem hp)) ef
 ·obtain⟨C,eC,qq⟩:=bH (List.all_eq_true.mp h6 c hc)
  obtain⟨a,ea,ef⟩:=lS (List.all_eq_true.mp qq p hp)
  obtain⟨r,fd,hr,L⟩:=LK ea
  exact⟨C,r,a,fd,hr,L,eC,ef⟩
 ·have q:=List.all_eq_true.mp h7 p hp
  simp only[Bool.and_eq_true] at q
  obtain⟨C,eC,qq⟩:=bH q.2
  obtain⟨a,ea,ef⟩:=lS qq
  obtain⟨r,fd,hr,L⟩:=LK ea
  exact⟨ib q.1,C,r,a,fd,hr,L,eC,PySem.W.mg_of X G eC,ef⟩
 ·have q:=List.all_eq_true.mp h8 p hp
  simp only[Bool.and_eq_true] at q
  obtain⟨C,eC,qq⟩:=bH q.2
  obtain⟨a,ea,ef⟩:=yj qq
  obtain⟨r,fd,hr,L⟩:=LK ea
  exact⟨ib q.1,C,r,a,fd,hr,L,eC,PySem.W.mg_of X G eC,ef⟩
 ·obtain⟨q1,a,q2,q3⟩:=hg (x,ks) (aw hx)
  exact⟨ib q1,a,PySem.W.mg_of X G q2,q3⟩
theorem vK{l:PySem.W.OpenLaw}{fa:Addr}{li:Nat}{a:Addr}{r:Rec}(X:K.In h)(G:h.Ns mainGlobals mg)(hfa:mg "law"=some (.ref fa))(hbd:∀r∈bc,AZ r)(hl:kx K T bc ad=true)(e:(bc.zip ad).map (fun p=>K.lookup p.2)=(bc.zip ad).map fun p=>yR p.1 (K.lookup p.2))
  (Z:Facts l.prog w K mg T bc)(ha:ad[li]? =some a)(hr:bc[li]? =some r)(hn:PySem.W.nsIn K mainGlobals "law"=some (some (.ref a))) (hp:r.ps=[x])(hs:∀ns:List Int,ns.length≤63→∃st',calls (bc.map (·.fn)) n li [.fl (ns.map .int)] []=.ok (.v (.bl true)) st'):
  ∃fd:FuncData,(∀(s:Shared)(v:Value),BindsTo s fd ⟨[v],[]⟩ [(x,v)])∧∀base:Heap,K.In base→base.Ns mainGlobals mg→FnOk l.prog w K mg base (iU l.prog w) (2*n) fa fd [x] (oZ K):=by
 have q:=hfa.symm.trans (PySem.W.mg_of X G hn)
 cases q
 obtain⟨r',fd,hr',L⟩:=wF hbd hl e ha
 rw[hr] at hr'
 cases hr'
 obtain⟨oc,od,kV,doc,pm,an,cdv,ct,osl,rfl,lk,hcd⟩:=L.f.ex
 have hb:=hbd _ (am hr)
 refine⟨PySem.W.fnOf r.fname r.qual (e8 r.st) (dM r.st) (bG r.st) .none kV doc pm an cdv ct,fun s v=>.of_eq ?_,fun base _ _=>?_⟩
 ·have:=hb kV doc pm an cdv ct [v] (by rw[hp];rfl)
  rw[hp] at this
  exact this
 ·have F:=fY (P:=l.prog) (w:=w) (base:=base) Z n li r _ _ hr L
  rw[hp] at F
  exact yb F hs
end
open PySem L2
noncomputable def W{α:Type}(r:R α)(Q:α→aQ→Prop):Prop:=match r with
 | .ok a st=>Q a st
 | .bad=>False
theorem W.mono{r:R α}{Q Q':α→aQ→Prop}(h:W r Q)(k:∀a st,Q a st→Q' a st):W r Q':=by
 cases r with
 |ok a st=>exact k _ _ h
 |bad=>exact h
theorem W.get{r:R α}{Q:α→aQ→Prop}(h:W r Q):∃a st,r=.ok a st∧Q a st:=by
 cases r with
 |ok a st=>exact⟨a,st,rfl,h⟩
 |bad=>exact h.elim
noncomputable def Vq(Q:D→aQ→Prop):Rs→aQ→Prop:=fun r st=>match r with
 | .v d=>Q d st
 | .x _=>False
noncomputable abbrev Wv(r:R Rs)(Q:D→aQ→Prop):Prop:=W r (Vq Q)
theorem Wv.mono{r:R Rs}{Q Q':D→aQ→Prop}(h:Wv r Q)(k:∀a st,Q a st→Q' a st):Wv r Q':=W.mono h fun a st q=>by
 cases a with
 |v d=>exact k _ _ q
 |x n=>exact q
theorem aF{m:M α}{f:α→M β}{st:aQ}{Q:β→aQ→Prop}(h:W (m st) fun a st1=>W (f a st1) Q):W (aW m f st) Q:=by
 unfold aW
 cases e:m st with
 |ok a st1=>rw[e] at h;exact h
 |bad=>rw[e] at h;exact h
section
variable{g:cY}{loc:Loc}{st:aQ}{Q:D→aQ→Prop}{a b c:Ex}
theorem bJ{d:D}(h:Q d st):W (run g (.c d) loc st) Q:=by rw[run];exact h
theorem a_{d:D}(e:loc[i]? =some (some d))(h:Q d st):W (run g (.v i) loc st) Q:=by
 rw[run];unfold dX;rw[e];exact h
theorem dO{es:List Ex}(h:W (runs g es loc st) fun ds st1=>Q (.tup ds) st1):W (run g (.tup es) loc st) Q:=by
 rw[run];exact aF (h.mono fun _ _ q=>q)
theorem fc{es:List Ex}(h:W (runs g es loc st) fun ds st1=>Q (.ref st1.length) (st1++[.lst ds])):W (run g (.lst es) loc st) Q:=by
 rw[run];exact aF (h.mono fun _ _ q=>q)
theorem wx(h:Q (.ref st.length) (st++[.dct []])):W (run g .emp loc st) Q:=by rw[run];exact h
theorem dP{op:Bo}(h:W (run g a loc st) fun x st1=>W (run g b loc st1) fun y st2=>W (cW op x y st2) Q):W (run g (.bin op a b) loc st) Q:=by
 rw[run];exact aF (h.mono fun _ _ q=>aF q)
theorem wr(h:W (run g a loc st) fun x st1=>∃i,x=.int i∧Q (.int (-i)) st1):W (run g (.neg a) loc st) Q:=by
 rw[run];exact aF (h.mono fun _ _ ⟨i,e,q⟩=>by subst e;exact q)
theorem w_not(h:W (run g a loc st) fun x st1=>∃k,x=.bl k∧Q (.bl (!k)) st1):W (run g (.not a) loc st) Q:=by
 rw[run];exact aF (h.mono fun _ _ ⟨i,e,q⟩=>by subst e;exact q)
theorem w_and(h:W (run g a loc st) fun x st1=>∃k,x=.bl k∧(k=true→W (run g b loc st1) Q)∧(k=false→Q (.bl false) st1)):W (run g (.and a b) loc st) Q:=by
 rw[run];exact aF (h.mono fun _ _ hp=>by
  obtain⟨k,e,q1,q2⟩:=hp
  subst e
  cases k with
  |true=>exact q1 rfl
  |false=>exact q2 rfl)
theorem w_or(h:W (run g a loc st) fun x st1=>∃k,x=.bl k∧(k=true→Q (.bl true) st1)∧(k=false→W (run g b loc st1) Q)):W (run g (.or a b) loc st) Q:=by
 rw[run];exact aF (h.mono fun _ _ hp=>by
  obtain⟨k,e,q1,q2⟩:=hp
  subst e
  cases k with
  |true=>exact q1 rfl
  |false=>exact q2 rfl)
theorem cI{op:CmpOp}(h:W (run g a loc st) fun x st1=>W (run g b loc st1) fun y st2=>W (ce op x y st2) Q):W (run g (.cmp op a b) loc st) Q:=by
 rw[run];exact aF (h.mono fun _ _ q=>aF q)
theorem um{op:CmpOp}(h:W (run g a loc st) fun x st1=>W (run g b loc st1) fun y st2=>W (ce op x y st2) fun z st3=>∃k,z=.bl k∧
  (k=true→W (run g c loc st3) fun w st4=>W (ce op' y w st4) Q)∧(k=false→Q (.bl false) st3)):W (run g (.chain op op' a b c) loc st) Q:=by
 rw[run]
 exact aF (h.mono fun _ _ q=>aF (q.mono fun _ _ q=>aF (q.mono fun _ _ hp=>by
  obtain⟨k,e,q1,q2⟩:=hp
  subst e
  cases k with
  |true=>exact aF (show W ((aW (run g c loc) fun w=>ce op' _ w) _) Q from aF (q1 rfl))
  |false=>exact q2 rfl)))
theorem dl(h:W (run g a loc st) fun x st1=>W (run g b loc st1) fun y st2=>W (index x y st2) Q):W (run g (.ix a b) loc st) Q:=by
 rw[run];exact aF (h.mono fun _ _ q=>aF q)
theorem nD(h:W (run g a loc st) fun x st1=>W (run g b loc st1) fun y st2=>∃i,y=.int i∧W (slice x none (some i) st2) Q):W (run g (.sl a b b false true) loc st) Q:=by
 rw[run]
 refine aF (h.mono fun _ _ q=>aF ?_)
 show W ((aW (if true=true then aW (run g b loc) fun z=>aW (dX (jr z)) fun i=>ret (some i) else ret none) fun h=>slice _ none h) _) Q
 exact aF (show W ((aW (run g b loc) fun z=>aW (dX (jr z)) fun i=>ret (some i)) _) _ from aF (q.mono fun _ _ ⟨i,e,q⟩=>by subst e;exact q))
theorem fw{f:Nat}{args:List Ex}(h:W (runs g args loc st) fun ds st1=>Wv (g f ds st1) Q):W (run g (.fn f args) loc st) Q:=by
 rw[run]
 refine aF (h.mono fun ds st1 q=>aF (W.mono q fun r st2 q=>?_))
 cases r with
 |v d=>exact q
 |x n=>exact q.elim
theorem w_fld{ics:List Str}(h:W (run g a loc st) fun x st1=>∃n c m t fs d,x=.ref n∧st1[n]? =some (.err c (some m) t)∧st1[m]? =some (.edc fs)∧fs.lookup f=some d∧c∈cs∧Q d st1):W (run g (.fld a f cs ics) loc st) Q:=by
 rw[run];exact aF (h.mono fun x st1 ⟨n,c,m,t,fs,d,e,e1,e2,e3,hc,q⟩=>by subst e;simp only[om,e1,e2,e3];rw[if_pos hc];exact q)
theorem bx{ics:List Str}(h:W (run g a loc st) fun x st1=>∃n c fs d,x=.ref n∧st1[n]? =some (.ins c fs)∧fs.lookup f=some d∧c∈ics∧Q d st1):W (run g (.fld a f cs ics) loc st) Q:=by
 rw[run];exact aF (h.mono fun x st1 ⟨n,c,fs,d,e,e1,e3,hc,q⟩=>by subst e;simp only[om,e1,e3];rw[if_pos hc];exact q)
theorem oM{f:Nat}{args:List Ex}(h:W (runs g args loc st) fun ds st1=>Wv (g f (.ref st1.length::ds) (st1++[.ins x []])) fun d st2=>d=.non∧Q (.ref st1.length) st2):W (run g (.new x f args) loc st) Q:=by
 rw[run]
 refine aF (h.mono fun ds st1 q=>?_)
 unfold sB
 refine aF (W.mono q fun r st2 q=>?_)
 cases r with
 |v d=>obtain⟨rfl,q⟩:=q;exact q
 |x n=>exact q.elim
theorem cr{m:Str}{ms:List (Str×Nat)}{args:List Ex}(h:W (run g a loc st) fun x st1=>∃n c fs j,x=.ref n∧st1[n]? =some (.ins c fs)∧fs.lookup m=none∧ms.lookup c=some j∧W (runs g args loc st1) fun ds st2=>Wv (g j (.ref n::ds) st2) Q):W (run g (.meth a m ms args) loc st) Q:=by
 rw[run]
 refine aF (h.mono fun x st1 ⟨n,c,fs,j,e,e1,e2,e3,q⟩=>aF ?_)
 subst e
 simp only[pw,e1,e2,e3]
 refine aF (q.mono fun ds st2 q=>aF (W.mono q fun r st3 q=>?_))
 cases r with
 |v d=>exact q
 |x n=>exact q.elim
theorem oP{yes no:List Str}(h:W (run g a loc st) fun x st1=>∃n c d t b,x=.ref n∧st1[n]? =some (.err c d t)∧jI st1 d=true∧(b=true→c∈yes)∧(b=false→c∉yes∧c∈no)∧Q (.bl b) st1):W (run g (.isc a yes no) loc st) Q:=by
 rw[run];exact aF (h.mono fun x st1 hp=>by
  obtain⟨n,c,d,t,b,e,e1,hd,h1,h2,q⟩:=hp
  subst e
  simp only[vP,e1]
  rw[if_pos hd]
  cases b with
  |true=>rw[if_pos (h1 rfl)];exact q
  |false=>rw[if_neg (h2 rfl).1,if_pos (h2 rfl).2];exact q)
theorem jS{f:Bt}{args:List Ex}(h:W (runs g args loc st) fun ds st1=>W (f9 f ds st1) Q):W (run g (.bt f args) loc st) Q:=by
 rw[run];exact aF h
theorem wv{t:Ty}(h:W (run g a loc st) fun x st1=>∃k,bY st1 t x=some k∧Q (.bl k) st1):W (run g (.isi a t) loc st) Q:=by
 rw[run];exact aF (h.mono fun _ _ ⟨k,e,q⟩=>by show W (match bY _ t _ with|some k=>R.ok (.bl k) _|none=>.bad) Q;rw[e];exact q)
theorem y7(h:W (run g c loc st) fun x st1=>∃k,x=.bl k∧(k=true→W (run g a loc st1) Q)∧(k=false→W (run g b loc st1) Q)):W (run g (.ite c a b) loc st) Q:=by
 rw[run];exact aF (h.mono fun _ _ hp=>by
  obtain⟨k,e,q1,q2⟩:=hp
  subst e
  cases k with
  |true=>exact q1 rfl
  |false=>exact q2 rfl)
theorem nF(h:W (run g a loc st) fun x st1=>∃n xs y,x=.ref n∧st1[n]? =some (.lst xs)∧xs[xs.length - 1]? =some y∧Q y (st1.set n (.lst xs.dropLast))):W (run g (.pop a false) loc st) Q:=by
 rw[run];exact aF (h.mono fun x st1 ⟨n,xs,y,e,e1,e2,q⟩=>by subst e;simp only[xJ,e1,e2];exact q)
theorem wU{rng:Bool}(h:W (run g a loc st) fun d st1=>∃s,c8 rng d=some s∧W (bK (fun x=>aW (run g b (some x::loc)) fun y=>ret (some y)) s st1) Q):W (run g (.comp rng a b) loc st) Q:=by
 rw[run];exact aF (h.mono fun _ _ ⟨s,e,q⟩=>aF (by unfold dX;rw[e];exact q))
theorem ul(h:W (run g a loc st) fun d st1=>∃s,kG d=some s∧W (bK (fun x=>match x with
    | .tup [a,c]=>aW (run g b (some a::some c::loc)) fun y=>ret (some y)
    |_=>stuck) s st1) Q):W (run g (.compE a b) loc st) Q:=by
 rw[run];exact aF (h.mono fun _ _ ⟨s,e,q⟩=>aF (by unfold dX;rw[e];exact q))
end
section
variable{g:cY}{loc:Loc}{st:aQ}{Q:List D→aQ→Prop}
theorem aG(h:Q [] st):W (runs g [] loc st) Q:=by rw[runs];exact h
theorem aj{e:Ex}{es:List Ex}(h:W (run g e loc st) fun d st1=>W (runs g es loc st1) fun ds st2=>Q (d::ds) st2):W (runs g (e::es) loc st) Q:=by
 rw[runs];exact aF (h.mono fun _ _ q=>aF (q.mono fun _ _ q=>q))
end
section
variable{st:aQ}{Q:D→aQ→Prop}{f:D→M (Option D)}
theorem ln{xs:List D}{Q:List D→aQ→Prop}(I:Nat→List D→aQ→Prop)(step:∀i x acc st,xs[i]? =some x→I i acc st→W (f x st) fun o st1=>I (i+1) (match o with|some y=>acc++[y]|none=>acc) st1)
  (fin:∀acc st,I xs.length acc st→Q acc st):∀k i acc st,i≤xs.length→xs.length<k+i→I i acc st→W (cV f (.its xs) k i acc st) Q
 |0,i,acc,st,h1,h2,h=>by omega
 |k+1,i,acc,st,h1,h2,h=>by
  simp only[cV,gm]
  cases e:xs[i]? with
  |none=>
   have:i=xs.length:=by have:=List.getElem?_eq_none_iff.mp e;omega
   subst this
   exact fin acc st h
  |some x=>
   have hi:=(aH e).1
   refine aF ((step i x acc st e h).mono fun o st1 q=>?_)
   cases o with
   |none=>exact ln I step fin k (i+1) acc st1 hi (by omega) q
   |some y=>exact ln I step fin k (i+1) (acc++[y]) st1 hi (by omega) q
theorem uk{xs:List D}(hl:xs.length≤1000000)(I:Nat→List D→aQ→Prop)(h0:I 0 [] st)(step:∀i x acc st,xs[i]? =some x→I i acc st→W (f x st) fun o st1=>I (i+1) (match o with|some y=>acc++[y]|none=>acc) st1)
  (fin:∀acc st,I xs.length acc st→Q (.ref st.length) (st++[.lst acc])):W (bK f (.its xs) st) Q:=by
 unfold bK
 rw[if_pos (show ej (.its xs) st≤1000000 from hl)]
 refine aF (W.mono (ln (Q:=fun acc st=>Q (.ref st.length) (st++[.lst acc])) I step fin (xs.length+1) 0 [] st (by omega) (by show xs.length<xs.length+1+0;omega) h0) fun acc st q=>(show Q (.ref st.length) (st++[.lst acc]) from q))
theorem iZ{n:Nat}{xs:List D}{Q:List D→aQ→Prop}(I:Nat→List D→aQ→Prop)(keep:∀i acc st,I i acc st→st[n]? =some (.lst xs))(step:∀i x acc st,xs[i]? =some x→I i acc st→W (f (.tup [.int (i:Int),x]) st) fun o st1=>I (i+1) (match o with|some y=>acc++[y]|none=>acc) st1)
  (fin:∀acc st,I xs.length acc st→Q acc st):∀k i acc st,i≤xs.length→xs.length<k+i→I i acc st→W (cV f (.en n) k i acc st) Q
 |0,i,acc,st,h1,h2,h=>by omega
 |k+1,i,acc,st,h1,h2,h=>by
  simp only[cV,gm,keep i acc st h]
  cases e:xs[i]? with
  |none=>
   have:i=xs.length:=by have:=List.getElem?_eq_none_iff.mp e;omega
   subst this
   exact fin acc st h
  |some x=>
   have hi:=(aH e).1
   refine aF ((step i x acc st e h).mono fun o st1 q=>?_)
   cases o with
   |none=>exact iZ I keep step fin k (i+1) acc st1 hi (by omega) q
   |some y=>exact iZ I keep step fin k (i+1) (acc++[y]) st1 hi (by omega) q
theorem qT{xs:List D}(hl:xs.length≤1000000)(hn:st[n]? =some (.lst xs))(I:Nat→List D→aQ→Prop)(h0:I 0 [] st)(keep:∀i acc st,I i acc st→st[n]? =some (.lst xs))(step:∀i x acc st,xs[i]? =some x→I i acc st→W (f (.tup [.int (i:Int),x]) st) fun o st1=>I (i+1) (match o with|some y=>acc++[y]|none=>acc) st1)
  (fin:∀acc st,I xs.length acc st→Q (.ref st.length) (st++[.lst acc])):W (bK f (.en n) st) Q:=by
 have hL:ej (.en n) st=xs.length:=by simp only[ej,hn]
 unfold bK
 rw[hL,if_pos hl]
 refine aF (W.mono (iZ (Q:=fun acc st=>Q (.ref st.length) (st++[.lst acc])) I keep step fin (xs.length+1) 0 [] st (by omega) (by omega) h0) fun acc st q=>(show Q (.ref st.length) (st++[.lst acc]) from q))
theorem y_{g:cY}{loc:Loc}{b:Ex}{x:D}{Q:Option D→aQ→Prop}(h:W (run g b (some x::loc) st) fun y st1=>Q (some y) st1):W (aW (run g b (some x::loc)) (fun y=>ret (some y)) st) Q:=aF (h.mono fun _ _ q=>q)
end
noncomputable def Kn(g:cY)(ss:List S)(Q:Fl→aQ→Prop):Fl→aQ→Prop:=fun r st=>match r with
 | .nx loc=>W (execs g ss loc st) Q
 | .rt d=>Q (.rt d) st
 | .ex n l=>Q (.ex n l) st
noncomputable def Kr(Q:D→aQ→Prop):Fl→aQ→Prop:=fun r st=>match r with
 | .nx _=>Q .non st
 | .rt d=>Q d st
 | .ex _ _=>False
noncomputable def Kx(Q:Rs→aQ→Prop):Fl→aQ→Prop:=fun r st=>match r with
 | .nx _=>Q (.v .non) st
 | .rt d=>Q (.v d) st
 | .ex n _=>Q (.x n) st
section
variable{g:cY}{loc:Loc}{st:aQ}{Q:Fl→aQ→Prop}{ss:List S}{e o i c:Ex}
theorem bo(h:W (execs g ss loc st) Q):Kn g ss Q (.nx loc) st:=h
theorem Aj{d:D}(h:Q (.rt d) st):Kn g ss Q (.rt d) st:=h
theorem cv{Q:D→aQ→Prop}(h:Q .non st):Kr Q (.nx loc) st:=h
theorem wH{Q:D→aQ→Prop}{d:D}(h:Q d st):Kr Q (.rt d) st:=h
theorem sF{Q:Rs→aQ→Prop}(h:Q (.v .non) st):Kx Q (.nx loc) st:=h
theorem Ah{Q:Rs→aQ→Prop}{d:D}(h:Q (.v d) st):Kx Q (.rt d) st:=h
theorem wG{Q:Rs→aQ→Prop}{l:Loc}(h:Q (.x n) st):Kx Q (.ex n l) st:=h
theorem aK(h:Q (.nx loc) st):W (execs g [] loc st) Q:=by rw[execs];exact h
theorem bB{s:S}(h:W (exec g s loc st) (Kn g ss Q)):W (execs g (s::ss) loc st) Q:=by
 rw[execs]
 refine aF (h.mono fun r st1 q=>?_)
 cases r with
 |nx loc'=>exact q
 |rt d=>exact q
 |ex n l=>exact q
theorem eO{k:Tg}{f:Nat}{args:List Ex}(h:W (runs g args loc st) fun ds st1=>W (g f ds st1) fun r st2=>W (sW k loc r st2) (Kn g ss Q)):W (execs g (.callx k f args::ss) loc st) Q:=
 bB (by rw[exec];exact aF (h.mono fun _ _ q=>aF (q.mono fun _ _ q=>q)))
theorem lh{f:Nat}{args:List Ex}(h:W (runs g args loc st) fun ds st1=>W (jj g x f ds st1) fun n st2=>Q (.ex n loc) st2):W (execs g (.rais x f args::ss) loc st) Q:=
 bB (by rw[exec];exact aF (h.mono fun _ _ q=>aF (q.mono fun _ _ q=>q)))
theorem ld{ics:List Str}(h:W (run g e loc st) fun d st1=>W (run g o loc st1) fun x st2=>W (fE cs ics x f d st2) fun _ st3=>W (execs g ss loc st3) Q):W (execs g (.setf o f e cs ics::ss) loc st) Q:=
 bB (by rw[exec];exact aF (h.mono fun _ _ q=>aF (q.mono fun _ _ q=>aF (q.mono fun _ _ q=>q))))
noncomputable def Kt(g:cY)(yes:List Str)(i:Nat)(suite:List S)(Q:Fl→aQ→Prop):Fl→aQ→Prop:=fun r st=>match r with
 | .nx l=>Q (.nx l) st
 | .rt d=>Q (.rt d) st
 | .ex n l=>∃x d,st[n]? =some (.err x d true)∧x∈yes∧W (execs g suite (l.set i (some (.ref n))) st) fun r st1=>match r with
  | .nx l2=>Q (.nx (l2.set i none)) st1
  | .rt d=>Q (.rt d) st1
  | .ex _ _=>False
theorem wX{ics:List Str}(h:W (run g o loc st) fun x st1=>∃n c fs i,x=.ref n∧st1[n]? =some (.ins c fs)∧fs.lookup f=some (.int i)∧c∈ics∧W (run g e loc st1) fun z st2=>∃j fs2,z=.int j∧st2[n]? =some (.ins c fs2)∧fs2.length<900∧W (execs g ss loc (st2.set n (.ins c (putD f (.int (i+j)) fs2)))) Q):W (execs g (.augf o f e ics::ss) loc st) Q:=
 bB (by
  rw[exec]
  refine aF (h.mono fun x st1 ⟨n,c,fs,i,e0,e1,e2,hc,q⟩=>aF ?_)
  subst e0
  simp only[om,e1,e2]
  rw[if_pos hc]
  refine aF ?_
  simp only[qz,e1]
  refine aF (q.mono fun z st2 ⟨j,fs2,e3,e4,hl,q⟩=>aF ?_)
  subst e3
  simp only[tR]
  refine aF ?_
  simp only[qz,e4]
  show W ((if c=c then aW (fE [] ics (D.ref n) f (D.int (i+j))) fun x=>ret (Fl.nx loc) else stuck) st2) (Kn g ss Q)
  rw[if_pos rfl]
  refine aF ?_
  simp only[fE,e4]
  rw[if_pos ⟨hl,hc⟩]
  exact q)
theorem uh{body:List S}(h:W (run g e loc st) fun d st1=>∃s,kG d=some s∧W (gq (fun x loc'=>aW (items? is.length x) fun ds=>execs g body (jW is ds loc')) s loc st1) (Kn g ss Q)):W (execs g (.forE is e body::ss) loc st) Q:=
 bB (by rw[exec];exact aF (h.mono fun _ _ ⟨s,e,q⟩=>aF (by unfold dX;rw[e];exact q)))
theorem cf(h:W (run g e loc st) fun d st1=>W (execs g ss (loc.set n (some d)) st1) Q):W (execs g (.set n e::ss) loc st) Q:=
 bB (by rw[exec];exact aF (h.mono fun _ _ q=>q))
theorem oK(h:W (run g e loc st) fun d st1=>W (run g o loc st1) fun x st2=>W (run g i loc st2) fun k st3=>W (gy x k d st3) fun _ st4=>W (execs g ss loc st4) Q):W (execs g (.setix o i e::ss) loc st) Q:=
 bB (by rw[exec];exact aF (h.mono fun _ _ q=>aF (q.mono fun _ _ q=>aF (q.mono fun _ _ q=>aF (q.mono fun _ _ q=>q)))))
theorem ij(h:W (run g e loc st) fun d st1=>Q (.rt d) st1):W (execs g (.ret e::ss) loc st) Q:=
 bB (by rw[exec];exact aF (h.mono fun _ _ q=>q))
theorem fA(h:W (run g e loc st) fun _ st1=>W (execs g ss loc st1) Q):W (execs g (.ex e::ss) loc st) Q:=
 bB (by rw[exec];exact aF (h.mono fun _ _ q=>q))
theorem ke(h:W (run g o loc st) fun x st1=>W (il x st1) fun _ st2=>W (run g e loc st2) fun d st3=>W (append x d st3) fun _ st4=>W (execs g ss loc st4) Q):W (execs g (.app o e::ss) loc st) Q:=
 bB (by rw[exec];exact aF (h.mono fun _ _ q=>aF (q.mono fun _ _ q=>aF (q.mono fun _ _ q=>aF (q.mono fun _ _ q=>q)))))
theorem ml{c:Loc→M D}{f:Loc→M Fl}(I:Nat→Loc→aQ→Prop)(turn:∀m loc st,I m loc st→W (c loc st) fun x st1=>∃b,x=.bl b∧(b=true→∃m',m=m'+1∧W (f loc st1) fun r st2=>match r with| .nx loc'=>I m' loc' st2| .rt d=>Q (.rt d) st2| .ex n l=>Q (.ex n l) st2)∧(b=false→Q (.nx loc) st1)):
  ∀k m loc st,m<k→I m loc st→W (gj c f k loc st) Q
 |0,m,loc,st,h1,h=>by omega
 |k+1,m,loc,st,h1,h=>by
  rw[gj]
  refine aF ((turn m loc st h).mono fun x st1 hp=>?_)
  obtain⟨b,e,q1,q2⟩:=hp
  subst e
  cases b with
  |false=>exact q2 rfl
  |true=>
   obtain⟨m',rfl,q⟩:=q1 rfl
   refine aF (show W ((if true=true then aW (f loc) _ else _) st1) _ from aF (q.mono fun r st2 q=>?_))
   cases r with
   |nx loc'=>exact ml I turn k m' loc' st2 (by omega) q
   |rt d=>exact q
   |ex n l=>exact q
theorem qN(h:W (execs g ss loc st) Q):W (execs g (.pass::ss) loc st) Q:=bB (by rw[exec];exact h)
theorem cH{x y:List S}(h:W (run g c loc st) fun z st1=>∃k,z=.bl k∧(k=true→W (execs g x loc st1) (Kn g ss Q))∧(k=false→W (execs g y loc st1) (Kn g ss Q))):W (execs g (.ite c x y::ss) loc st) Q:=
 bB (by
  rw[exec]
  exact aF (h.mono fun _ _ hp=>by
   obtain⟨k,e,q1,q2⟩:=hp
   subst e
   cases k with
   |true=>exact q1 rfl
   |false=>exact q2 rfl))
theorem qQ{f:D→Loc→M Fl}{xs:List D}(I:Nat→Loc→aQ→Prop)(step:∀i x loc st,xs[i]? =some x→I i loc st→W (f x loc st) fun r st1=>match r with| .nx loc'=>I (i+1) loc' st1| .rt d=>Q (.rt d) st1| .ex n l=>Q (.ex n l) st1)
  (fin:∀loc st,I xs.length loc st→Q (.nx loc) st):∀k i loc st,i≤xs.length→xs.length<k+i→I i loc st→W (f8 f (.its xs) k i loc st) Q
 |0,i,acc,st,h1,h2,h=>by omega
 |k+1,i,loc,st,h1,h2,h=>by
  simp only[f8,gm]
  cases e:xs[i]? with
  |none=>
   have:i=xs.length:=by have:=List.getElem?_eq_none_iff.mp e;omega
   subst this
   exact fin loc st h
  |some x=>
   have hi:=(aH e).1
   refine aF ((step i x loc st e h).mono fun r st1 q=>?_)
   cases r with
   |nx loc'=>exact qQ I step fin k (i+1) loc' st1 hi (by omega) q
   |rt d=>exact q
   |ex n l=>exact q
noncomputable def Kf(I:Loc→aQ→Prop)(Q:Fl→aQ→Prop):Fl→aQ→Prop:=fun r st=>match r with
 | .nx loc=>I loc st
 | .rt d=>Q (.rt d) st
 | .ex n l=>Q (.ex n l) st
theorem Ak{I:Loc→aQ→Prop}{d:D}(h:Q (.rt d) st):Kf I Q (.rt d) st:=h
theorem ww{rng:Bool}{body:List S}(I:List D→Nat→Loc→aQ→Prop)
  (h:W (run g e loc st) fun d st1=>∃xs,c8 rng d=some (.its xs)∧I xs 0 loc st1∧(∀i x loc st,xs[i]? =some x→I xs i loc st→W (execs g body (loc.set n (some x)) st) (Kf (I xs (i+1)) (Kn g ss Q)))∧∀loc st,I xs xs.length loc st→W (execs g ss loc st) Q):
  W (execs g (.for_ n rng e body::ss) loc st) Q:=by
 refine bB ?_
 rw[exec]
 refine aF (h.mono fun d st1 ⟨xs,hs,h0,step,fin⟩=>aF ?_)
 unfold dX
 rw[hs]
 show W (gq _ (.its xs) loc st1) _
 unfold gq
 refine qQ (I xs) (fun i x loc st e q=>(step i x loc st e q).mono fun r st1 q=>?_) fin _ 0 loc st1 (by omega) (by show xs.length<xs.length+1+0;omega) h0
 cases r with
 |nx loc'=>exact q
 |rt d=>exact q
 |ex n l=>exact q
end
section
variable{g:cY}{loc:Loc}{st:aQ}{Q:Fl→aQ→Prop}{ss:List S}{e:Ex}
theorem oS{f:D→Loc→M Fl}{n:Nat}{xs:List D}(I:Nat→Loc→aQ→Prop)(keep:∀i loc st,I i loc st→st[n]? =some (.lst xs))(step:∀i x loc st,xs[i]? =some x→I i loc st→W (f x loc st) fun r st1=>match r with| .nx loc'=>I (i+1) loc' st1| .rt d=>Q (.rt d) st1| .ex n l=>Q (.ex n l) st1)
  (fin:∀loc st,I xs.length loc st→Q (.nx loc) st):∀k i loc st,i≤xs.length→xs.length<k+i→I i loc st→W (f8 f (.at n) k i loc st) Q
 |0,i,acc,st,h1,h2,h=>by omega
 |k+1,i,loc,st,h1,h2,h=>by
  simp only[f8,gm,keep i loc st h]
  cases e:xs[i]? with
  |none=>
   have:i=xs.length:=by have:=List.getElem?_eq_none_iff.mp e;omega
   subst this
   exact fin loc st h
  |some x=>
   have hi:=(aH e).1
   refine aF ((step i x loc st e h).mono fun r st1 q=>?_)
   cases r with
   |nx loc'=>exact oS I keep step fin k (i+1) loc' st1 hi (by omega) q
   |rt d=>exact q
   |ex n l=>exact q
theorem wT{body:List S}(I:Nat→List D→Nat→Loc→aQ→Prop)
  (h:W (run g e loc st) fun d st1=>∃n xs,d=.ref n∧st1[n]? =some (.lst xs)∧I n xs 0 loc st1∧(∀i loc st,I n xs i loc st→st[n]? =some (.lst xs))∧(∀i x loc st,xs[i]? =some x→I n xs i loc st→W (execs g body (loc.set m (some x)) st) (Kf (I n xs (i+1)) (Kn g ss Q)))∧∀loc st,I n xs xs.length loc st→W (execs g ss loc st) Q):
  W (execs g (.for_ m false e body::ss) loc st) Q:=by
 refine bB ?_
 rw[exec]
 refine aF (h.mono fun d st1 ⟨n,xs,hd,hn,h0,keep,step,fin⟩=>aF ?_)
 subst hd
 show W (gq _ (.at n) loc st1) _
 have hL:ej (.at n) st1=xs.length:=by simp only[ej,hn]
 unfold gq
 rw[hL]
 refine oS (I n xs) keep (fun i x loc st e q=>(step i x loc st e q).mono fun r st1 q=>?_) fin _ 0 loc st1 (by omega) (by omega) h0
 cases r with
 |nx loc'=>exact q
 |rt d=>exact q
 |ex n l=>exact q
end
theorem wN{g:cY}{loc:Loc}{st:aQ}{Q:Fl→aQ→Prop}{ss body:List S}{c:Ex}(I:Nat→Loc→aQ→Prop)(m:Nat)(hm:m<1000000000)(h0:I m loc st)(turn:∀m loc st,I m loc st→W (run g c loc st) fun x st1=>∃b,x=.bl b∧(b=true→∃m',m=m'+1∧W (execs g body loc st1) (Kf (I m') (Kn g ss Q)))∧(b=false→W (execs g ss loc st1) Q)):
  W (execs g (.whil c body::ss) loc st) Q:=by
 refine bB ?_
 rw[exec]
 refine ml I (fun m loc st h=>(turn m loc st h).mono fun x st1 ⟨b,e,q1,q2⟩=>⟨b,e,fun hb=>?_,q2⟩) yp m loc st hm h0
 obtain⟨m',e,q⟩:=q1 hb
 refine⟨m',e,q.mono fun r st2 q=>?_⟩
 cases r with
 |nx loc'=>exact q
 |rt d=>exact q
 |ex n l=>exact q
theorem wV{tab:List Fn}{k f:Nat}{fn:Fn}{ds:List D}{st:aQ}{Q:D→aQ→Prop}(hf:tab[f]? =some fn)(hl:ds.length=fn.ar)(h:W (execs (calls tab k) fn.body (ds.map some++List.replicate (fn.nl - ds.length) none) st) (Kr Q)):Wv (calls tab (k+1) f ds st) Q:=by
 simp only[Wv,calls,hf,nr,if_pos hl]
 refine aF (h.mono fun r st1 q=>?_)
 cases r with
 |nx loc'=>exact q
 |rt d=>exact q
 |ex n l=>exact q.elim
theorem uo{tab:List Fn}{k f:Nat}{fn:Fn}{ds:List D}{st:aQ}{Q:Rs→aQ→Prop}(hf:tab[f]? =some fn)(hl:ds.length=fn.ar)(h:W (execs (calls tab k) fn.body (ds.map some++List.replicate (fn.nl - ds.length) none) st) (Kx Q)):W (calls tab (k+1) f ds st) Q:=by
 simp only[calls,hf,nr,if_pos hl]
 refine aF (h.mono fun r st1 q=>?_)
 cases r with
 |nx loc'=>exact q
 |rt d=>exact q
 |ex n l=>exact q
section
variable{st:aQ}{Q:D→aQ→Prop}{i j:Int}
theorem w_add(h:Q (.int (i+j)) st):W (cW .add (.int i) (.int j) st) Q:=h
theorem w_mul(hb:(-18446744073709551616<i∧i<18446744073709551616)∨(-18446744073709551616<j∧j<18446744073709551616))(h:Q (.int (i*j)) st):W (cW .mul (.int i) (.int j) st) Q:=by
 simp only[cW];rw[if_pos (.inl (show(-big<i∧i<big)∨(-big<j∧j<big) from hb))];exact h
theorem w_mod(hb:0<j)(h:Q (.int (i % j)) st):W (cW .mod (.int i) (.int j) st) Q:=by
 simp only[cW];rw[if_pos (by omega),Int.fmod_eq_emod_of_nonneg i (by omega)];exact h
theorem nG(hb:0<j∧j<4611686018427387904)(h:Q (.int (i / j)) st):W (cW .fdiv (.int i) (.int j) st) Q:=by
 simp only[cW]
 rw[if_pos ⟨by omega,ao (show j.natAbs<4611686018427387904 by omega) (by decide)⟩,Int.fdiv_eq_ediv_of_nonneg i (by omega)];exact h
theorem w_pow(hb:0≤j∧j≤1000∧i.natAbs<1000)(h:Q (.int (i^j.toNat)) st):W (cW .pow (.int i) (.int j) st) Q:=by
 simp only[cW];rw[if_pos hb];exact h
theorem nH{as bs:List D}(hm:st[m]? =some (.lst as))(hn:st[n]? =some (.lst bs))(hb:as.length+bs.length≤1000000)(h:Q (.ref st.length) (st++[.lst (as++bs)])):W (cW .add (.ref m) (.ref n) st) Q:=by
 simp only[cW,hm,hn];rw[if_pos hb];exact h
theorem wO{as:List D}(hm:st[m]? =some (.lst as))(hb:0≤j∧j≤1000∧as.length≤1000)(h:Q (.ref st.length) (st++[.lst (List.flatten (List.replicate j.toNat as))])):W (cW .mul (.ref m) (.int j) st) Q:=by
 simp only[cW,hm];rw[if_pos hb];exact h
theorem w_eq{x y:D}{k:Bool}(e:fO 60 st x y=some k)(h:Q (.bl k) st):W (ce .Eq x y st) Q:=by simp only[ce,e];exact h
theorem wP{x y:D}{k:Bool}(e:fO 60 st x y=some k)(h:Q (.bl (!k)) st):W (ce .NotEq x y st) Q:=by simp only[ce,e];exact h
theorem mn(h:Q (.bl (decide (i=j))) st):W (ce .Eq (.int i) (.int j) st) Q:=w_eq (k:=decide (i=j)) (by simp[fO,shape,oz];rfl) h
theorem y3(h:Q (.bl (!decide (i=j))) st):W (ce .NotEq (.int i) (.int j) st) Q:=wP (k:=decide (i=j)) (by simp[fO,shape,oz];rfl) h
theorem w_lt(h:Q (.bl (decide (i<j))) st):W (ce .Lt (.int i) (.int j) st) Q:=h
theorem A9(h:Q (.bl (decide (i≤j))) st):W (ce .LtE (.int i) (.int j) st) Q:=h
theorem w_is{x y:D}{k:Bool}(e:Am x y=some k)(h:Q (.bl k) st):W (ce .Is x y st) Q:=by simp only[ce,e];exact h
theorem bW{xs:List D}{d:D}(e:qD xs i=some d)(h:Q d st):W (index (.tup xs) (.int i) st) Q:=by simp only[index,cJ,e];exact h
theorem y4{xs:List D}{d:D}(e:qD xs i=some d)(h:Q d st):W (index (.fl xs) (.int i) st) Q:=by simp only[index,cJ,e];exact h
theorem iW{xs:List D}{d:D}(hn:st[n]? =some (.lst xs))(e:qD xs i=some d)(h:Q d st):W (index (.ref n) (.int i) st) Q:=by simp only[index,cJ,hn,e];exact h
theorem wu{kvs:List (Key×D)}{k:Str}{d:D}(hn:st[n]? =some (.dct kvs))(e:i6 kvs (.inr k)=some d)(h:Q d st):W (index (.ref n) (.str k) st) Q:=by simp only[index,AL,hn,e];exact h
theorem lc{fs:List (Str×D)}{ics:List Str}{v:D}{Q:Unit→aQ→Prop}(hn:st[n]? =some (.ins c fs))(hl:fs.length<900∧c∈ics)(h:Q () (st.set n (.ins c (putD f v fs)))):W (fE cs ics (.ref n) f v st) Q:=by simp only[fE,hn];rw[if_pos hl];exact h
theorem gu{xs:List α}(h0:0≤i)(h1:i<xs.length):∃d,qD xs i=some d∧xs[i.toNat]? =some d:=by
 have hi:i.toNat<xs.length:=by omega
 refine⟨xs[i.toNat],?_,by simp[hi]⟩
 unfold qD t5
 rw[if_pos h0,if_pos h1]
 show xs[i.toNat]? =_
 simp[hi]
theorem qO{xs:List D}(h:Q (.int xs.length) st):W (f9 .len [.tup xs] st) Q:=h
theorem wR{xs:List D}(h:Q (.int xs.length) st):W (f9 .len [.fl xs] st) Q:=h
theorem c7{xs:List D}(hn:st[n]? =some (.lst xs))(h:Q (.int xs.length) st):W (f9 .len [.ref n] st) Q:=by simp only[f9,cJ,hn];exact h
theorem oO{xs:List D}(h:Q (.ref st.length) (st++[.lst xs])):W (f9 .list [.tup xs] st) Q:=h
theorem ug{xs:List D}(hn:st[n]? =some (.lst xs))(h:Q (.ref st.length) (st++[.lst xs])):W (f9 .list [.ref n] st) Q:=by simp only[f9,cJ,hn];exact h
theorem mm{xs:List D}(hn:st[n]? =some (.lst xs))(h:Q (.tup xs) st):W (f9 .tuple [.ref n] st) Q:=by simp only[f9,cJ,hn];exact h
theorem qP{b:Bool}(h:Q (.int (if b then 1 else 0)) st):W (f9 .int [.bl b] st) Q:=h
theorem w_allL{xs:List D}{k:Bool}(hn:st[n]? =some (.lst xs))(e:allB xs=some k)(h:Q (.bl k) st):W (f9 .all [.ref n] st) Q:=by simp only[f9,hn,e];exact h
theorem yZ{xs:List D}(hn:st[n]? =some (.lst xs))(h:Q (.ref st.length) (st++[.lst (cutD xs lo hi)])):W (slice (.ref n) lo hi st) Q:=by simp only[slice,cJ,hn];exact h
theorem fT{xs:List D}{Q:Unit→aQ→Prop}(hn:st[n]? =some (.lst xs))(h:Q () st):W (il (.ref n) st) Q:=by simp only[il,hn];exact h
theorem fB{xs:List D}{v:D}{Q:Unit→aQ→Prop}(hn:st[n]? =some (.lst xs))(hl:xs.length<1000000)(h:Q () (st.set n (.lst (xs++[v])))):W (append (.ref n) v st) Q:=by simp only[append,hn];rw[if_pos hl];exact h
end
noncomputable def Gr(st st':aQ):Prop:=∃t,st'=st++t
theorem Gr.refl(st:aQ):Gr st st:=⟨[],by simp⟩
theorem Gr.trans{a b c:aQ}(h:Gr a b)(k:Gr b c):Gr a c:=by
 obtain⟨t,rfl⟩:=h
 obtain⟨u,rfl⟩:=k
 exact⟨t++u,by simp⟩
theorem Gr.one(st:aQ)(o:O):Gr st (st++[o]):=⟨[o],rfl⟩
theorem Gr.more{a b:aQ}(h:Gr a b)(o:O):Gr a (b++[o]):=h.trans (.one b o)
theorem Gr.at{a b:aQ}(h:Gr a b){o:O}(e:a[i]? =some o):b[i]? =some o:=by
 obtain⟨t,rfl⟩:=h
 have:=(aH e).1
 rw[aM this];exact e
theorem bh{st:aQ}{o:O}:(st++[o])[st.length]? =some o:=by simp
theorem aT{st:aQ}{o:O}{t:aQ}(e:st[i]? =some o):(st++t)[i]? =some o:=by
 have:=(aH e).1
 rw[aM this];exact e
theorem gk{j:Int}(h: -1000000≤j∧j≤1000000):c8 true (.int j)=some (.its (c9 j.toNat)):=by simp only[c8];rw[if_pos h]
theorem jf(n:Nat):(c9 n).length=n:=by simp[c9]
theorem dw{st:aQ}{o:O}(h:n<st.length):(st.set n o)[n]? =some o:=by rw[aN h]
noncomputable def nX:D→Bool
 | .int _=>true
 | .bl _=>true
 | .str _=>true
 | .non=>true
 |_=>false
theorem mr{st:aQ}{a b:O}:(st++[a,b])[st.length]? =some a:=by simp
theorem Bc{st:aQ}{a b:O}:(st++[a,b])[st.length+1]? =some b:=by simp
theorem gA{st:aQ}{a b:O}:(st++[a]).set st.length b=st++[b]:=by simp
theorem cu{st:aQ}{a b c:O}:(st++[a,b]).set st.length c=st++[c,b]:=by simp
section
variable{Q:Nat→aQ→Prop}{g:cY}{st:aQ}{x:Str}{j:Nat}{ds:List D}
theorem oN(h:Wv (g j (.ref st.length::ds) (st++[.err x none false])) fun d st1=>d=.non∧∃m,st1[st.length]? =some (.err x m false)∧Q st.length (st1.set st.length (.err x m true))):W (jj g x j ds st) Q:=by
 unfold jj
 refine aF (W.mono h fun r st1 q=>?_)
 cases r with
 |v d=>
  obtain⟨rfl,m,e,q⟩:=q
  simp only[e]
  rw[if_pos trivial]
  exact q
 |x n=>exact q.elim
end
section
variable{Q:Unit→aQ→Prop}{st:aQ}{cs ics:List Str}{f x:Str}{v:D}
theorem uf{t:Bool}(hx:x∈cs)(h:Q () (st++[.err x (some (st.length+1)) t,.edc [(f,v)]])):W (fE cs ics (.ref st.length) f v (st++[.err x none t])) Q:=by
 have e:(st++[O.err x none t])[st.length]? =some (.err x none t):=bh
 simp only[fE,e]
 rw[if_pos hx,gA]
 show Q () _
 simpa using h
end
section
variable{g:cY}{loc:Loc}{st:aQ}{Q:D→aQ→Prop}{a b e:Ex}{i j:Int}
theorem wQ(h:W (run g a loc st) fun x st1=>∃xs,x=.tup xs∧Q (.ref st1.length) (st1++[.lst xs.reverse])):W (run g (.lrev a) loc st) Q:=by
 rw[run]
 refine aF (h.mono fun x st1 hp=>?_)
 obtain⟨xs,rfl,q⟩:=hp
 exact q
theorem ui(h:W (run g a loc st) fun x st1=>∃n xs ps,x=.ref n∧st1[n]? =some (.lst xs)∧vp xs=some ps∧Q (.ref st1.length) (st1++[.dct (m4 ps)])):W (run g (.dictP a) loc st) Q:=by
 rw[run]
 refine aF (h.mono fun x st1 hp=>?_)
 obtain⟨n,xs,ps,rfl,e1,e2,q⟩:=hp
 simp only[oA,e1,e2]
 exact q
theorem oQ(h:W (run g a loc st) fun x st1=>∃s,x=.str s∧Q (.bl (ks.contains s)) st1):W (run g (.inG ks a) loc st) Q:=by
 rw[run]
 refine aF (h.mono fun x st1 hp=>?_)
 obtain⟨s,rfl,q⟩:=hp
 exact q
theorem uj(h:W (run g a loc st) fun d st1=>∃s,c8 false d=some s∧W (bK (pairF fun x y=>run g b (some x::some y::loc)) s st1) Q):W (run g (.compU a b) loc st) Q:=by
 rw[run]
 refine aF (h.mono fun d st1 hp=>aF ?_)
 obtain⟨s,e1,q⟩:=hp
 unfold dX
 rw[e1]
 exact q
theorem oU(h:W (run g a loc st) fun x st1=>W (run g b loc st1) fun y st2=>∃s,yV x y=some s∧W (bK (pairF fun x y=>run g e (some x::some y::loc)) s st2) Q):W (run g (.compZ a b e) loc st) Q:=by
 rw[run]
 refine aF (h.mono fun x st1 hp=>aF (hp.mono fun y st2 hq=>aF ?_))
 obtain⟨s,e1,q⟩:=hq
 unfold dX
 rw[e1]
 exact q
theorem lj{f:D→D→M D}{x y:D}{Q:Option D→aQ→Prop}(h:W (f x y st) fun z st1=>Q (some z) st1):W (pairF f (.tup [x,y]) st) Q:=aF (h.mono fun _ _ q=>q)
theorem wS{yes no:List Str}(h:W (run g a loc st) fun x st1=>x=.non∧Q (.bl false) st1):W (run g (.isc a yes no) loc st) Q:=by
 rw[run]
 refine aF (h.mono fun x st1 hp=>?_)
 obtain⟨rfl,q⟩:=hp
 exact q
theorem lm{as:List D}(hb:1≤j∧j≤1000∧0<as.length∧as.length≤1000)(h:Q (.tup (List.flatten (List.replicate j.toNat as))) st):W (cW .mul (.tup as) (.int j) st) Q:=by
 simp only[cW]
 rw[if_pos hb]
 exact h
theorem w_inS{x y:D}{ys:List D}{k:Bool}(hs:cJ st y=some ys)(e:iw st x ys=some k)(h:Q (.bl k) st):W (ce .In x y st) Q:=by simp only[ce,hs,e];exact h
theorem nE{xs:List D}{v:D}{Q:Unit→aQ→Prop}(hn:st[n]? =some (.lst xs))(hj:t5 xs.length i=some m)(h:Q () (st.set n (.lst (xs.set m v)))):W (gy (.ref n) (.int i) v st) Q:=by
 simp only[gy,hn,hj];exact h
theorem qS{xs ys:List D}{Q:Unit→aQ→Prop}(hn:st[n]? =some (.lst xs))(hm:st[m]? =some (.lst ys))(hl:xs.length+ys.length≤10000000)(h:Q () (st.set n (.lst (xs++ys)))):W (extend (.ref n) (.ref m) st) Q:=by
 simp only[extend,hn,hm]
 rw[if_pos hl]
 exact h
theorem y0{xs:List D}(h:Q (.ref st.length) (st++[.lst (cutD xs lo hi)])):W (slice (.fl xs) lo hi st) Q:=h
end
section
variable{g:cY}{loc:Loc}{st:aQ}{Q:Fl→aQ→Prop}{ss:List S}{e o:Ex}{i:Int}
theorem y8(h:W (run g o loc st) fun x st1=>W (il x st1) fun _ st2=>W (run g e loc st2) fun d st3=>W (extend x d st3) fun _ st4=>W (execs g ss loc st4) Q):W (execs g (.ext o e::ss) loc st) Q:=
 bB (by rw[exec];exact aF (h.mono fun _ _ q=>aF (q.mono fun _ _ q=>aF (q.mono fun _ _ q=>aF (q.mono fun _ _ q=>q)))))
theorem yY{body suite:List S}{yes:List Str}{i:Nat}(h:W (execs g body loc st) (Kt g yes i suite (Kn g ss Q))):W (execs g (.tryx body yes i suite::ss) loc st) Q:=
 bB (by
  rw[exec]
  refine aF (h.mono fun r st1 q=>?_)
  cases r with
  |nx l=>exact q
  |rt d=>exact q
  |ex n l=>
   obtain⟨x,d,e,hy,q⟩:=q
   simp only[e]
   rw[if_pos hy]
   refine aF (q.mono fun r st2 q=>?_)
   cases r with
   |nx l2=>exact q
   |rt d=>exact q
   |ex _ _=>exact q.elim)
end
section
variable{st:aQ}{f:D→M (Option D)}
theorem iY{s:Src}{L:List D}{Q:List D→aQ→Prop}(I:Nat→List D→aQ→Prop)(nx:∀i acc st,I i acc st→gm s i st=some L[i]?)(step:∀i x acc st,L[i]? =some x→I i acc st→W (f x st) fun o st1=>I (i+1) (match o with|some y=>acc++[y]|none=>acc) st1)
  (fin:∀acc st,I L.length acc st→Q acc st):∀k i acc st,i≤L.length→L.length<k+i→I i acc st→W (cV f s k i acc st) Q
 |0,i,acc,st,h1,h2,h=>by omega
 |k+1,i,acc,st,h1,h2,h=>by
  simp only[cV,nx i acc st h]
  cases e:L[i]? with
  |none=>
   have:i=L.length:=by have:=List.getElem?_eq_none_iff.mp e;omega
   subst this
   exact fin acc st h
  |some x=>
   have hi:=(aH e).1
   refine aF ((step i x acc st e h).mono fun o st1 q=>?_)
   cases o with
   |none=>exact iY I nx step fin k (i+1) acc st1 hi (by omega) q
   |some y=>exact iY I nx step fin k (i+1) (acc++[y]) st1 hi (by omega) q
theorem iX{s:Src}{L:List D}{Q:D→aQ→Prop}(hl:ej s st≤1000000)(hL:L.length≤ej s st)(I:Nat→List D→aQ→Prop)(h0:I 0 [] st)(nx:∀i acc st,I i acc st→gm s i st=some L[i]?)(step:∀i x acc st,L[i]? =some x→I i acc st→W (f x st) fun o st1=>I (i+1) (match o with|some y=>acc++[y]|none=>acc) st1)
  (fin:∀acc st,I L.length acc st→Q (.ref st.length) (st++[.lst acc])):W (bK f s st) Q:=by
 unfold bK
 rw[if_pos hl]
 exact aF (W.mono (iY (Q:=fun acc st=>Q (.ref st.length) (st++[.lst acc])) I nx step fin (ej s st+1) 0 [] st (by omega) (by omega) h0) fun acc st q=>(show Q (.ref st.length) (st++[.lst acc]) from q))
end
noncomputable def fZ:List D→List D→List D
 |x::xs,y::ys=>.tup [x,y]::fZ xs ys
 |_,_=>[]
theorem mj:∀(xs ys:List D),(fZ xs ys).length≤xs.length
 |[],_=>by simp[fZ]
 |_::_,[]=>by simp[fZ]
 |_::xs,_::ys=>by simp[fZ,mj xs ys]
theorem gw:∀(xs ys:List D)(i:Nat),(fZ xs ys)[i]? =(match xs[i]?,ys[i]? with
   |some x,some y=>some (.tup [x,y])
   |_,_=>none)
 |[],_,i=>by simp[fZ]
 |x::xs,[],i=>by
  simp only[fZ,List.getElem?_nil]
  cases(x::xs)[i]?<;>rfl
 |x::xs,y::ys,0=>by simp[fZ]
 |x::xs,y::ys,i+1=>by simp[fZ,gw xs ys i]
local macro_rules| `(tactic|walk_at "ev1")=> `(tactic|with_reducible first
 |refine bJ ?_|(refine a_ (by with_unfolding_all rfl) ?_)|refine dO ?_|refine fc ?_|refine wx ?_|refine dP ?_|refine wr ?_|refine w_not ?_|refine w_and ?_|refine w_or ?_|refine cI ?_|refine um ?_|refine dl ?_|refine nD ?_|refine w_slFrom ?_
 |refine oM ?_|refine fw ?_|refine jS ?_|refine wv ?_|refine y7 ?_|refine wU ?_|refine w_compIf ?_|refine aG ?_|refine aj ?_|refine y_ ?_|refine w_eltIf ?_
 |refine aK ?_|refine cf ?_|refine oK ?_|refine ij ?_|refine w_ret0 ?_|refine fA ?_|refine ke ?_|refine qN ?_|refine cH ?_|refine bo ?_|refine Aj ?_|refine cv ?_|refine wH ?_|refine kf_nx ?_|refine Ak ?_
 |refine w_add ?_|refine w_sub ?_|refine mn ?_|refine y3 ?_|refine w_lt ?_|refine A9 ?_|refine w_gt ?_|refine w_ge ?_|refine qO ?_|refine wR ?_|refine oO ?_|refine w_tupleT ?_|refine qP ?_|refine w_max ?_|refine w_min ?_|refine w_abs ?_
 |(refine w_mul (by omega) ?_)|(refine w_mod (by omega) ?_)|(refine nG (by omega) ?_)|(refine w_pow (by decide) ?_)|(refine bW (by with_unfolding_all rfl) ?_))
local macro_rules| `(tactic|walk_at "ev")=> `(tactic|repeat (walk_at "ev1"))
namespace K18
variable{c i m:Int}{j kp n p v:Nat}{a f:Str}{b r:Bool}{s0 st st' st1:aQ}{loc:Loc}{g:cY}{xs:List D}{Q:Fl→aQ→Prop}{ss:List S}{bd due w x:D}{a0 a1 a10 a11 a2 a3 a4 a7 a8 a9 x0 x1:Option D}
noncomputable abbrev og:Nat:=0
noncomputable def eX:Fn:=⟨1,1,[.ret (.and (.isi (.v 0) .int) (.not (.isi (.v 0) .bool)))]⟩
noncomputable abbrev oi:Nat:=1
noncomputable def eY:Fn:=⟨1,1,[.ret (.isi (.v 0) .bool)]⟩
noncomputable abbrev gn:Nat:=2
noncomputable def eU:Fn:=⟨1,1,[.ite (.cmp .Eq (.ix (.v 0) (.c (.int (0)))) (.c (.str "row"))) [.ret (.comp true (.ix (.v 0) (.c (.int (1)))) (.c (.tup [.str "num"])))] [],.ite (.cmp .Eq (.ix (.v 0) (.c (.int (0)))) (.c (.str "record"))) [.ret (.bt .list [(.ix (.v 0) (.c (.int (1))))])] [],.ret (.lst [])]⟩
noncomputable abbrev ci:Nat:=3
noncomputable def cz:Fn:=⟨2,3,[.ite (.cmp .Eq (.v 1) (.c (.tup [.str "num"]))) [.ret (.fn 0 [(.v 0)])] [],.ite (.cmp .Eq (.v 1) (.c (.tup [.str "truth"]))) [.ret (.fn 1 [(.v 0)])] [],.set 2 (.fn 2 [(.v 1)]),.ite (.or (.not (.isi (.v 0) .tuple)) (.cmp .NotEq (.bt .len [(.v 0)]) (.bt .len [(.v 2)]))) [.ret (.c (.bl false))] [],.ret (.bt .all [(.compE (.v 2) (.fn 3 [(.ix (.v 2) (.v 0)),(.v 1)]))])]⟩
noncomputable abbrev sO:Nat:=4
noncomputable def gK:Fn:=⟨1,1,[.ite (.isi (.v 0) .bool) [.ret (.tup [(.c (.str "truth")),(.v 0)])] [],.ite (.isi (.v 0) .int) [.ret (.tup [(.c (.str "num")),(.v 0)])] [],.ret (.bt .tuple [(.comp false (.v 0) (.fn 4 [(.v 0)]))])]⟩
noncomputable abbrev cL:Nat:=5
noncomputable def bU:Fn:=⟨3,5,[.callx .no 6 [(.bt .len [(.v 0)]),(.v 1)],.forE [3,4] (.v 0) [.ite (.not (.fn 3 [(.ix (.v 1) (.v 3)),(.v 4)])) [.rais "NoInput" 25 [(.v 3)]] []],.callx .no 7 [(.v 2)]]⟩
noncomputable abbrev fN:Nat:=6
noncomputable def cM:Fn:=⟨2,2,[.ite (.or (.not (.isi (.v 1) .list)) (.cmp .NotEq (.bt .len [(.v 1)]) (.v 0))) [.rais "NoInput" 25 [(.c (.non))]] []]⟩
noncomputable abbrev ge:Nat:=7
noncomputable def di:Fn:=⟨1,1,[.ite (.or (.not (.fn 0 [(.v 0)])) (.not (.chain .LtE .LtE (.c (.int (0))) (.v 0) (.c (.int (10000)))))) [.rais "NoBudget" 26 []] []]⟩
noncomputable def eV:Fn:=⟨1,2,[.set 1 (.ix (.v 0) (.c (.int (0)))),.ite (.cmp .In (.v 1) (.tup [(.c (.str "num")),(.c (.str "truth")),(.c (.str "name")),(.c (.str "raise"))])) [.ret (.lst [])] [],.ite (.cmp .In (.v 1) (.tup [(.c (.str "log")),(.c (.str "do")),(.c (.str "return")),(.c (.str "field"))])) [.ret (.lst [(.ix (.v 0) (.c (.int (1))))])] [],.ite (.cmp .In (.v 1) (.tup [(.c (.str "one")),(.c (.str "let")),(.c (.str "set"))])) [.ret (.lst [(.ix (.v 0) (.c (.int (2))))])] [],.ite (.cmp .Eq (.v 1) (.c (.str "setfield"))) [.ret (.lst [(.ix (.v 0) (.c (.int (3))))])] [],.ite (.cmp .Eq (.v 1) (.c (.str "index"))) [.ret (.lst [(.ix (.v 0) (.c (.int (1)))),(.ix (.v 0) (.c (.int (2))))])] [],.ite (.cmp .In (.v 1) (.tup [(.c (.str "two")),(.c (.str "setat"))])) [.ret (.lst [(.ix (.v 0) (.c (.int (2)))),(.ix (.v 0) (.c (.int (3))))])] [],.ret (.fn 9 [(.v 0)])]⟩
noncomputable def b6:Fn:=⟨1,2,[.set 1 (.ix (.v 0) (.c (.int (0)))),.ite (.cmp .Eq (.v 1) (.c (.str "row"))) [.ret (.bt .list [(.ix (.v 0) (.c (.int (1))))])] [],.ite (.cmp .In (.v 1) (.tup [(.c (.str "call")),(.c (.str "new"))])) [.ret (.bt .list [(.ix (.v 0) (.c (.int (2))))])] [],.ite (.cmp .Eq (.v 1) (.c (.str "fun"))) [.ret (.bt .list [(.ix (.v 0) (.c (.int (4))))])] [],.ite (.cmp .Eq (.v 1) (.c (.str "while"))) [.ret (.bin .add (.lst [(.ix (.v 0) (.c (.int (1))))]) (.bt .list [(.ix (.v 0) (.c (.int (2))))]))] [],.ite (.cmp .Eq (.v 1) (.c (.str "if"))) [.ret (.bin .add (.bin .add (.lst [(.ix (.v 0) (.c (.int (1))))]) (.bt .list [(.ix (.v 0) (.c (.int (2))))])) (.bt .list [(.ix (.v 0) (.c (.int (3))))]))] [],.stop]⟩
noncomputable def fW:Fn:=⟨1,4,[.set 1 (.lst [(.v 0)]),.set 2 (.c (.int (0))),.whil (.cmp .Gt (.bt .len [(.v 1)]) (.c (.int (0)))) [.set 3 (.fn 8 [(.pop (.v 1) false)]),.ext (.v 1) (.v 3),.aug 2 (.c (.int (1)))],.ret (.v 2)]⟩
noncomputable abbrev lV:Nat:=11
noncomputable def cm:Fn:=⟨3,5,[.set 3 (.ix (.meth (.v 0) "function_named" [("Typed",41)] [(.c (.str "main"))]) (.c (.int (0)))),.callx .no 5 [(.compU (.v 3) (.v 1)),(.v 1),(.v 2)],.set 4 (.new "Runner" 33 [(.v 0),(.v 2)]),.ex (.meth (.v 4) "begin" [("Runner",34)] [(.c (.str "main")),(.v 1)]),.whil (.cmp .Is (.fld (.v 4) "ending" [] ["Run","Runner"]) (.c (.non))) [.ex (.meth (.v 4) "go_on" [("Runner",35)] [])],.ret (.meth (.v 4) "ended" [("Runner",30)] [])]⟩
noncomputable abbrev gG:Nat:=12
noncomputable def b9:Fn:=⟨3,3,[.ite (.cmp .Lt (.v 2) (.bt .len [(.v 1)])) [.app (.fld (.v 0) "waiting" [] ["Frame"]) (.tup [(.c (.str "rows")),(.v 1),(.bin .add (.v 2) (.c (.int (1))))]),.app (.fld (.v 0) "waiting" [] ["Frame"]) (.ix (.v 1) (.v 2))] []]⟩
noncomputable def iR:Fn:=⟨1,6,[.set 1 (.new "Heads" 42 [(.v 0)]),.set 2 .emp,.for_ 3 false (.ix (.v 0) (.c (.int (1)))) [.set 4 (.bt .tuple [(.compU (.ix (.v 3) (.c (.int (2)))) (.tup [(.v 0),(.meth (.v 3) "told_kind" [("Heads",45)] [(.v 1)])]))]),.set 5 (.meth (.new "Body" 47 [(.v 1),(.ix (.v 3) (.c (.int (3))))]) "told_rows_of" [("Body",48)] [(.v 3)]),.setix (.v 2) (.ix (.v 3) (.c (.int (1)))) (.tup [(.v 4),(.meth (.v 1) "told_kind" [("Heads",45)] [(.ix (.v 3) (.c (.int (3))))]),(.v 5)])],.ret (.new "Typed" 40 [(.v 2)])]⟩
noncomputable def eW:Fn:=⟨3,3,[.ite (.cmp .In (.v 0) (.v 1)) [.stop] []]⟩
noncomputable def dh:Fn:=⟨2,4,[.set 2 .emp,.for_ 3 false (.v 0) [.ex (.fn 14 [(.ix (.v 3) (.c (.int (0)))),(.v 2),(.v 1)]),.setix (.v 2) (.ix (.v 3) (.c (.int (0)))) (.c (.bl true))]]⟩
noncomputable def d9:Fn:=⟨3,3,[.ite (.cmp .NotEq (.ix (.v 0) (.c (.int (1)))) (.v 1)) [.stop] []]⟩
noncomputable abbrev js:Nat:=17
noncomputable def cN:Fn:=⟨2,2,[.ite (.cmp .Lt (.v 1) (.bt .len [(.v 0)])) [.ret (.ix (.v 0) (.v 1))] [],.ret (.c (.int (0)))]⟩
noncomputable abbrev lX:Nat:=18
noncomputable def dF:Fn:=⟨2,3,[.set 2 (.bin .mod (.bin .add (.bin .add (.bin .mul (.bin .mod (.v 0) (.c (.int (2147483629)))) (.c (.int (48271)))) (.bin .mul (.v 1) (.c (.int (7919))))) (.c (.int (104729)))) (.c (.int (2147483629)))),.set 2 (.bin .mod (.bin .add (.bin .add (.bin .mul (.bin .mod (.bin .mul (.v 2) (.v 2)) (.c (.int (2147483629)))) (.c (.int (16807)))) (.bin .mul (.v 1) (.c (.int (104729))))) (.c (.int (11)))) (.c (.int (2147483587)))),.ret (.bin .mod (.bin .mul (.v 2) (.v 2)) (.c (.int (2147483587))))]⟩
noncomputable abbrev mV:Nat:=19
noncomputable def d_:Fn:=⟨1,3,[.set 1 (.tup [(.tup [(.c (.str "a")),(.tup [(.c (.str "num"))])]),(.tup [(.c (.str "b")),(.tup [(.c (.str "truth"))])]),(.tup [(.c (.str "r")),(.tup [(.c (.str "row")),(.v 0)])]),(.tup [(.c (.str "p")),(.tup [(.c (.str "named")),(.c (.str "pair"))])])]),.set 2 (.tup [(.c (.str "fun")),(.c (.str "main")),(.v 1),(.tup [(.c (.str "num"))]),(.tup [(.tup [(.c (.str "return")),(.tup [(.c (.str "name")),(.c (.str "a"))])])])]),.ret (.fn 13 [(.tup [(.tup [(.tup [(.c (.str "pair")),(.tup [(.tup [(.c (.str "x")),(.tup [(.c (.str "num"))])]),(.tup [(.c (.str "y")),(.tup [(.c (.str "truth"))])])])])]),(.tup [(.v 2)])])])]⟩
noncomputable abbrev lW:Nat:=20
noncomputable def dE:Fn:=⟨2,3,[.set 2 (.lst [(.c (.non)),(.c (.str "1")),(.c (.int (1))),(.c (.bl true)),(.c (.bl false)),(.lst []),(.tup []),.emp,(.c (.int (0))),(.neg (.c (.int (5))))]),.set 2 (.bin .add (.v 2) (.lst [(.bin .mul (.tup [(.c (.int (1)))]) (.v 1)),(.bin .mul (.tup [(.c (.int (1)))]) (.bin .add (.v 1) (.c (.int (1))))),(.bin .mul (.tup [(.c (.bl true))]) (.v 1)),(.tup [(.c (.int (1))),(.c (.bl true))]),(.tup [(.c (.int (1))),(.c (.int (1)))])])),.ret (.ix (.v 2) (.bin .mod (.fn 18 [(.v 0),(.c (.int (1)))]) (.c (.int (15)))))]⟩
noncomputable abbrev d7:Nat:=21
noncomputable def cF:Fn:=⟨2,3,[.ite (.cmp .Eq (.v 1) (.tup [(.c (.str "num"))])) [.ret (.and (.isi (.v 0) .int) (.not (.isi (.v 0) .bool)))] [],.ite (.cmp .Eq (.v 1) (.tup [(.c (.str "truth"))])) [.ret (.isi (.v 0) .bool)] [],.set 2 (.ite (.cmp .Eq (.ix (.v 1) (.c (.int (0)))) (.c (.str "row"))) (.bin .mul (.lst [(.tup [(.c (.str "num"))])]) (.ix (.v 1) (.c (.int (1))))) (.bt .list [(.ix (.v 1) (.c (.int (1))))])),.ite (.or (.not (.isi (.v 0) .tuple)) (.cmp .NotEq (.bt .len [(.v 0)]) (.bt .len [(.v 2)]))) [.ret (.c (.bl false))] [],.ret (.bt .all [(.compZ (.v 0) (.v 2) (.fn 21 [(.v 0),(.v 1)]))])]⟩
noncomputable abbrev gp:Nat:=22
noncomputable def cA:Fn:=⟨3,5,[.ite (.or (.not (.isi (.v 1) .list)) (.cmp .NotEq (.bt .len [(.v 1)]) (.bt .len [(.v 0)]))) [.ret (.tup [(.c (.str "input")),(.c (.non))])] [],.forE [3,4] (.v 0) [.ite (.not (.fn 21 [(.ix (.v 1) (.v 3)),(.v 4)])) [.ret (.tup [(.c (.str "input")),(.v 3)])] []],.ite (.or (.not (.fn 21 [(.v 2),(.tup [(.c (.str "num"))])])) (.not (.chain .LtE .LtE (.c (.int (0))) (.v 2) (.c (.int (10000)))))) [.ret (.tup [(.c (.str "budget")),(.c (.non))])] [],.ret (.tup [(.c (.str "good")),(.c (.non))])]⟩
noncomputable abbrev j3:Nat:=23
noncomputable def bZ:Fn:=⟨5,7,[.set 5 (.c (.non)),.tryx [.ite (.cmp .Eq (.v 0) (.c (.int (0)))) [.callx .no 11 [(.v 1),(.v 3),(.v 4)]] [.callx .no 5 [(.v 2),(.v 3),(.v 4)]]] ["NoInput","NoBudget"] 6 [.set 5 (.v 6)],.ite (.and (.isc (.v 5) ["NoInput"] ["NoBudget"]) (.not (.isc (.v 5) ["NoBudget"] ["NoInput"]))) [.ret (.tup [(.c (.str "input")),(.fld (.v 5) "place" ["NoInput","NoBudget"] [])])] [],.ite (.cmp .Is (.v 5) (.c (.non))) [.ret (.tup [(.c (.str "good")),(.c (.non))])] [],.ret (.ix (.lst [(.tup [(.c (.str "other")),(.c (.non))]),(.tup [(.c (.str "budget")),(.c (.non))])]) (.bt .int [(.isc (.v 5) ["NoBudget"] ["NoInput"])]))]⟩
noncomputable abbrev An:Nat:=24
noncomputable def pH:Fn:=⟨1,12,[.set 1 (.bin .add (.c (.int (1))) (.bin .mod (.fn 18 [(.fn 17 [(.v 0),(.c (.int (0)))]),(.c (.int (1)))]) (.c (.int (6))))),.set 2 (.fn 19 [(.v 1)]),.set 3 (.lst [(.tup [(.c (.str "num"))]),(.tup [(.c (.str "truth"))]),(.tup [(.c (.str "row")),(.v 1)]),(.tup [(.c (.str "record")),(.tup [(.tup [(.c (.str "num"))]),(.tup [(.c (.str "truth"))])])])]),.for_ 4 false (.bin .add (.sl (.v 0) (.c (.int (30))) (.c (.int (30))) false true) (.lst [(.c (.int (1))),(.c (.int (2))),(.c (.int (3)))])) [.set 5 (.fn 18 [(.v 4),(.c (.int (3)))]),.set 6 (.lst [(.c (.int (7))),(.c (.bl true)),(.bin .mul (.tup [(.c (.int (1)))]) (.v 1)),(.tup [(.c (.int (2))),(.c (.bl false))])]),.for_ 7 true (.bin .mod (.v 5) (.c (.int (3)))) [.setix (.v 6) (.bin .mod (.fn 18 [(.v 4),(.bin .add (.c (.int (10))) (.v 7))]) (.c (.int (4)))) (.fn 20 [(.bin .add (.v 4) (.v 7)),(.v 1)])],.ite (.cmp .Eq (.bin .mod (.bin .fdiv (.v 5) (.c (.int (3)))) (.c (.int (5)))) (.c (.int (0)))) [.set 6 (.ix (.lst [(.c (.non)),(.sl (.v 6) (.c (.int (3))) (.c (.int (3))) false true),(.bin .add (.v 6) (.lst [(.c (.int (1)))])),(.bt .tuple [(.v 6)]),.emp,(.lst [])]) (.bin .mod (.bin .fdiv (.v 5) (.c (.int (15)))) (.c (.int (6)))))] [],.set 8 (.ix (.lst [(.c (.int (0))),(.c (.int (10000))),(.c (.int (10001))),(.neg (.c (.int (1)))),(.c (.bl true)),(.c (.non)),(.c (.str "5")),(.lst []),(.bin .pow (.c (.int (10))) (.c (.int (30)))),(.c (.int (3)))]) (.bin .mod (.bin .fdiv (.v 5) (.c (.int (100)))) (.c (.int (10))))),.set 9 (.fn 22 [(.v 3),(.v 6),(.v 8)]),.for_ 10 true (.c (.int (2))) [.set 11 (.fn 23 [(.v 10),(.v 2),(.v 3),(.v 6),(.v 8)]),.ite (.or (.cmp .NotEq (.v 11) (.v 9)) (.isi (.ix (.v 11) (.c (.int (1)))) .bool)) [.ret (.c (.bl false))] []]],.ret (.c (.bl true))]⟩
noncomputable abbrev jv:Nat:=25
noncomputable def cQ:Fn:=⟨2,2,[.setf (.v 0) "place" (.v 1) ["NoInput","NoBudget"] []]⟩
noncomputable abbrev iD:Nat:=26
noncomputable def cx:Fn:=⟨1,1,[.pass]⟩
noncomputable abbrev oj:Nat:=27
noncomputable def eZ:Fn:=⟨6,6,[.setf (.v 0) "ending" (.v 1) [] ["Run","Runner"],.setf (.v 0) "thing" (.v 2) [] ["Run","Runner"],.setf (.v 0) "log" (.bt .list [(.v 3)]) [] ["Run","Runner"],.setf (.v 0) "kept_log" (.bt .tuple [(.v 3)]) [] ["Run"],.setf (.v 0) "took" (.v 4) [] ["Run","Runner"],.setf (.v 0) "steps" (.v 5) [] ["Run","Runner"]]⟩
noncomputable abbrev lY:Nat:=28
noncomputable def dJ:Fn:=⟨2,2,[.setf (.v 0) "budget" (.v 1) [] ["Runner"],.setf (.v 0) "log" (.lst []) [] ["Run","Runner"],.setf (.v 0) "took" (.c (.int (0))) [] ["Run","Runner"],.setf (.v 0) "steps" (.c (.int (0))) [] ["Run","Runner"],.setf (.v 0) "ending" (.c (.non)) [] ["Run","Runner"],.setf (.v 0) "thing" (.c (.non)) [] ["Run","Runner"]]⟩
noncomputable abbrev jw:Nat:=29
noncomputable def cR:Fn:=⟨2,2,[.setf (.v 0) "ending" (.c (.str "answer")) [] ["Run","Runner"],.setf (.v 0) "thing" (.fn 4 [(.v 1)]) [] ["Run","Runner"]]⟩
noncomputable abbrev j5:Nat:=30
noncomputable def dk:Fn:=⟨1,1,[.ret (.new "Run" 27 [(.fld (.v 0) "ending" [] ["Run","Runner"]),(.fld (.v 0) "thing" [] ["Run","Runner"]),(.fld (.v 0) "log" [] ["Run","Runner"]),(.fld (.v 0) "took" [] ["Run","Runner"]),(.fld (.v 0) "steps" [] ["Run","Runner"])])]⟩
noncomputable abbrev lZ:Nat:=31
noncomputable def dL:Fn:=⟨3,3,[.setf (.v 0) "have" (.v 1) [] ["Frame"],.setf (.v 0) "waiting" (.lst [(.tup [(.c (.str "rows")),(.v 2),(.c (.int (0)))])]) [] ["Frame"],.setf (.v 0) "reckoned_parts" (.lst []) [] ["Frame"]]⟩
noncomputable abbrev ia:Nat:=32
noncomputable def cn:Fn:=⟨3,3,[.app (.fld (.v 0) "waiting" [] ["Frame"]) (.v 1),.ext (.fld (.v 0) "waiting" [] ["Frame"]) (.lrev (.v 2))]⟩
noncomputable abbrev j4:Nat:=33
noncomputable def dj:Fn:=⟨3,3,[.ex (.fn 28 [(.v 0),(.v 2)]),.setf (.v 0) "program" (.v 1) [] ["Runner"],.setf (.v 0) "frames" (.lst []) [] ["Runner"]]⟩
noncomputable abbrev ju:Nat:=34
noncomputable def cP:Fn:=⟨3,5,[.set 3 (.meth (.fld (.v 0) "program" [] ["Runner"]) "function_named" [("Typed",41)] [(.v 1)]),.set 4 (.dictP (.compZ (.ix (.v 3) (.c (.int (0)))) (.v 2) (.tup [(.ix (.v 0) (.c (.int (0)))),(.v 1)]))),.app (.fld (.v 0) "frames" [] ["Runner"]) (.new "Frame" 31 [(.v 4),(.ix (.v 3) (.c (.int (2))))])]⟩
noncomputable abbrev cj:Nat:=35
noncomputable def bp:Fn:=⟨1,3,[.set 1 (.ix (.fld (.v 0) "frames" [] ["Runner"]) (.neg (.c (.int (1))))),.ite (.cmp .Eq (.bt .len [(.fld (.v 1) "waiting" [] ["Frame"])]) (.c (.int (0)))) [.ex (.meth (.v 0) "fault_comes" [] [(.c (.str "end"))]),.ret0] [],.set 2 (.pop (.fld (.v 1) "waiting" [] ["Frame"]) false),.ite (.inG ["const","local","op","call","let","set","if","while","log","do","return","raise","try"] (.ix (.v 2) (.c (.int (0))))) [.augf (.v 0) "steps" (.c (.int (1))) ["Run","Runner"],.ex (.meth (.v 0) "begin_node" [("Runner",36)] [(.v 1),(.v 2)])] [.ex (.meth (.v 0) "go_on_with" [("Runner",37)] [(.v 1),(.v 2)])]]⟩
noncomputable def bM:Fn:=⟨3,4,[.set 3 (.ix (.v 2) (.c (.int (0)))),.ite (.cmp .Eq (.v 3) (.c (.str "const"))) [.app (.fld (.v 1) "reckoned_parts" [] ["Frame"]) (.ix (.ix (.v 2) (.c (.int (1)))) (.c (.int (1))))] [.ite (.cmp .Eq (.v 3) (.c (.str "local"))) [.app (.fld (.v 1) "reckoned_parts" [] ["Frame"]) (.ix (.fld (.v 1) "have" [] ["Frame"]) (.ix (.v 2) (.c (.int (1)))))] [.ite (.cmp .Eq (.v 3) (.c (.str "op"))) [.ex (.meth (.v 1) "wait_for" [("Frame",32)] [(.tup [(.c (.str "reckon")),(.v 2)]),(.ix (.v 2) (.c (.int (3))))])] [.ite (.cmp .Eq (.v 3) (.c (.str "call"))) [.ex (.meth (.v 1) "wait_for" [("Frame",32)] [(.tup [(.c (.str "enter")),(.v 2)]),(.ix (.v 2) (.c (.int (2))))])] [.ite (.cmp .In (.v 3) (.tup [(.c (.str "let")),(.c (.str "set"))])) [.ex (.meth (.v 1) "wait_for" [("Frame",32)] [(.tup [(.c (.str "keep")),(.ix (.v 2) (.c (.int (1))))]),(.tup [(.ix (.v 2) (.c (.int (2))))])])] [.ite (.cmp .Eq (.v 3) (.c (.str "if"))) [.ex (.meth (.v 1) "wait_for" [("Frame",32)] [(.tup [(.c (.str "choose")),(.v 2)]),(.tup [(.ix (.v 2) (.c (.int (1))))])])] [.ite (.cmp .Eq (.v 3) (.c (.str "while"))) [.app (.fld (.v 1) "waiting" [] ["Frame"]) (.tup [(.c (.str "ask")),(.v 2)])] [.ite (.cmp .Eq (.v 3) (.c (.str "log"))) [.ex (.meth (.v 1) "wait_for" [("Frame",32)] [(.tup [(.c (.str "write"))]),(.tup [(.ix (.v 2) (.c (.int (1))))])])] [.ite (.cmp .Eq (.v 3) (.c (.str "do"))) [.ex (.meth (.v 1) "wait_for" [("Frame",32)] [(.tup [(.c (.str "drop"))]),(.tup [(.ix (.v 2) (.c (.int (1))))])])] [.ite (.cmp .Eq (.v 3) (.c (.str "return"))) [.ex (.meth (.v 1) "wait_for" [("Frame",32)] [(.tup [(.c (.str "leave"))]),(.tup [(.ix (.v 2) (.c (.int (1))))])])] [.ite (.cmp .Eq (.v 3) (.c (.str "raise"))) [.ex (.meth (.v 0) "fault_comes" [] [(.ix (.v 2) (.c (.int (1))))])] [.ex (.meth (.v 1) "wait_for" [("Frame",32)] [(.tup [(.c (.str "tried")),(.ix (.v 2) (.c (.int (2))))]),(.tup [(.tup [(.c (.str "rows")),(.ix (.v 2) (.c (.int (1)))),(.c (.int (0)))])])])]]]]]]]]]]]]⟩
noncomputable def bL:Fn:=⟨3,4,[.set 3 (.ix (.v 2) (.c (.int (0)))),.ite (.cmp .Eq (.v 3) (.c (.str "rows"))) [.ex (.fn 12 [(.v 1),(.ix (.v 2) (.c (.int (1)))),(.ix (.v 2) (.c (.int (2))))])] [.ite (.cmp .Eq (.v 3) (.c (.str "reckon"))) [.ex (.meth (.v 0) "reckon" [] [(.v 1),(.ix (.v 2) (.c (.int (1))))])] [.ite (.cmp .Eq (.v 3) (.c (.str "enter"))) [.ex (.meth (.v 0) "enter" [] [(.ix (.ix (.v 2) (.c (.int (1)))) (.c (.int (1)))),(.meth (.v 1) "taken" [] [(.bt .len [(.ix (.ix (.v 2) (.c (.int (1)))) (.c (.int (2))))])])])] [.ite (.cmp .Eq (.v 3) (.c (.str "ask"))) [.ex (.meth (.v 0) "ask" [] [(.v 1),(.ix (.v 2) (.c (.int (1))))])] [.ite (.cmp .NotEq (.v 3) (.c (.str "tried"))) [.ex (.meth (.v 0) "use" [("Runner",38)] [(.v 1),(.v 2),(.pop (.fld (.v 1) "reckoned_parts" [] ["Frame"]) false)])] []]]]]]⟩
noncomputable def dH:Fn:=⟨4,5,[.set 4 (.ix (.v 2) (.c (.int (0)))),.ite (.cmp .Eq (.v 4) (.c (.str "keep"))) [.setix (.fld (.v 1) "have" [] ["Frame"]) (.ix (.v 2) (.c (.int (1)))) (.v 3)] [.ite (.cmp .Eq (.v 4) (.c (.str "choose"))) [.app (.fld (.v 1) "waiting" [] ["Frame"]) (.tup [(.c (.str "rows")),(.ite (.v 3) (.ix (.ix (.v 2) (.c (.int (1)))) (.c (.int (2)))) (.ix (.ix (.v 2) (.c (.int (1)))) (.c (.int (3))))),(.c (.int (0)))])] [.ite (.and (.cmp .Eq (.v 4) (.c (.str "loop"))) (.v 3)) [.ex (.meth (.v 1) "wait_for" [("Frame",32)] [(.tup [(.c (.str "ask")),(.ix (.v 2) (.c (.int (1))))]),(.tup [(.tup [(.c (.str "rows")),(.ix (.ix (.v 2) (.c (.int (1)))) (.c (.int (2)))),(.c (.int (0)))])])])] [.ite (.cmp .Eq (.v 4) (.c (.str "write"))) [.ex (.meth (.v 0) "write" [] [(.v 3)])] [.ite (.cmp .Eq (.v 4) (.c (.str "leave"))) [.ex (.meth (.v 0) "leave" [("Runner",39)] [(.v 3)])] []]]]]]⟩
noncomputable abbrev jt:Nat:=39
noncomputable def cO:Fn:=⟨2,2,[.ex (.pop (.fld (.v 0) "frames" [] ["Runner"]) false),.ite (.cmp .Eq (.bt .len [(.fld (.v 0) "frames" [] ["Runner"])]) (.c (.int (0)))) [.ex (.meth (.v 0) "answer" [("Runner",29)] [(.v 1)])] [.app (.fld (.ix (.fld (.v 0) "frames" [] ["Runner"]) (.neg (.c (.int (1))))) "reckoned_parts" [] ["Frame"]) (.v 1)]]⟩
noncomputable def dG:Fn:=⟨2,2,[.setf (.v 0) "functions" (.bt .dict [(.v 1)]) [] ["Typed","Heads"],.setf (.v 0) "kept_functions" (.bt .dict [(.v 1)]) [] ["Typed"]]⟩
noncomputable abbrev eT:Nat:=41
noncomputable def bA:Fn:=⟨2,2,[.ret (.ix (.fld (.v 0) "kept_functions" [] ["Typed"]) (.v 1))]⟩
noncomputable def dI:Fn:=⟨2,6,[.setf (.v 0) "records" .emp [] ["Heads"],.setf (.v 0) "functions" .emp [] ["Typed","Heads"],.set 2 (.c (.int (0))),.forU [3,4] (.ix (.v 1) (.c (.int (0)))) [.ex (.fn 14 [(.v 3),(.fld (.v 0) "records" [] ["Heads"]),(.v 2)]),.ex (.fn 15 [(.v 4),(.v 2)]),.setix (.fld (.v 0) "records" [] ["Heads"]) (.v 3) (.tup [(.v 2),(.v 4)]),.aug 2 (.c (.int (1)))],.for_ 5 false (.ix (.v 1) (.c (.int (1)))) [.ex (.meth (.v 0) "look_at_function" [("Heads",43)] [(.v 5),(.v 2)]),.aug 2 (.fn 10 [(.v 5)])],.ite (.cmp .NotIn (.c (.str "main")) (.fld (.v 0) "functions" [] ["Typed","Heads"])) [.stop] []]⟩
noncomputable def bu:Fn:=⟨3,6,[.ex (.fn 14 [(.ix (.v 1) (.c (.int (1)))),(.fld (.v 0) "functions" [] ["Typed","Heads"]),(.v 2)]),.set 3 .emp,.forU [4,5] (.ix (.v 1) (.c (.int (2)))) [.ex (.meth (.v 0) "need_record" [("Heads",44)] [(.v 5),(.v 2)]),.ex (.fn 14 [(.v 4),(.v 3),(.v 2)]),.setix (.v 3) (.v 4) (.c (.bl true))],.ex (.meth (.v 0) "need_record" [("Heads",44)] [(.ix (.v 1) (.c (.int (3)))),(.v 2)]),.setix (.fld (.v 0) "functions" [] ["Typed","Heads"]) (.ix (.v 1) (.c (.int (1)))) (.tup [(.v 2),(.ix (.v 1) (.c (.int (2)))),(.ix (.v 1) (.c (.int (3))))])]⟩
noncomputable def bN:Fn:=⟨3,3,[.ite (.and (.cmp .Eq (.ix (.v 1) (.c (.int (0)))) (.c (.str "named"))) (.cmp .NotIn (.ix (.v 1) (.c (.int (1)))) (.fld (.v 0) "records" [] ["Heads"]))) [.stop] []]⟩
noncomputable def b_:Fn:=⟨2,2,[.ite (.cmp .NotEq (.ix (.v 1) (.c (.int (0)))) (.c (.str "named"))) [.ret (.v 1)] [],.ret (.tup [(.c (.str "record")),(.bt .tuple [(.comp false (.meth (.v 0) "fields_of" [("Heads",46)] [(.v 1)]) (.ix (.v 0) (.c (.int (1)))))])])]⟩
noncomputable def cb:Fn:=⟨2,2,[.ret (.ix (.ix (.fld (.v 0) "records" [] ["Heads"]) (.ix (.v 1) (.c (.int (1))))) (.c (.int (1))))]⟩
noncomputable def eg:Fn:=⟨3,3,[.setf (.v 0) "heads" (.v 1) [] ["Body"],.setf (.v 0) "gives" (.v 2) [] ["Body"]]⟩
noncomputable def bO:Fn:=⟨2,4,[.set 2 (.ix (.ix (.fld (.fld (.v 0) "heads" [] ["Body"]) "functions" [] ["Typed","Heads"]) (.ix (.v 1) (.c (.int (1))))) (.c (.int (0)))),.set 3 (.dictP (.compU (.ix (.v 1) (.c (.int (2)))) (.tup [(.v 0),(.tup [(.v 1),(.v 4)])]))),.ret (.meth (.v 0) "look_at_rows" [("Body",49)] [(.ix (.v 1) (.c (.int (4)))),(.bin .add (.v 2) (.c (.int (1)))),(.v 3)])]⟩
noncomputable def bP:Fn:=⟨4,7,[.set 4 (.bt .dict [(.v 3)]),.set 5 (.lst []),.for_ 6 false (.v 1) [.app (.v 5) (.meth (.v 0) "look_at_row" [("Body",50)] [(.v 6),(.v 2),(.v 4)]),.aug 2 (.fn 10 [(.v 6)])],.ret (.bt .tuple [(.v 5)])]⟩
noncomputable def bV:Fn:=⟨4,6,[.set 4 (.ix (.v 1) (.c (.int (0)))),.ite (.cmp .Eq (.v 4) (.c (.str "raise"))) [.ret (.v 1)] [],.ite (.cmp .Eq (.v 4) (.c (.str "try"))) [.ret (.meth (.v 0) "look_at_try" [] [(.v 1),(.v 2),(.v 3)])] [],.ite (.cmp .In (.v 4) (.tup [(.c (.str "if")),(.c (.str "while"))])) [.ret (.meth (.v 0) "look_at_tested" [] [(.v 1),(.v 2),(.v 3)])] [],.set 5 (.meth (.v 0) "look_at_parts" [("Body",51)] [(.v 1),(.v 2),(.v 3)]),.ite (.cmp .Eq (.v 4) (.c (.str "let"))) [.ret (.meth (.v 0) "look_at_let" [] [(.v 1),(.v 2),(.v 3),(.ix (.v 5) (.c (.int (0))))])] [],.ite (.cmp .In (.v 4) (.tup [(.c (.str "set")),(.c (.str "setat")),(.c (.str "setfield"))])) [.ret (.meth (.v 0) "look_at_set" [] [(.v 1),(.v 2),(.v 3),(.v 5)])] [],.ite (.and (.cmp .Eq (.v 4) (.c (.str "log"))) (.cmp .NotIn (.ix (.ix (.v 5) (.c (.int (0)))) (.c (.int (1)))) (.tup [(.c (.tup [.str "num"])),(.c (.tup [.str "truth"]))]))) [.stop] [],.ite (.cmp .Eq (.v 4) (.c (.str "return"))) [.ex (.fn 16 [(.ix (.v 5) (.c (.int (0)))),(.fld (.v 0) "gives" [] ["Body"]),(.v 2)])] [],.ret (.tup [(.v 4),(.ix (.ix (.v 5) (.c (.int (0)))) (.c (.int (0))))])]⟩
noncomputable def bF:Fn:=⟨4,7,[.set 4 (.lst []),.set 5 (.bin .add (.v 2) (.c (.int (1)))),.for_ 6 false (.fn 8 [(.v 1)]) [.app (.v 4) (.meth (.v 0) "look_at" [("Body",52)] [(.v 6),(.v 5),(.v 3)]),.aug 5 (.fn 10 [(.v 6)])],.ret (.v 4)]⟩
noncomputable def cT:Fn:=⟨4,8,[.set 4 (.meth (.v 0) "look_at_parts" [("Body",51)] [(.v 1),(.v 2),(.v 3)]),.set 5 (.ix (.v 1) (.c (.int (0)))),.ite (.cmp .In (.v 5) (.tup [(.c (.str "num")),(.c (.str "truth"))])) [.ret (.tup [(.tup [(.c (.str "const")),(.v 1)]),(.tup [(.v 5)]),(.v 2)])] [],.ite (.cmp .Eq (.v 5) (.c (.str "name"))) [.ret (.meth (.v 0) "look_at_name" [("Body",53)] [(.ix (.v 1) (.c (.int (1)))),(.v 2),(.v 3)])] [],.ite (.cmp .Eq (.v 5) (.c (.str "call"))) [.ret (.meth (.v 0) "look_at_call" [] [(.ix (.v 1) (.c (.int (1)))),(.v 2),(.v 4)])] [],.ite (.cmp .Eq (.v 5) (.c (.str "new"))) [.ret (.meth (.v 0) "look_at_new" [] [(.ix (.v 1) (.c (.int (1)))),(.v 2),(.v 4)])] [],.ite (.cmp .Eq (.v 5) (.c (.str "field"))) [.ret (.meth (.v 0) "look_at_field" [] [(.ix (.v 1) (.c (.int (2)))),(.v 2),(.v 4)])] [],.ite (.cmp .Eq (.v 5) (.c (.str "row"))) [.stop,.set 6 (.tup [(.c (.str "row")),(.bt .len [(.v 4)])]),.stop] [],.ite (.cmp .Eq (.v 5) (.c (.str "index"))) [.stop,.ex (.fn 16 [(.ix (.v 4) (.c (.int (1)))),(.c (.tup [.str "num"])),(.v 2)]),.stop] [],.stop,.stop,.stop]⟩
noncomputable def bQ:Fn:=⟨4,5,[.ite (.cmp .NotIn (.v 1) (.v 3)) [.stop] [],.set 4 (.ix (.ix (.v 3) (.v 1)) (.c (.int (0)))),.ret (.tup [(.tup [(.c (.str "local")),(.v 1),(.meth (.fld (.v 0) "heads" [] ["Body"]) "told_kind" [("Heads",45)] [(.v 4)])]),(.v 4),(.v 2)])]⟩
noncomputable def tab:List Fn:=[eX,eY,eU,cz,gK,bU,cM,di,eV,b6,fW,cm,b9,iR,eW,dh,d9,cN,dF,d_,dE,cF,cA,bZ,pH,cQ,cx,eZ,dJ,cR,dk,dL,cn,dj,cP,bp,bM,bL,dH,cO,dG,bA,dI,bu,bN,b_,cb,eg,bO,bP,bV,bF,cT,bQ]
local macro_rules| `(tactic|walk_at "call0")=> `(tactic|(refine wV rfl rfl ?_;dsimp only[eX,eY,eU,cz,gK,bU,cM,di,eV,b6,fW,cm,b9,iR,eW,dh,d9,cN,dF,d_,dE,cF,cA,bZ,pH,cQ,cx,eZ,dJ,cR,dk,dL,cn,dj,cP,bp,bM,bL,dH,cO,dG,bA,dI,bu,bN,b_,cb,eg,bO,bP,bV,bF,cT,bQ,List.map,List.length,List.replicate,List.append,HAppend.hAppend,Append.append]))
local macro_rules| `(tactic|walk_at "callx0")=> `(tactic|(refine uo rfl rfl ?_;dsimp only[eX,eY,eU,cz,gK,bU,cM,di,eV,b6,fW,cm,b9,iR,eW,dh,d9,cN,dF,d_,dE,cF,cA,bZ,pH,cQ,cx,eZ,dJ,cR,dk,dL,cn,dj,cP,bp,bM,bL,dH,cO,dG,bA,dI,bu,bN,b_,cb,eg,bO,bP,bV,bF,cT,bQ,List.map,List.length,List.replicate,List.append,HAppend.hAppend,Append.append]))
local macro_rules| `(tactic|walk_at "call")=> `(tactic|(walk_at "call0";walk_at "ev"))
local macro_rules| `(tactic|walk_at "callx")=> `(tactic|(walk_at "callx0";walk_at "ev"))
inductive Kd where
 |num|truth|row (n:Nat)|rcd (ps:List Bool)
noncomputable def pd(b:Bool):D:=if b then .tup [.str "truth"] else .tup [.str "num"]
noncomputable def Kd.d:Kd→D
 | .num=>.tup [.str "num"]
 | .truth=>.tup [.str "truth"]
 | .row n=>.tup [.str "row",.int n]
 | .rcd ps=>.tup [.str "record",.tup (ps.map pd)]
noncomputable def Kd.ok:Kd→Prop
 | .row n=>1≤n∧n≤6
 | .rcd ps=>1≤ps.length∧ps.length≤4
 |_=>True
noncomputable def Kd.parts:Kd→List Bool
 | .row n=>List.replicate n false
 | .rcd ps=>ps
 |_=>[]
noncomputable def sc:Bool→D→Prop
 |false,d=>∃i,d=.int i
 |true,d=>∃b,d=.bl b
noncomputable def zt:List Bool→List D→Prop
 |[],[]=>True
 |b::bs,d::ds=>sc b d∧zt bs ds
 |_,_=>False
noncomputable def fits:Kd→D→Prop
 | .num,d=>sc false d
 | .truth,d=>sc true d
 |k,d=>∃xs,d=.tup xs∧zt k.parts xs
noncomputable def Bd:D→D
 | .int i=>.tup [.str "num",.int i]
 | .bl b=>.tup [.str "truth",.bl b]
 |d=>d
theorem lD:∀{bs:List Bool}{ds:List D},zt bs ds→ds.length=bs.length
 |[],[],_=>rfl
 |_::_,_::_,h=>by simp[lD h.2]
noncomputable def Cf(c m:Int):Int:=(c % 2147483629*48271+m*7919+104729) % 2147483629
noncomputable def Ce(n m:Int):Int:=(n*n % 2147483629*16807+m*104729+11) % 2147483587
noncomputable def mx(c m:Int):Int:=Ce (Cf c m) m*Ce (Cf c m) m % 2147483587
section
variable{k:Nat}{st:aQ}{Q:D→aQ→Prop}
theorem iK(h:Q (.int (mx c m)) st):Wv (calls tab (k+1) lX [.int c,.int m] st) Q:=by
 walk_at "call"
 exact h
theorem xu{ns:List Int}(h:∀i,Q (.int i) st):Wv (calls tab (k+1) js [.fl (ns.map .int),.int j] st) Q:=by
 walk_at "call"
 refine⟨_,rfl,fun hj=>?_,fun _=>?_⟩
 ·walk_at "ev"
  have hj:=of_decide_eq_true hj
  obtain⟨d,e,e2⟩:=gu (xs:=ns.map D.int) (i:=(j:Int)) (by omega) (by simpa using hj)
  refine y4 e ?_
  rw[aR] at e2
  cases q:ns[(j:Int).toNat]? with
  |none=>rw[q] at e2;cases e2
  |some i=>rw[q] at e2;cases e2;exact h i
 ·walk_at "ev"
  exact h 0
end
theorem _root_.Ev.Gr.set{st st':aQ}{p:Nat}{o:O}(h:Gr st st')(hp:st.length≤p):Gr st (st'.set p o):=by
 obtain⟨t,rfl⟩:=h
 exact⟨t.set (p - st.length) o,by rw[List.set_append_right _ _ hp]⟩
section
variable{st:aQ}
theorem tq(kd:Kd):fO 60 st kd.d (.tup [.str "num"])=some (match kd with| .num=>true|_=>false):=by
 cases kd<;>simp[fO,shape,dU,nB,oz,Kd.d]<;>decide+kernel
theorem tm(kd:Kd):fO 60 st kd.d (.tup [.str "truth"])=some (match kd with| .truth=>true|_=>false):=by
 cases kd<;>simp[fO,shape,dU,nB,oz,Kd.d]<;>decide+kernel
theorem sr(b:Bool):fO 60 st (pd b) (.tup [.str "num"])=some (!b):=by
 cases b<;>simp[fO,shape,dU,nB,oz,pd]<;>decide+kernel
theorem sq(b:Bool):fO 60 st (pd b) (.tup [.str "truth"])=some b:=by
 cases b<;>simp[fO,shape,dU,nB,oz,pd]<;>decide+kernel
noncomputable def Kd.hd:Kd→Str
 | .num=> "num"
 | .truth=> "truth"
 | .row _=> "row"
 | .rcd _=> "record"
theorem eq_str{b:Str}:fO 60 st (.str a) (.str b)=some (a==b):=by simp[fO,shape,oz]
end
noncomputable def Kd.long:Kd→Bool
 | .row _=>true
 | .rcd _=>true
 |_=>false
noncomputable def ki(st:aQ):Bool→D→Option Bool
 |false,d=>match bY st .int d,bY st .bool d with
  |some a,some b=>some (a&& !b)
  |_,_=>none
 |true,d=>bY st .bool d
noncomputable def jY:D→Prop
 | .ref _=>False
 |_=>True
noncomputable def o0:Bool→D→Bool
 |false,.int _=>true
 |true,.bl _=>true
 |_,_=>false
theorem mz{d:D}(h:jY d):ki st b d=some (o0 b d):=by
 cases d<;>cases b<;>first|rfl|cases h
theorem w_{d:D}(h:sc b d):o0 b d=true∧jY d:=by
 cases b
 ·obtain⟨i,rfl⟩:=h;exact⟨rfl,trivial⟩
 ·obtain⟨i,rfl⟩:=h;exact⟨rfl,trivial⟩
noncomputable def gV:List Bool→List D→Bool
 |b::bs,d::ds=>o0 b d&&gV bs ds
 |_,_=>true
theorem rq:∀{bs:List Bool}{ds:List D},zt bs ds→gV bs ds=true∧∀d∈ds,jY d
 |[],[],_=>⟨rfl,by simp⟩
 |[],_::_,h=>h.elim
 |_::_,[],h=>h.elim
 |b::bs,d::ds,h=>by
  obtain⟨h1,h2⟩:=w_ h.1
  obtain⟨h3,h4⟩:=rq h.2
  refine⟨by simp[gV,h1,h3],fun x hx=>?_⟩
  rcases List.mem_cons.mp hx with rfl|hx
  ·exact h2
  ·exact h4 x hx
section
variable{k:Nat}{st:aQ}{Q:D→aQ→Prop}
theorem iJ{d:D}(hr:ki st false d=some r)(h:Q (.bl r) st):Wv (calls tab (k+1) og [d] st) Q:=by
 walk_at "call"
 cases ha:bY st .int d with
 |none=>simp[ki,ha] at hr
 |some a=>
  cases hb:bY st .bool d with
  |none=>simp[ki,ha,hb] at hr
  |some b=>
   have hr':(a&& !b)=r:=by simpa[ki,ha,hb] using hr
   subst hr'
   refine⟨a,rfl,a,rfl,fun h1=>?_,fun h1=>?_⟩
   ·subst h1
    walk_at "ev"
    refine⟨b,hb,b,rfl,?_⟩
    walk_at "ev"
    exact h
   ·subst h1
    walk_at "ev"
    exact h
theorem uQ{d:D}(hr:ki st true d=some r)(h:Q (.bl r) st):Wv (calls tab (k+1) oi [d] st) Q:=by
 walk_at "call"
 refine⟨r,hr,?_⟩
 walk_at "ev"
 exact h
theorem jc{d:D}(hr:ki st b d=some r)(h:Q (.bl r) st):Wv (calls tab (k+2) ci [d,pd b] st) Q:=by
 walk_at "call"
 refine w_eq (sr b) ⟨!b,rfl,fun hb=>?_,fun hb=>?_⟩
 ·have:b=false:=by simpa using hb
  subst this
  walk_at "ev"
  refine iJ hr ?_
  walk_at "ev"
  exact h
 ·have:b=true:=by simpa using hb
  subst this
  walk_at "ev"
  refine w_eq (sq true) ⟨true,rfl,fun _=>?_,nofun⟩
  walk_at "ev"
  refine uQ hr ?_
  walk_at "ev"
  exact h
theorem uU{kd:Kd}(hk:kd.long=true)(ho:kd.ok)(h:∀p st',st.length≤p→Gr st st'→st'[p]? =some (.lst (kd.parts.map pd))→Q (.ref p) st'):Wv (calls tab (k+1) gn [kd.d] st) Q:=by
 cases kd with
 |num=>cases hk
 |truth=>cases hk
 |row n=>
  show Wv (calls tab (k+1) gn [.tup [.str "row",.int n]] st) Q
  walk_at "call"
  refine w_eq (k:=true) (by rw[eq_str];decide+kernel) ⟨true,rfl,fun _=>?_,nofun⟩
  walk_at "ev"
  obtain⟨h1,h2⟩:=ho
  refine⟨_,gk ⟨by omega,by omega⟩,uk (by rw[jf];omega) (fun i acc st'=>st'=st∧acc=(List.replicate i false).map pd) ⟨rfl,rfl⟩ ?_ ?_⟩
  ·rintro i x acc st' hx ⟨rfl,rfl⟩
   walk_at "ev"
   refine⟨rfl,?_⟩
   rw[List.replicate_succ',List.map_append]
   rfl
  ·rintro acc st' ⟨rfl,rfl⟩
   walk_at "ev"
   refine h _ _ (af _) (Gr.one _ _) ?_
   rw[bh,jf,Int.toNat_natCast]
   rfl
 |rcd ps=>
  show Wv (calls tab (k+1) gn [.tup [.str "record",.tup (ps.map pd)]] st) Q
  walk_at "call"
  refine w_eq (k:=false) (by rw[eq_str];decide+kernel) ⟨false,rfl,nofun,fun _=>?_⟩
  walk_at "ev"
  refine w_eq (k:=true) (by rw[eq_str];decide+kernel) ⟨true,rfl,fun _=>?_,nofun⟩
  walk_at "ev"
  exact h _ _ (af _) (Gr.one _ _) bh
theorem rG{kd:Kd}(hk:kd.long=true)(ho:kd.ok){d:D}(h:∀p st',st.length≤p→Gr st st'→st'[p]? =some (.lst (kd.parts.map pd))→W (execs (calls tab (k+1)) (cz.body.drop 3) [some d,some kd.d,some (.ref p)] st') (Kr Q)):Wv (calls tab (k+2) ci [d,kd.d] st) Q:=by
 walk_at "call"
 refine w_eq (tq kd) ⟨false,(by cases kd<;>first|rfl|(cases hk;done)),nofun,fun _=>?_⟩
 walk_at "ev"
 refine w_eq (tm kd) ⟨false,(by cases kd<;>first|rfl|(cases hk;done)),nofun,fun _=>?_⟩
 walk_at "ev"
 refine uU hk ho fun p st' hp g e=>?_
 exact h p st' hp g e
theorem rF{kd:Kd}(hk:kd.long=true)(ho:kd.ok){d:D}(hd:bY st .tuple d=some false∨∃xs,d=.tup xs∧xs.length≠kd.parts.length)(hm:∀st',Gr st st'→bY st' .tuple d=bY st .tuple d)(h:∀st',Gr st st'→Q (.bl false) st'):Wv (calls tab (k+2) ci [d,kd.d] st) Q:=by
 refine rG hk ho fun p st' hp g e=>?_
 dsimp only[cz,List.drop]
 walk_at "ev"
 rcases hd with hd|⟨xs,rfl,hl⟩
 ·refine⟨false,by rw[hm st' g];exact hd,false,rfl,?_⟩
  walk_at "ev"
  refine⟨true,rfl,fun _=>?_,nofun⟩
  walk_at "ev"
  refine⟨true,rfl,fun _=>?_,nofun⟩
  walk_at "ev"
  exact h st' g
 ·refine⟨true,rfl,true,rfl,?_⟩
  walk_at "ev"
  refine⟨false,rfl,nofun,fun _=>?_⟩
  walk_at "ev"
  refine c7 e ?_
  walk_at "ev"
  refine⟨_,rfl,fun _=>?_,fun hz=>?_⟩
  ·walk_at "ev"
   exact h st' g
  ·simp at hz
   exact absurd (by exact_mod_cast hz) hl
end
theorem qU{a b:Ex}{Q:D→aQ→Prop}(I:Nat→List D→Nat→List D→aQ→Prop)
  (h:W (run g a loc st) fun d st1=>∃n xs,d=.ref n∧st1[n]? =some (.lst xs)∧xs.length≤1000000∧I n xs 0 [] st1∧(∀i acc st,I n xs i acc st→st[n]? =some (.lst xs))∧(∀i x acc st,xs[i]? =some x→I n xs i acc st→W (run g b (some (.int i)::some x::loc) st) fun y st1=>I n xs (i+1) (acc++[y]) st1)∧∀acc st,I n xs xs.length acc st→Q (.ref st.length) (st++[.lst acc])):W (run g (.compE a b) loc st) Q:=by
 refine ul (h.mono fun d st1 hp=>?_)
 obtain⟨n,xs,hd,hn,hl,h0,keep,step,fin⟩:=hp
 subst hd
 refine⟨.en n,rfl,qT hl hn (I n xs) h0 keep (fun i x acc st e q=>?_) fin⟩
 exact aF ((step i x acc st e q).mono fun y st1 q=>q)
theorem allB_snoc:∀{xs:List D}{a b:Bool},allB xs=some a→allB (xs++[.bl b])=some (a&&b)
 |[],a,b,h=>by cases h;simp[allB]
 |x::xs,a,b,h=>by
  cases x with
  |bl c=>
   cases q:allB xs with
   |none=>simp[allB,q] at h
   |some k=>
    have h':(c&&k)=a:=by simpa[allB,q] using h
    simp[allB,allB_snoc q,←h',Bool.and_assoc]
  |_=>simp[allB] at h
theorem ii:∀{bs:List Bool}{ds:List D}{i:Nat}{b:Bool}{d:D},bs[i]? =some b→ds[i]? =some d→gV (bs.take (i+1)) (ds.take (i+1))=(gV (bs.take i) (ds.take i)&&o0 b d)
 |b::bs,d::ds,0,_,_,e,f=>by cases e;cases f;simp[gV]
 |b::bs,d::ds,i+1,_,_,e,f=>by
  have:=ii (bs:=bs) (ds:=ds) (i:=i) (by simpa using e) (by simpa using f)
  simp only[List.take_succ_cons,gV,this,Bool.and_assoc]
section
variable{k:Nat}{st:aQ}{Q:D→aQ→Prop}
theorem nP{kd:Kd}(hk:kd.long=true)(ho:kd.ok)(hl:xs.length=kd.parts.length)(hn:∀x∈xs,jY x)(h:∀st',Gr st st'→Q (.bl (gV kd.parts xs)) st'):Wv (calls tab (k+3) ci [.tup xs,kd.d] st) Q:=by
 refine rG hk ho fun p st' hp g e=>?_
 dsimp only[cz,List.drop]
 walk_at "ev"
 refine⟨true,rfl,true,rfl,?_⟩
 walk_at "ev"
 refine⟨false,rfl,nofun,fun _=>?_⟩
 walk_at "ev"
 refine c7 e ?_
 walk_at "ev"
 refine⟨_,rfl,fun hz=>?_,fun _=>?_⟩
 ·exfalso
  simp at hz
  omega
 walk_at "ev"
 have hpl:kd.parts.length≤6:=by cases kd<;>simp[Kd.parts,Kd.ok] at ho ⊢<;>omega
 refine qU (fun n ys i acc st2=>Gr st' st2∧n=p∧allB acc=some (gV (kd.parts.take i) (xs.take i))∧ys=kd.parts.map pd) ?_
 walk_at "ev"
 refine⟨p,_,rfl,e,by simp;omega,⟨.refl _,rfl,rfl,rfl⟩,fun i acc st2 ⟨g2,hp,_,hy⟩=>?_,?_,?_⟩
 ·rw[hp,hy];exact g2.at e
 ·rintro i x acc st2 hx ⟨g2,_,ha,_⟩
  rw[aR] at hx
  cases q:kd.parts[i]? with
  |none=>rw[q] at hx;cases hx
  |some b=>
   rw[q] at hx
   cases hx
   have hi:=(aH q).1
   have hx':xs[i]? =some xs[i]:=aU (by omega)
   walk_at "ev"
   obtain⟨d,e1,e2⟩:=gu (xs:=xs) (i:=(i:Int)) (by omega) (by omega)
   have:d=xs[i]:=by
    rw[Int.toNat_natCast,hx'] at e2
    exact(ag e2).symm
   subst this
   refine bW e1 ?_
   walk_at "ev"
   refine jc (k:=k) (mz (hn _ (am hx'))) ⟨g2,rfl,?_,rfl⟩
   rw[ii q hx']
   exact allB_snoc ha
 ·rintro acc st2 ⟨g2,_,ha,_⟩
  walk_at "ev"
  rw[List.length_map,List.take_length,←hl,List.take_length] at ha
  refine w_allL bh ha ?_
  walk_at "ev"
  exact h _ ((g.trans g2).more _)
theorem zy{kd:Kd}(ho:kd.ok){d:D}(hd:fits kd d)(h:∀st',Gr st st'→Q (.bl true) st'):Wv (calls tab (k+3) ci [d,kd.d] st) Q:=by
 cases kd with
 |num=>
  obtain⟨h1,h2⟩:=w_ (show sc false d from hd)
  exact jc (b:=false) (k:=k+1) (by rw[mz h2,h1]) (h _ (.refl _))
 |truth=>
  obtain⟨h1,h2⟩:=w_ (show sc true d from hd)
  exact jc (b:=true) (k:=k+1) (by rw[mz h2,h1]) (h _ (.refl _))
 |row n=>
  obtain⟨xs,rfl,hs⟩:=hd
  obtain⟨h1,h2⟩:=rq hs
  refine nP rfl ho (lD hs) h2 fun st' g=>?_
  rw[h1]
  exact h _ g
 |rcd ps=>
  obtain⟨xs,rfl,hs⟩:=hd
  obtain⟨h1,h2⟩:=rq hs
  refine nP rfl ho (lD hs) h2 fun st' g=>?_
  rw[h1]
  exact h _ g
theorem xg{d:D}(hd:sc b d)(h:Q (Bd d) st):Wv (calls tab (k+1) sO [d] st) Q:=by
 walk_at "call"
 cases b with
 |false=>
  obtain⟨i,rfl⟩:=hd
  refine⟨false,rfl,false,rfl,nofun,fun _=>?_⟩
  walk_at "ev"
  refine⟨true,rfl,true,rfl,fun _=>?_,nofun⟩
  walk_at "ev"
  exact h
 |true=>
  obtain⟨i,rfl⟩:=hd
  refine⟨true,rfl,true,rfl,fun _=>?_,nofun⟩
  walk_at "ev"
  exact h
end
section
variable{g:cY}{loc:Loc}{st:aQ}{Q:Fl→aQ→Prop}{ss:List S}{e:Ex}
theorem oR{f:D→Loc→M Fl}{s:Src}{L:Nat}{it:Nat→D}(I:Nat→Loc→aQ→Prop)(keep:∀i loc st,I i loc st→gm s i st=some (if i<L then some (it i) else none))(step:∀i loc st,i<L→I i loc st→W (f (it i) loc st) fun r st1=>match r with| .nx loc'=>I (i+1) loc' st1| .rt d=>Q (.rt d) st1| .ex n l=>Q (.ex n l) st1)
  (fin:∀loc st,I L loc st→Q (.nx loc) st):∀k i loc st,i≤L→L<k+i→I i loc st→W (f8 f s k i loc st) Q
 |0,i,acc,st,h1,h2,h=>by omega
 |k+1,i,loc,st,h1,h2,h=>by
  simp only[f8,keep i loc st h]
  by_cases hi:i<L
  ·simp only[if_pos hi]
   refine aF ((step i loc st hi h).mono fun r st1 q=>?_)
   cases r with
   |nx loc'=>exact oR I keep step fin k (i+1) loc' st1 hi (by omega) q
   |rt d=>exact q
   |ex n l=>exact q
  ·simp only[if_neg hi]
   have:i=L:=by omega
   subst this
   exact fin loc st h
theorem qR{a b:Nat}{body:List S}(I:Nat→List D→Nat→Loc→aQ→Prop)
  (h:W (run g e loc st) fun d st1=>∃n xs,d=.ref n∧st1[n]? =some (.lst xs)∧I n xs 0 loc st1∧(∀i loc st,I n xs i loc st→st[n]? =some (.lst xs))∧(∀i x loc st,xs[i]? =some x→I n xs i loc st→W (execs g body ((loc.set a (some (.int i))).set b (some x)) st) (Kf (I n xs (i+1)) (Kn g ss Q)))∧∀loc st,I n xs xs.length loc st→W (execs g ss loc st) Q):
  W (execs g (.forE [a,b] e body::ss) loc st) Q:=by
 refine uh (h.mono fun d st1 hp=>?_)
 obtain⟨n,xs,hd,hn,h0,keep,step,fin⟩:=hp
 subst hd
 refine⟨.en n,rfl,?_⟩
 have hL:ej (.en n) st1=xs.length:=by simp only[ej,hn]
 unfold gq
 rw[hL]
 refine oR (L:=xs.length) (it:=fun i=>.tup [.int i,xs.getD i .non]) (I n xs) (fun i loc st q=>?_) (fun i loc st hi q=>?_) fin _ 0 loc st1 (by omega) (by omega) h0
 ·simp only[gm,keep i loc st q]
  by_cases hi:i<xs.length
  ·simp[hi]
  ·simp[hi]
 ·have e1:xs[i]? =some (xs.getD i .non):=by simp[hi]
  refine aF ?_
  show W (.ok [.int i,xs.getD i .non] st) _
  refine(step i _ loc st e1 q).mono fun r st1 q=>?_
  cases r with
  |nx loc'=>exact q
  |rt d=>exact q
  |ex n l=>exact q
end
section
variable{k:Nat}{st:aQ}{Q:Rs→aQ→Prop}
noncomputable def tY(st:aQ)(n:Nat)(d:D):Prop:=∃m,st[n]? =some (.err "NoInput" (some m) true)∧st[m]? =some (.edc [("place",d)])
theorem jb{d:D}{Q:Nat→aQ→Prop}(h:∀n st',Gr st st'→tY st' n d→Q n st'):W (jj (calls tab (k+1)) "NoInput" jv [d] st) Q:=by
 refine oN ?_
 walk_at "call0"
 refine ld (a_ rfl (a_ rfl (uf (by decide+kernel) (aK (cv ⟨rfl,_,mr,?_⟩)))))
 rw[cu]
 exact h _ _ ⟨_,rfl⟩ ⟨_,mr,Bc⟩
theorem rC{Q:Nat→aQ→Prop}(h:∀n st',Gr st st'→st'[n]? =some (.err "NoBudget" none true)→Q n st'):W (jj (calls tab (k+1)) "NoBudget" iD [] st) Q:=by
 refine oN ?_
 walk_at "call0"
 refine qN (aK (cv ⟨rfl,_,bh,?_⟩))
 show Q st.length (List.set (st++[O.err "NoBudget" none false]) st.length (O.err "NoBudget" none true))
 rw[gA]
 exact h _ _ ⟨_,rfl⟩ bh
theorem uY{m:Nat}{d:D}(hd:bY st .list d=some false∨∃v ds,d=.ref v∧st[v]? =some (.lst ds)∧ds.length≠m)(h:∀n st',Gr st st'→tY st' n .non→Q (.x n) st'):W (calls tab (k+2) fN [.int m,d] st) Q:=by
 walk_at "callx0"
 refine cH ?_
 walk_at "ev"
 rcases hd with hd|⟨v,ds,rfl,hv,hl⟩
 ·refine⟨false,hd,false,rfl,?_⟩
  refine⟨true,rfl,fun _=>?_,nofun⟩
  refine⟨true,rfl,fun _=>?_,nofun⟩
  refine lh (aj (bJ (aG (jb (k:=k) fun n st' g e=>?_))))
  exact h n st' g e
 ·refine⟨true,by simp only[bY,hv],true,rfl,?_⟩
  refine⟨false,rfl,nofun,fun _=>?_⟩
  walk_at "ev"
  refine c7 hv ?_
  walk_at "ev"
  refine⟨true,by simp;omega,fun _=>?_,nofun⟩
  refine lh (aj (bJ (aG (jb (k:=k) fun n st' g e=>?_))))
  exact h n st' g e
theorem uZ{ds:List D}(hv:st[v]? =some (.lst ds))(h:Q (.v .non) st):W (calls tab (k+1) fN [.int ds.length,.ref v] st) Q:=by
 walk_at "callx0"
 refine cH ?_
 walk_at "ev"
 refine⟨true,by simp only[bY,hv],true,rfl,?_⟩
 refine⟨false,rfl,nofun,fun _=>?_⟩
 walk_at "ev"
 refine c7 hv ?_
 walk_at "ev"
 refine⟨false,by simp,nofun,fun _=>?_⟩
 exact aK (bo (aK (sF h)))
theorem uV{ks:List Kd}{d b:D}(hkp:st[kp]? =some (.lst (ks.map Kd.d)))(hd:bY st .list d=some false∨∃v ds,d=.ref v∧st[v]? =some (.lst ds)∧ds.length≠ks.length)(h:∀n st',Gr st st'→tY st' n .non→Q (.x n) st'):W (calls tab (k+3) cL [.ref kp,d,b] st) Q:=by
 walk_at "callx0"
 refine eO (aj (jS (aj (a_ rfl (aG (c7 hkp (aj (a_ rfl (aG ?_)))))))))
 rw[List.length_map]
 refine uY (k:=k) hd fun n st' g e=>?_
 exact h n st' g e
theorem lE{ks:List Kd}{ds:List D}{b:D}{at_:Nat}(hkp:st[kp]? =some (.lst (ks.map Kd.d)))(hok:∀kd∈ks,Kd.ok kd)(hv:st[v]? =some (.lst ds))(hl:ds.length=ks.length)(hf:∀i kd d,i<at_→ks[i]? =some kd→ds[i]? =some d→fits kd d)(ha:at_≤ks.length)
  (hb:∀kd d st',ks[at_]? =some kd→ds[at_]? =some d→Gr st st'→Wv (calls tab (k+3) ci [d,kd.d] st') (fun r st''=>r=.bl false∧Gr st' st'')∧∀n st',Gr st st'→tY st' n (.int at_)→Q (.x n) st')
  (hr:at_=ks.length→∀loc st',Gr st st'→(∃x y,loc=[some (.ref kp),some (.ref v),some b,x,y])→W (execs (calls tab (k+3)) (bU.body.drop 2) loc st') (Kx Q)):W (calls tab (k+4) cL [.ref kp,.ref v,b] st) Q:=by
 walk_at "callx0"
 refine eO (aj (jS (aj (a_ rfl (aG (c7 hkp (aj (a_ rfl (aG ?_)))))))))
 rw[List.length_map,←hl]
 refine uZ (k:=k+2) hv ?_
 show W (execs _ _ _ st) _
 refine qR (fun n xs i loc st'=>Gr st st'∧(n=kp∧xs=ks.map Kd.d)∧i≤at_∧∃x y,loc=[some (.ref kp),some (.ref v),some b,x,y]) ?_
 refine a_ rfl ⟨_,_,rfl,hkp,⟨.refl _,⟨rfl,rfl⟩,by omega,_,_,rfl⟩,fun i loc st' hp=>hp.1.at hkp,?_,?_⟩
 ·rintro i x loc st' hx ⟨g,_,hi,a1,a2,rfl⟩
  rw[aR] at hx
  cases q:ks[i]? with
  |none=>rw[q] at hx;cases hx
  |some kd=>
   rw[q] at hx
   cases hx
   have hik:=(aH q).1
   have hd:ds[i]? =some ds[i]:=aU (by omega)
   walk_at "ev"
   obtain⟨d,e1,e2⟩:=gu (xs:=ds) (i:=(i:Int)) (by omega) (by omega)
   have:d=ds[i]:=by
    rw[Int.toNat_natCast,hd] at e2
    exact(ag e2).symm
   subst this
   refine iW (g.at hv) e1 ?_
   walk_at "ev"
   by_cases hlt:i<at_
   ·refine zy (k:=k) (hok kd (am q)) (hf i kd _ hlt q hd) fun st2 g2=>?_
    refine⟨true,rfl,?_⟩
    refine⟨false,rfl,nofun,fun _=>?_⟩
    exact aK ⟨g.trans g2,⟨rfl,rfl⟩,hlt,_,_,rfl⟩
   ·have:i=at_:=by omega
    subst this
    obtain⟨h1,h2⟩:=hb kd _ st' q hd g
    refine h1.mono fun r st2 ⟨e3,g2⟩=>?_
    subst e3
    refine⟨false,rfl,?_⟩
    refine⟨true,rfl,fun _=>?_,nofun⟩
    refine lh (aj (a_ rfl (aG (jb (k:=k+2) fun n st3 g3 e=>?_))))
    exact h2 n st3 (g.trans (g2.trans g3)) e
 ·rintro loc st' ⟨g,_,hi,hloc⟩
  rw[List.length_map] at hi
  exact hr (by omega) loc st' g hloc
end
theorem oo{d:D}(h:W (execs g ss loc st) Q):W (sW .no loc (.v d) st) (Kn g ss Q):=h
theorem jo{t:Ty}{d:D}(h:bY st t d=some b)(g:Gr st st'):bY st' t d=some b:=by
 cases d with
 |ref n=>
  simp only[bY] at h ⊢
  cases e:st[n]? with
  |none=>rw[e] at h;cases h
  |some o=>rw[g.at e];rw[e] at h;exact h
 |_=>exact h
theorem xa{d:D}(h:ki st b d=some r)(g:Gr st st'):ki st' b d=some r:=by
 cases b with
 |true=>exact jo (show bY st .bool d=some r from h) g
 |false=>
  cases ha:bY st .int d with
  |none=>simp[ki,ha] at h
  |some a=>
   cases hb:bY st .bool d with
   |none=>simp[ki,ha,hb] at h
   |some c=>
    simp only[ki,jo ha g,jo hb g]
    simpa[ki,ha,hb] using h
noncomputable def yP(st:aQ)(b:D):Prop:=ki st false b=some false∨∃i,b=.int i∧¬(0≤i∧i≤10000)
section
variable{k:Nat}{st:aQ}{Q:Rs→aQ→Prop}{ks:List Kd}{v:Nat}{ds:List D}{b:D}
noncomputable def oI(ks:List Kd)(ds:List D):Prop:=ds.length=ks.length∧∀(i:Nat)(kd:Kd)(d:D),ks[i]? =some kd→ds[i]? =some d→fits kd d
theorem xw(hb:yP st b)(h:∀n st',Gr st st'→st'[n]? =some (.err "NoBudget" none true)→Q (.x n) st'):W (calls tab (k+2) ge [b] st) Q:=by
 walk_at "callx0"
 refine cH (w_or (w_not (fw (aj (a_ rfl (aG ?_))))))
 have fin:W (execs (calls tab (k+1)) [.rais "NoBudget" 26 []] [some b] st) (Kn (calls tab (k+1)) [] (Kx Q)):=lh (aG (rC (k:=k) fun n st2 g2 e=>h n st2 g2 e))
 rcases hb with hb|⟨i,rfl,hi⟩
 ·refine iJ (k:=k) hb ⟨false,rfl,?_⟩
  refine⟨true,rfl,fun _=>?_,nofun⟩
  exact⟨true,rfl,fun _=>fin,nofun⟩
 ·refine iJ (k:=k) (r:=true) rfl ⟨true,rfl,?_⟩
  refine⟨false,rfl,nofun,fun _=>?_⟩
  walk_at "ev"
  refine⟨_,rfl,fun h1=>?_,fun h1=>?_⟩
  ·have h1:=of_decide_eq_true h1
   walk_at "ev"
   refine⟨_,rfl,?_⟩
   refine⟨true,by simp;omega,fun _=>fin,nofun⟩
  ·refine⟨false,rfl,?_⟩
   exact⟨true,rfl,fun _=>fin,nofun⟩
theorem xv(hb:0≤i∧i≤10000)(h:Q (.v .non) st):W (calls tab (k+2) ge [.int i] st) Q:=by
 walk_at "callx0"
 refine cH (w_or (w_not (fw (aj (a_ rfl (aG ?_))))))
 refine iJ (k:=k) (r:=true) rfl ⟨true,rfl,?_⟩
 refine⟨false,rfl,nofun,fun _=>?_⟩
 walk_at "ev"
 refine⟨true,by simp;omega,fun _=>?_,nofun⟩
 walk_at "ev"
 refine⟨true,by simp;omega,?_⟩
 refine⟨false,rfl,nofun,fun _=>?_⟩
 exact aK (bo (aK (sF h)))
theorem uX(hkp:st[kp]? =some (.lst (ks.map Kd.d)))(hok:∀kd∈ks,Kd.ok kd)(hv:st[v]? =some (.lst ds))(hf:oI ks ds)(hb:yP st b)(h:∀n st',Gr st st'→st'[n]? =some (.err "NoBudget" none true)→Q (.x n) st'):W (calls tab (k+4) cL [.ref kp,.ref v,b] st) Q:=by
 refine lE (at_:=ks.length) hkp hok hv hf.1 (fun i kd d _ h1 h2=>hf.2 i kd d h1 h2) (af _) (fun kd d st' q=>by simp at q) fun _ loc st' g hloc=>?_
 obtain⟨x,y,rfl⟩:=hloc
 dsimp only[bU,List.drop]
 refine eO (aj (a_ rfl (aG ?_)))
 refine xw (k:=k+1) ?_ fun n st2 g2 e=>h n st2 (g.trans g2) e
 rcases hb with hb|hb
 ·exact .inl (xa hb g)
 ·exact .inr hb
theorem uW(hkp:st[kp]? =some (.lst (ks.map Kd.d)))(hok:∀kd∈ks,Kd.ok kd)(hv:st[v]? =some (.lst ds))(hf:oI ks ds)(hb:0≤i∧i≤10000)(h:∀st',Gr st st'→Q (.v .non) st'):W (calls tab (k+4) cL [.ref kp,.ref v,.int i] st) Q:=by
 refine lE (at_:=ks.length) hkp hok hv hf.1 (fun i kd d _ h1 h2=>hf.2 i kd d h1 h2) (af _) (fun kd d st' q=>by simp at q) fun _ loc st' g hloc=>?_
 obtain⟨x,y,rfl⟩:=hloc
 dsimp only[bU,List.drop]
 refine eO (aj (a_ rfl (aG ?_)))
 refine xv (k:=k+1) hb ?_
 exact oo (aK (sF (h st' g)))
end
theorem pB:∀{fs:List (Str×D)}{m:Str},(fs.map (·.1)).contains m=false→fs.lookup m=none
 |[],_,_=>rfl
 |(a,w)::r,m,h=>by
  simp only[List.map_cons,List.contains_cons,Bool.or_eq_false_iff] at h
  simp only[List.lookup_cons,h.1]
  exact pB h.2
theorem lk:∀{fs:List (Str×D)}{f:Str}{d:D}(i:Nat),fs[i]? =some (f,d)→((fs.take i).map (·.1)).contains f=false→fs.lookup f=some d
 |(a,w)::r,f,d,0,h,_=>by simp at h;obtain⟨rfl,rfl⟩:=h;simp[List.lookup_cons]
 |(a,w)::r,f,d,i+1,h,k=>by
  simp only[List.take_succ_cons,List.map_cons,List.contains_cons,Bool.or_eq_false_iff] at k
  simp only[List.lookup_cons,k.1]
  exact lk i (by simpa using h) k.2
theorem iE{c:Str}{fs:List (Str×D)}{ics:List Str}{d:D}{P:D→Prop}(hp:st1[p]? =some (.ins c fs))(i:Nat)(hi:fs[i]? =some (f,d))(q:P d)(hc:c∈ics:=by decide+kernel)(hk:((fs.take i).map (·.1)).contains f=false:=by(simp only[List.nil_append,List.cons_append,List.take_succ_cons,List.take_zero,List.map_cons,List.map_nil];decide+kernel)):∃n c fs d,D.ref p=.ref n∧st1[n]? =some (.ins c fs)∧fs.lookup f=some d∧c∈ics∧P d:=⟨p,c,fs,d,rfl,hp,lk i hi hk,hc,q⟩
theorem nA{c m:Str}{fs:List (Str×D)}{ms:List (Str×Nat)}{P:Nat→Nat→Prop}(hp:st1[p]? =some (.ins c fs))(hj:ms.lookup c=some j)(q:P p j)(hk:(fs.map (·.1)).contains m=false:=by(simp only[List.nil_append,List.cons_append,List.map_cons,List.map_nil];decide+kernel)):∃n c fs j,D.ref p=.ref n∧st1[n]? =some (.ins c fs)∧fs.lookup m=none∧ms.lookup c=some j∧P n j:=⟨p,c,fs,j,rfl,hp,pB hk,hj,q⟩
theorem o9:∀{fs:List (Str×D)}{f:Str}{v:D},(fs.map (·.1)).contains f=false→putD f v fs=fs++[(f,v)]
 |[],_,_,_=>rfl
 |(a,w)::r,f,v,h=>by
  simp only[List.map_cons,List.contains_cons,Bool.or_eq_false_iff] at h
  have hne:a≠f:=fun z=>by simp[z] at h
  simp[putD,hne,o9 h.2]
theorem fv{e:Ex}{cs ics:List Str}(h0:loc[0]? =some (some (.ref p)))
  (h:W (run g e loc st) fun d st1=>∃c fs,(st1[p]? =some (.ins c fs)∧fs.length<900∧c∈ics∧(fs.map (·.1)).contains f=false)∧W (execs g ss loc (st1.set p (.ins c (fs++[(f,d)])))) Q):W (execs g (.setf (.v 0) f e cs ics::ss) loc st) Q:=
 ld (h.mono fun d st1 ⟨c,fs,⟨hp,hl,hc,hk⟩,q⟩=>a_ h0 (lc hp ⟨hl,hc⟩ (by rw[o9 hk];exact q)))
theorem mW{c:Str}{fs:List (Str×D)}{ics:List Str}{P:Str→List (Str×D)→Prop}(hp:st1[p]? =some (.ins c fs))(q:P c fs)(hl:fs.length<900:=by simp)(hc:c∈ics:=by decide+kernel)(hk:(fs.map (·.1)).contains f=false:=by(simp only[List.nil_append,List.cons_append,List.map_cons,List.map_nil];decide+kernel)):∃c fs,(st1[p]? =some (.ins c fs)∧fs.length<900∧c∈ics∧(fs.map (·.1)).contains f=false)∧P c fs:=⟨c,fs,⟨hp,hl,hc,hk⟩,q⟩
section
variable{k:Nat}{st:aQ}{Q:D→aQ→Prop}{p:Nat}
theorem va{b:D}(hp:st[p]? =some (.ins "Runner" []))(h:Q .non ((st++[O.lst []]).set p (.ins "Runner" [("budget",b),("log",.ref st.length),("took",.int 0),("steps",.int 0),("ending",.non),("thing",.non)]))):Wv (calls tab (k+1) lY [.ref p,b] st) Q:=by
 walk_at "call0"
 have hlt:=(aH hp).1
 refine fv rfl (a_ rfl (mW hp ?_))
 refine fv rfl (fc (aG (mW (aT (dw hlt)) ?_)))
 rw[aE,aS _ _ (by rw[aE];exact hlt),List.set_set]
 refine fv rfl (bJ (mW (aT (dw hlt)) ?_))
 rw[aS _ _ (by rw[aE];exact hlt),List.set_set]
 refine fv rfl (bJ (mW (aT (dw hlt)) ?_))
 rw[aS _ _ (by rw[aE];exact hlt),List.set_set]
 refine fv rfl (bJ (mW (aT (dw hlt)) ?_))
 rw[aS _ _ (by rw[aE];exact hlt),List.set_set]
 refine fv rfl (bJ (mW (aT (dw hlt)) ?_))
 rw[aS _ _ (by rw[aE];exact hlt),List.set_set]
 refine aK (cv ?_)
 rw[aS _ _ hlt] at h
 exact h
theorem rM{b:D}(h:Q .non (st++[O.ins "Runner" ([("budget",b),("log",D.ref (st.length+1)),("took",.int 0),("steps",.int 0),("ending",.non),("thing",.non),("program",.ref 26),("frames",.ref (st.length+2))]:List (Str×D)),.lst [],.lst []])):Wv (calls tab (k+2) j4 [.ref st.length,.ref 26,b] (st++[.ins "Runner" []])) Q:=by
 obtain⟨s0,hs0⟩:∃s0,s0=st++[O.ins "Runner" []]:=⟨_,rfl⟩
 rw[←hs0]
 walk_at "call0"
 rw[hs0]
 refine fA (fw (aj (a_ rfl (aj (a_ rfl (aG (va (k:=k) bh ?_)))))))
 rw[List.append_assoc,show [O.ins "Runner" []]++[O.lst []]=[O.ins "Runner" [],O.lst []] from rfl,cu]
 have e:(st++[O.ins "Runner" []]).length=st.length+1:=by simp
 rw[e]
 refine fv rfl (a_ rfl (mW mr ?_))
 rw[cu]
 refine fv rfl (fc (aG (mW (aT mr) ?_)))
 refine aK (cv ?_)
 rw[aS _ _ (by simp),cu]
 have e2:∀a b:O,(st++[a,b]).length=st.length+2:=fun a b=>by simp
 rw[e2]
 simpa using h
theorem vb{H:Nat}(h:Q .non (st++[O.ins "Frame" [("have",.ref H),("waiting",.ref (st.length+1)),("reckoned_parts",.ref (st.length+2))],.lst [.tup [.str "rows",x,.int 0]],.lst []])):Wv (calls tab (k+1) lZ [.ref st.length,.ref H,x] (st++[.ins "Frame" []])) Q:=by
 obtain⟨s0,hs0⟩:∃s0,s0=st++[O.ins "Frame" []]:=⟨_,rfl⟩
 rw[←hs0]
 walk_at "call0"
 rw[hs0]
 have e:∀a:O,(st++[a]).length=st.length+1:=fun a=>by simp
 have e2:∀a b:O,(st++[a,b]).length=st.length+2:=fun a b=>by simp
 refine fv rfl (a_ rfl (mW bh ?_))
 rw[gA]
 refine fv rfl (fc (aj (dO (aj (bJ (aj (a_ rfl (aj (bJ (aG (aG (mW (aT bh) ?_))))))))))))
 rw[e,List.append_assoc,show ∀a b:O,[a]++[b]=[a,b] from fun _ _=>rfl,cu]
 refine fv rfl (fc (aG (mW (aT mr) ?_)))
 refine aK (cv ?_)
 rw[aS _ _ (by simp),cu,e2]
 simpa using h
end
theorem sn{i:Nat}{o x:O}(h:st[i]? =some o)(hne:j≠i):(st.set j x)[i]? =some o:=by rw[aL hne];exact h
structure Rn(b st:aQ)(bud:D)(steps:Int)(ending thing:D)(eE:List D)(kvs:List (Key×D))(ws ps:List D):Prop where
 gr:Gr b st
 br:st[b.length]? =some (.ins "Runner" ([("budget",bud),("log",D.ref (b.length+1)),("took",.int 0),("steps",.int steps),("ending",ending),("thing",thing),("program",.ref 26),("frames",.ref (b.length+2))]:List (Str×D)))
 lg:st[b.length+1]? =some (.lst [])
 fr:st[b.length+2]? =some (.lst eE)
 hv:st[b.length+4]? =some (.dct kvs)
 fm:st[b.length+5]? =some (.ins "Frame" ([("have",D.ref (b.length+4)),("waiting",.ref (b.length+6)),("reckoned_parts",.ref (b.length+7))]:List (Str×D)))
 wt:st[b.length+6]? =some (.lst ws)
 pt:st[b.length+7]? =some (.lst ps)
section
variable{b st st':aQ}{bud:D}{steps steps':Int}{ending thing ending' thing':D}{eE frs':List D}{kvs:List (Key×D)}{ws ps ws' ps':List D}
theorem Rn.more(h:Rn b st bud steps ending thing eE kvs ws ps)(g:Gr st st'):Rn b st' bud steps ending thing eE kvs ws ps:=
 ⟨h.gr.trans g,g.at h.br,g.at h.lg,g.at h.fr,g.at h.hv,g.at h.fm,g.at h.wt,g.at h.pt⟩
theorem Rn.brs(h:Rn b st bud steps ending thing eE kvs ws ps):Rn b (st.set b.length (.ins "Runner" ([("budget",bud),("log",D.ref (b.length+1)),("took",.int 0),("steps",.int steps'),("ending",ending'),("thing",thing'),("program",.ref 26),("frames",.ref (b.length+2))]:List (Str×D)))) bud steps' ending' thing' eE kvs ws ps:=
 ⟨h.gr.set (af _),dw (aH h.br).1,sn h.lg (by omega),sn h.fr (by omega),sn h.hv (by omega),sn h.fm (by omega),sn h.wt (by omega),sn h.pt (by omega)⟩
theorem Rn.frz(h:Rn b st bud steps ending thing eE kvs ws ps):Rn b (st.set (b.length+2) (.lst frs')) bud steps ending thing frs' kvs ws ps:=
 ⟨h.gr.set (by omega),sn h.br (by omega),sn h.lg (by omega),dw (aH h.fr).1,sn h.hv (by omega),sn h.fm (by omega),sn h.wt (by omega),sn h.pt (by omega)⟩
theorem Rn.wts(h:Rn b st bud steps ending thing eE kvs ws ps):Rn b (st.set (b.length+6) (.lst ws')) bud steps ending thing eE kvs ws' ps:=
 ⟨h.gr.set (by omega),sn h.br (by omega),sn h.lg (by omega),sn h.fr (by omega),sn h.hv (by omega),sn h.fm (by omega),dw (aH h.wt).1,sn h.pt (by omega)⟩
theorem Rn.pts(h:Rn b st bud steps ending thing eE kvs ws ps):Rn b (st.set (b.length+7) (.lst ps')) bud steps ending thing eE kvs ws ps':=
 ⟨h.gr.set (by omega),sn h.br (by omega),sn h.lg (by omega),sn h.fr (by omega),sn h.hv (by omega),sn h.fm (by omega),sn h.wt (by omega),dw (aH h.pt).1⟩
end
section
variable{bud:D}{R:Nat}{s s':Int}{e t e' t':D}
theorem p5:putD "steps" (.int s') ([("budget",bud),("log",D.ref (R+1)),("took",.int 0),("steps",.int s),("ending",e),("thing",t),("program",.ref 26),("frames",.ref (R+2))]:List (Str×D))=([("budget",bud),("log",D.ref (R+1)),("took",.int 0),("steps",.int s'),("ending",e),("thing",t),("program",.ref 26),("frames",.ref (R+2))]:List (Str×D)):=by
 unfold putD;rw[if_neg (by decide+kernel)]
 unfold putD;rw[if_neg (by decide+kernel)]
 unfold putD;rw[if_neg (by decide+kernel)]
 unfold putD;rw[if_pos rfl]
theorem nU:putD "ending" e' ([("budget",bud),("log",D.ref (R+1)),("took",.int 0),("steps",.int s),("ending",e),("thing",t),("program",.ref 26),("frames",.ref (R+2))]:List (Str×D))=([("budget",bud),("log",D.ref (R+1)),("took",.int 0),("steps",.int s),("ending",e'),("thing",t),("program",.ref 26),("frames",.ref (R+2))]:List (Str×D)):=by
 unfold putD;rw[if_neg (by decide+kernel)]
 unfold putD;rw[if_neg (by decide+kernel)]
 unfold putD;rw[if_neg (by decide+kernel)]
 unfold putD;rw[if_neg (by decide+kernel)]
 unfold putD;rw[if_pos rfl]
theorem p0:putD "thing" t' ([("budget",bud),("log",D.ref (R+1)),("took",.int 0),("steps",.int s),("ending",e),("thing",t),("program",.ref 26),("frames",.ref (R+2))]:List (Str×D))=([("budget",bud),("log",D.ref (R+1)),("took",.int 0),("steps",.int s),("ending",e),("thing",t'),("program",.ref 26),("frames",.ref (R+2))]:List (Str×D)):=by
 unfold putD;rw[if_neg (by decide+kernel)]
 unfold putD;rw[if_neg (by decide+kernel)]
 unfold putD;rw[if_neg (by decide+kernel)]
 unfold putD;rw[if_neg (by decide+kernel)]
 unfold putD;rw[if_neg (by decide+kernel)]
 unfold putD;rw[if_pos rfl]
end
theorem qM{b:aQ}{bud:D}{steps:Int}{ending thing:D}{eE:List D}{kvs:List (Key×D)}{ws ps:List D}(h0:loc[0]? =some (some (.ref b.length)))(hR:Rn b st bud steps ending thing eE kvs ws ps)
  (h:∀st',Rn b st' bud (steps+1) ending thing eE kvs ws ps→W (execs g ss loc st') Q):W (execs g (.augf (.v 0) "steps" (.c (.int 1)) ["Run","Runner"]::ss) loc st) Q:=by
 refine wX (a_ h0 ⟨_,_,_,steps,rfl,hR.br,lk 3 rfl (by simp only[List.take_succ_cons,List.take_zero,List.map_cons,List.map_nil];decide+kernel),by decide+kernel,bJ ⟨1,_,rfl,hR.br,by simp,?_⟩⟩)
 rw[p5]
 exact h _ hR.brs
noncomputable def dv(R:Int):List D:=[.tup [.str "a",.tup [.str "num"]],.tup [.str "b",.tup [.str "truth"]],.tup [.str "r",.tup [.str "row",.int R]],.tup [.str "p",.tup [.str "record",.tup [.tup [.str "num"],.tup [.str "truth"]]]]]
noncomputable def vJ:D:= .tup [.str "local",.str "a",.tup [.str "num"]]
noncomputable def nQ:D:= .tup [.str "return",vJ]
noncomputable def eI:D:= .tup [nQ]
noncomputable def sD(R:Int):D:= .tup [.tup (dv R),.tup [.str "num"],eI]
structure Tr(R:Int)(b:aQ):Prop where
 t:b[26]? =some (.ins "Typed" [("functions",.ref 27),("kept_functions",.ref 28)])
 d:b[28]? =some (.dct [(.inr "main",sD R)])
theorem Tr.gr{R:Int}{b b':aQ}(h:Tr R b)(g:Gr b b'):Tr R b':=⟨g.at h.t,g.at h.d⟩
section
variable{k:Nat}{st:aQ}{Q:D→aQ→Prop}{R:Int}
theorem o6(hT:Tr R st)(h:Q (sD R) st):Wv (calls tab (k+1) eT [.ref 26,.str "main"] st) Q:=by
 walk_at "call0"
 exact ij (dl (bx (a_ rfl (iE hT.t 1 rfl (a_ rfl (wu hT.d (by simp[i6]) h))))))
noncomputable def lM(ds:List D):List D:=[.tup [.str "a",ds.getD 0 .non],.tup [.str "b",ds.getD 1 .non],.tup [.str "r",ds.getD 2 .non],.tup [.str "p",ds.getD 3 .non]]
theorem zu{r:Loc}{ds:List D}(hv:st[v]? =some (.lst ds))(hl:ds.length=4)(h:Q (.ref st.length) (st++[.lst (lM ds)])):
  W (run g (.compZ (.ix (.v 3) (.c (.int 0))) (.v 2) (.tup [.ix (.v 0) (.c (.int 0)),.v 1])) (x0::x1::some (.ref v)::some (sD R)::r) st) Q:=by
 refine oU (dl (a_ rfl (bJ (bW rfl (a_ rfl ⟨.zp (dv R) v,rfl,?_⟩)))))
 obtain⟨a,b,c,d,rfl⟩:∃a b c d,ds=[a,b,c,d]:=by
  match ds,hl with
  |[a,b,c,d],_=>exact⟨a,b,c,d,rfl⟩
 refine iX (L:=fZ (dv R) [a,b,c,d]) (by simp[ej,dv]) (by simp[ej,dv,fZ]) (fun i acc st'=>acc=(lM [a,b,c,d]).take i∧st'=st) ⟨rfl,rfl⟩ ?_ ?_ ?_
 ·rintro i acc st' ⟨_,rfl⟩
  simp only[gm,hv,gw]<;>cases(dv R)[i]?<;>cases [a,b,c,d][i]?<;>rfl
 ·rintro i x acc st' hx ⟨rfl,rfl⟩
  match i with
  |0|1|2|3=>cases hx;exact lj (dO (aj (dl (a_ rfl (bJ (bW rfl (aj (a_ rfl (aG ⟨rfl,rfl⟩)))))))))
  |i+4=>cases hx
 ·rintro acc st' ⟨rfl,rfl⟩
  exact h
noncomputable def fe(ds:List D):List (Key×D):=[(.inr "a",ds.getD 0 .non),(.inr "b",ds.getD 1 .non),(.inr "r",ds.getD 2 .non),(.inr "p",ds.getD 3 .non)]
variable{b:aQ}{bud:D}
theorem u_{ds:List D}(hT:Tr R b)(hv:b[v]? =some (.lst ds))(hl:ds.length=4)
  (h:∀st',Rn b st' bud 0 .non .non [.ref (b.length+5)] (fe ds) [.tup [.str "rows",eI,.int 0]] []→Q .non st'):
  Wv (calls tab (k+2) ju [.ref b.length,.str "main",.ref v] (b++[O.ins "Runner" ([("budget",bud),("log",D.ref (b.length+1)),("took",.int 0),("steps",.int 0),("ending",.non),("thing",.non),("program",.ref 26),("frames",.ref (b.length+2))]:List (Str×D)),.lst [],.lst []])) Q:=by
 obtain⟨s0,hs0⟩:∃s0,s0=b++[O.ins "Runner" ([("budget",bud),("log",D.ref (b.length+1)),("took",.int 0),("steps",.int 0),("ending",.non),("thing",.non),("program",.ref 26),("frames",.ref (b.length+2))]:List (Str×D)),.lst [],.lst []]:=⟨_,rfl⟩
 have l0:s0.length=b.length+3:=by rw[hs0];simp
 have g0:Gr b s0:=⟨_,hs0⟩
 have q0:s0[b.length]? =some (O.ins "Runner" ([("budget",bud),("log",D.ref (b.length+1)),("took",.int 0),("steps",.int 0),("ending",.non),("thing",.non),("program",.ref 26),("frames",.ref (b.length+2))]:List (Str×D))):=by rw[hs0];simp
 have q1:s0[b.length+1]? =some (.lst []):=by rw[hs0];simp
 have q2:s0[b.length+2]? =some (.lst []):=by rw[hs0];simp
 rw[←hs0]
 walk_at "call0"
 refine cf (cr (bx (a_ rfl (iE q0 6 rfl (nA (g0.at hT.t) rfl (aj (a_ rfl (aG (o6 (k:=k) (hT.gr g0) ?_)))))))))
 refine cf (ui (zu (R:=R) (g0.at hv) hl ⟨_,_,fe ds,rfl,bh,rfl,?_⟩))
 rw[show m4 (fe ds)=fe ds from rfl]
 refine ke (bx (a_ rfl (iE (aT (aT q0)) 7 rfl (fT (aT (aT q2)) ?_))))
 refine oM (aj (a_ rfl (aj (dl (a_ rfl (bJ (bW rfl (aG ?_))))))))
 refine vb (k:=k) ⟨rfl,?_⟩
 refine fB (aT (aT (aT q2))) (by simp) (aK (cv (h _ ?_)))
 have l1:(s0++[O.lst (lM ds)]).length=b.length+4:=by simp[l0]
 have l2:(s0++[O.lst (lM ds)]++[O.dct (fe ds)]).length=b.length+5:=by simp[l0]
 rw[l1,l2]
 refine⟨Ev.Gr.set (((g0.trans ⟨_,rfl⟩).trans ⟨_,rfl⟩).trans ⟨_,rfl⟩) (by omega),sn (aT (aT (aT q0))) (by omega),sn (aT (aT (aT q1))) (by omega),dw (by simp[l0]),?_,?_,?_,?_⟩
 ·refine sn (aT ?_) (by omega)
  rw[←l1]
  exact bh
 ·refine sn ?_ (by omega)
  rw[aP (by omega)]
  simp[l0]
 ·refine sn ?_ (by omega)
  rw[aP (by omega)]
  simp[l0]
 ·refine sn ?_ (by omega)
  rw[aP (by omega)]
  simp[l0]
end
local macro_rules| `(tactic|walk_at "no1")=> `(tactic|refine cH (cI (a_ rfl (bJ (w_eq (k:=false) (by rw[eq_str];decide+kernel) ⟨false,rfl,nofun,fun _=>?_⟩)))))
local macro_rules| `(tactic|walk_at "yes1")=> `(tactic|refine cH (cI (a_ rfl (bJ (w_eq (k:=true) (by rw[eq_str];decide+kernel) ⟨true,rfl,fun _=>?_,nofun⟩)))))
section
variable{k:Nat}{b st:aQ}{Q:D→aQ→Prop}{bud:D}{steps:Int}{ending thing:D}{eE:List D}{kvs:List (Key×D)}{ws ps:List D}
theorem lF{s:Str}(hR:Rn b st bud steps ending thing [.ref (b.length+5)] kvs (ws++[.tup (.str s::xs)]) ps)(h:∀st',Rn b st' bud steps ending thing [.ref (b.length+5)] kvs ws ps→W (execs (calls tab k) (bp.body.drop 3) [some (.ref b.length),some (.ref (b.length+5)),some (.tup (.str s::xs))] st') (Kr Q)):Wv (calls tab (k+1) cj [.ref b.length] st) Q:=by
 walk_at "call0"
 refine cf (dl (bx (a_ rfl (iE hR.br 7 rfl (wr (bJ ⟨1,rfl,iW hR.fr rfl ?_⟩))))))
 refine cH (cI (jS (aj (bx (a_ rfl (iE hR.fm 1 rfl (aG (c7 hR.wt (bJ ?_)))))))))
 refine mn ⟨false,by simp;omega,nofun,fun _=>?_⟩
 refine cf (nF (bx (a_ rfl (iE hR.fm 1 rfl ⟨_,_,.tup (.str s::xs),rfl,hR.wt,by simp,?_⟩))))
 rw[List.dropLast_concat]
 exact h _ hR.wts
theorem pY(hR:Rn b st bud steps ending thing eE kvs ws ps)(hl:ws.length<1000)(h:∀st',Rn b st' bud steps ending thing eE kvs (ws++[.tup [.str "rows",eI,.int 1]]++[nQ]) ps→Q .non st'):Wv (calls tab (k+1) gG [.ref (b.length+5),eI,.int 0] st) Q:=by
 walk_at "call0"
 refine cH (cI (a_ rfl (jS (aj (a_ rfl (aG (qO (w_lt ⟨true,rfl,fun _=>?_,nofun⟩))))))))
 refine ke (bx (a_ rfl (iE hR.fm 1 rfl (fT hR.wt (dO (aj (bJ (aj (a_ rfl (aj (dP (a_ rfl (bJ (w_add (aG ?_)))))))))))))))
 refine fB hR.wt (by omega) ?_
 have hR1:Rn b _ bud steps ending thing eE kvs (ws++[.tup [.str "rows",eI,.int 1]]) ps:=hR.wts
 refine ke (bx (a_ rfl (iE hR1.fm 1 rfl (fT hR1.wt (dl (a_ rfl (a_ rfl (bW (d:=nQ) rfl ?_))))))))
 refine fB hR1.wt (by simp;omega) ?_
 have hR2:Rn b _ bud steps ending thing eE kvs (ws++[.tup [.str "rows",eI,.int 1]]++[nQ]) ps:=hR1.wts
 exact aK (bo (aK (cv (h _ hR2))))
theorem zH(hR:Rn b st bud steps ending thing [.ref (b.length+5)] kvs [.tup [.str "rows",eI,.int 0]] ps)(h:∀st',Rn b st' bud steps ending thing [.ref (b.length+5)] kvs [.tup [.str "rows",eI,.int 1],nQ] ps→Q .non st'):Wv (calls tab (k+3) cj [.ref b.length] st) Q:=by
 refine lF (k:=k+2) (ws:=[]) hR fun s1 hR1=>?_
 dsimp only[bp,List.drop]
 refine cH (oQ (dl (a_ rfl (bJ (bW rfl ⟨_,rfl,false,congrArg D.bl (by decide+kernel),nofun,fun _=>?_⟩)))))
 refine fA (cr (a_ rfl (nA hR1.br rfl (aj (a_ rfl (aj (a_ rfl (aG ?_))))))))
 walk_at "call0"
 refine cf (dl (a_ rfl (bJ (bW rfl ?_))))
 walk_at "yes1"
 refine fA (fw (aj (a_ rfl (aj (dl (a_ rfl (bJ (bW rfl (aj (dl (a_ rfl (bJ (bW rfl (aG ?_))))))))))))))
 refine pY (k:=k) hR1 (by simp) fun s2 hR2=>?_
 exact aK (bo (aK (cv (aK (bo (aK (cv (h _ hR2))))))))
theorem xc{ys:List D}(hl:ws.length<1000∧ys.length<1000)(hR:Rn b st bud steps ending thing eE kvs ws ps)(h:∀st',Rn b st' bud steps ending thing eE kvs (ws++[x]++ys.reverse) ps→Q .non st'):Wv (calls tab (k+1) ia [.ref (b.length+5),x,.tup ys] st) Q:=by
 walk_at "call0"
 refine ke (bx (a_ rfl (iE hR.fm 1 rfl (fT hR.wt (a_ rfl ?_)))))
 refine fB hR.wt (by omega) ?_
 have hR1:Rn b _ bud steps ending thing eE kvs (ws++[x]) ps:=hR.wts
 refine y8 (bx (a_ rfl (iE hR1.fm 1 rfl (fT hR1.wt (wQ (a_ rfl ⟨_,rfl,?_⟩))))))
 refine qS (aT hR1.wt) bh (by simp;omega) ?_
 exact aK (cv (h _ (hR1.more (.one _ _)).wts))
theorem zG(hR:Rn b st bud steps ending thing [.ref (b.length+5)] kvs [w,nQ] ps)(h:∀st',Rn b st' bud (steps+1) ending thing [.ref (b.length+5)] kvs [w,.tup [.str "leave"],vJ] ps→Q .non st'):Wv (calls tab (k+3) cj [.ref b.length] st) Q:=by
 refine lF (k:=k+2) (ws:=[w]) hR fun s1 hR1=>?_
 dsimp only[bp,List.drop]
 refine cH (oQ (dl (a_ rfl (bJ (bW rfl ⟨_,rfl,true,congrArg D.bl (by decide+kernel),fun _=>?_,nofun⟩)))))
 refine qM rfl hR1 fun s2 hR2=>?_
 refine fA (cr (a_ rfl (nA hR2.br rfl (aj (a_ rfl (aj (a_ rfl (aG ?_))))))))
 walk_at "call0"
 refine cf (dl (a_ rfl (bJ (bW rfl ?_))))
 walk_at "no1";walk_at "no1";walk_at "no1";walk_at "no1"
 refine cH (cI (a_ rfl (dO (aj (bJ (aj (bJ (aG (w_inS (k:=false) rfl (by simp only[iw,eq_str];decide+kernel) ⟨false,rfl,nofun,fun _=>?_⟩)))))))))
 walk_at "no1";walk_at "no1";walk_at "no1";walk_at "no1";walk_at "yes1"
 refine fA (cr (a_ rfl (nA hR2.fm rfl (aj (dO (aj (bJ (aG (aj (dO (aj (dl (a_ rfl (bJ (bW rfl (aG (aG ?_)))))))))))))))))
 refine xc (k:=k) (by simp) hR2 fun s3 hR3=>?_
 have hR4:=h _ hR3
 exact aK (bo (aK (bo (aK (bo (aK (bo (aK (bo (aK (bo (aK (bo (aK (bo (aK (bo (aK (bo (aK (cv (aK (bo (aK (cv hR4)))))))))))))))))))))))))
end
section
variable{k:Nat}{b st:aQ}{Q:D→aQ→Prop}{bud:D}{steps:Int}{ending thing:D}{eE:List D}{kvs:List (Key×D)}{ws ps:List D}
theorem zF{u d:D}(hd:i6 kvs (.inr "a")=some d)(hR:Rn b st bud steps ending thing [.ref (b.length+5)] kvs [w,u,vJ] [])(h:∀st',Rn b st' bud (steps+1) ending thing [.ref (b.length+5)] kvs [w,u] [d]→Q .non st'):Wv (calls tab (k+2) cj [.ref b.length] st) Q:=by
 refine lF (k:=k+1) (ws:=[w,u]) hR fun s1 hR1=>?_
 dsimp only[bp,List.drop]
 refine cH (oQ (dl (a_ rfl (bJ (bW rfl ⟨_,rfl,true,congrArg D.bl (by decide+kernel),fun _=>?_,nofun⟩)))))
 refine qM rfl hR1 fun s2 hR2=>?_
 refine fA (cr (a_ rfl (nA hR2.br rfl (aj (a_ rfl (aj (a_ rfl (aG ?_))))))))
 walk_at "call0"
 refine cf (dl (a_ rfl (bJ (bW rfl ?_))))
 walk_at "no1";walk_at "yes1"
 refine ke (bx (a_ rfl (iE hR2.fm 2 rfl (fT hR2.pt (dl (bx (a_ rfl (iE hR2.fm 0 rfl (dl (a_ rfl (bJ (bW rfl (wu hR2.hv hd ?_)))))))))))))
 refine fB hR2.pt (by simp) ?_
 have hR3:=h _ hR2.pts
 exact aK (bo (aK (bo (aK (cv (aK (bo (aK (cv hR3)))))))))
theorem rL(hR:Rn b st bud steps ending thing eE kvs ws ps)(h:∀st',Rn b st' bud steps (.str "answer") (.tup [.str "num",.int i]) eE kvs ws ps→Q .non st'):Wv (calls tab (k+2) jw [.ref b.length,.int i] st) Q:=by
 walk_at "call0"
 refine ld (bJ (a_ rfl (lc hR.br ⟨by simp,by decide+kernel⟩ ?_)))
 rw[nU]
 have hR1:Rn b _ bud steps (.str "answer") thing eE kvs ws ps:=hR.brs
 generalize List.set st b.length (O.ins "Runner" ([("budget",bud),("log",D.ref (b.length+1)),("took",.int 0),("steps",.int steps),("ending",.str "answer"),("thing",thing),("program",.ref 26),("frames",.ref (b.length+2))]:List (Str×D)))=s1 at hR1 ⊢
 refine ld (fw (aj (a_ rfl (aG (xg (k:=k) (b:=false) ⟨i,rfl⟩ ?_)))))
 refine a_ rfl (lc hR1.br ⟨by simp,by decide+kernel⟩ ?_)
 rw[p0]
 exact aK (cv (h _ hR1.brs))
theorem u7(hR:Rn b st bud steps ending thing [x] kvs ws ps)(h:∀st',Rn b st' bud steps (.str "answer") (.tup [.str "num",.int i]) [] kvs ws ps→Q .non st'):Wv (calls tab (k+3) jt [.ref b.length,.int i] st) Q:=by
 walk_at "call0"
 refine fA (nF (bx (a_ rfl (iE hR.br 7 rfl ⟨_,_,_,rfl,hR.fr,rfl,?_⟩))))
 have hR1:Rn b _ bud steps ending thing [] kvs ws ps:=hR.frz
 refine cH (cI (jS (aj (bx (a_ rfl (iE hR1.br 7 rfl (aG (c7 hR1.fr (bJ ?_)))))))))
 refine mn ⟨true,rfl,fun _=>?_,nofun⟩
 refine fA (cr (a_ rfl (nA hR1.br rfl (aj (a_ rfl (aG ?_))))))
 refine rL (k:=k) hR1 fun st' hR'=>?_
 exact aK (bo (aK (cv (h st' hR'))))
theorem zz(hR:Rn b st bud steps ending thing [.ref (b.length+5)] kvs [w,.tup [.str "leave"]] [.int i])(h:∀st',Rn b st' bud steps (.str "answer") (.tup [.str "num",.int i]) [] kvs [w] []→Q .non st'):Wv (calls tab (k+6) cj [.ref b.length] st) Q:=by
 refine lF (k:=k+5) (ws:=[w]) hR fun s1 hR1=>?_
 dsimp only[bp,List.drop]
 refine cH (oQ (dl (a_ rfl (bJ (bW rfl ⟨_,rfl,false,congrArg D.bl (by decide+kernel),nofun,fun _=>?_⟩)))))
 refine fA (cr (a_ rfl (nA hR1.br rfl (aj (a_ rfl (aj (a_ rfl (aG ?_))))))))
 walk_at "call0"
 refine cf (dl (a_ rfl (bJ (bW rfl ?_))))
 walk_at "no1";walk_at "no1";walk_at "no1";walk_at "no1"
 refine cH (cI (a_ rfl (bJ (wP (k:=false) (by rw[eq_str];decide+kernel) ⟨true,rfl,fun _=>?_,nofun⟩))))
 refine fA (cr (a_ rfl (nA hR1.br rfl (aj (a_ rfl (aj (a_ rfl (aj ?_))))))))
 refine nF (bx (a_ rfl (iE hR1.fm 2 rfl ⟨_,_,_,rfl,hR1.pt,rfl,?_⟩)))
 have hR2:Rn b (List.set s1 (b.length+7) (O.lst (List.dropLast [D.int i]))) bud steps ending thing [.ref (b.length+5)] kvs [w] []:=hR1.pts
 generalize List.set s1 (b.length+7) (O.lst (List.dropLast [D.int i]))=s2 at hR2 ⊢
 refine aG ?_
 walk_at "call0"
 refine cf (dl (a_ rfl (bJ (bW rfl ?_))))
 walk_at "no1";walk_at "no1"
 refine cH (w_and (cI (a_ rfl (bJ (w_eq (k:=false) (by rw[eq_str];decide+kernel) ⟨false,rfl,nofun,fun _=>⟨false,rfl,nofun,fun _=>?_⟩⟩)))))
 walk_at "no1";walk_at "yes1"
 refine fA (cr (a_ rfl (nA hR2.br rfl (aj (a_ rfl (aG ?_))))))
 refine u7 (k:=k) hR2 fun s3 hR3=>?_
 have hR4:=h _ hR3
 exact aK (bo (aK (bo (aK (bo (aK (bo (aK (bo (aK (cv (aK (bo (aK (bo (aK (bo (aK (bo (aK (bo (aK (cv (aK (bo (aK (cv hR4)))))))))))))))))))))))))))
theorem zN{l:Nat}(hl:st[l]? =some (.lst ws))(h:∀st',Gr st st'→Q .non st'):Wv (calls tab (k+1) oj [.ref st.length,ending,thing,.ref l,.int 0,.int steps] (st++[.ins "Run" []])) Q:=by
 obtain⟨s0,hs0⟩:∃s0,s0=st++[O.ins "Run" []]:=⟨_,rfl⟩
 rw[←hs0]
 walk_at "call0"
 rw[hs0]
 have e1:∀a:O,(st++[a]).length=st.length+1:=fun a=>by simp
 refine fv rfl (a_ rfl (mW bh ?_))
 rw[gA]
 refine fv rfl (a_ rfl (mW bh ?_))
 rw[gA]
 refine fv rfl (jS (aj (a_ rfl (aG (ug (aT hl) (mW (aT bh) ?_))))))
 rw[e1,List.append_assoc,show ∀a b:O,[a]++[b]=[a,b] from fun _ _=>rfl,cu]
 refine fv rfl (jS (aj (a_ rfl (aG (mm (aT hl) (mW mr ?_))))))
 rw[cu]
 refine fv rfl (a_ rfl (mW mr ?_))
 rw[cu]
 refine fv rfl (a_ rfl (mW mr ?_))
 rw[cu]
 exact aK (cv (h _ ⟨_,rfl⟩))
theorem u9(hR:Rn b st bud steps ending thing eE kvs ws ps)(h:∀n st',Gr st st'→Q (.ref n) st'):Wv (calls tab (k+2) j5 [.ref b.length] st) Q:=by
 walk_at "call0"
 refine ij (oM ?_)
 refine aj (bx (a_ rfl (iE hR.br 4 rfl ?_)))
 refine aj (bx (a_ rfl (iE hR.br 5 rfl ?_)))
 refine aj (bx (a_ rfl (iE hR.br 1 rfl ?_)))
 refine aj (bx (a_ rfl (iE hR.br 2 rfl ?_)))
 refine aj (bx (a_ rfl (iE hR.br 3 rfl (aG ?_))))
 exact zN (k:=k) hR.lg fun st' g=>⟨rfl,h _ _ g⟩
end
noncomputable def qb:Kd→D→Bool
 | .num,d=>o0 false d
 | .truth,d=>o0 true d
 |kd,.tup xs=>xs.length==kd.parts.length&&gV kd.parts xs
 |_,_=>false
noncomputable def Vl(st:aQ)(d:D):Prop:=(∀xs,d=.tup xs→∀x∈xs,jY x)∧∀n,d=.ref n→(∃xs,st[n]? =some (.lst xs))∨∃kvs,st[n]? =some (.dct kvs)
theorem Vl.gr{d:D}(h:Vl st d)(g:Gr st st'):Vl st' d:=⟨h.1,fun n e=>by
 rcases h.2 n e with⟨x,q⟩|⟨x,q⟩
 ·exact .inl ⟨x,g.at q⟩
 ·exact .inr ⟨x,g.at q⟩⟩
theorem kg{d:D}(h:Vl st d):ki st b d=some (o0 b d):=by
 cases d with
 |ref n=>rcases h.2 n rfl with⟨x,q⟩|⟨x,q⟩<;>cases b<;>simp[ki,bY,q,o0]
 |_=>exact mz trivial
theorem vO{d:D}(h:Vl st d)(hd:∀xs,d≠ .tup xs):bY st .tuple d=some false:=by
 cases d with
 |ref n=>rcases h.2 n rfl with⟨x,q⟩|⟨x,q⟩<;>simp[bY,q]
 |tup xs=>exact absurd rfl (hd xs)
 |_=>rfl
theorem my{d:D}(h:o0 b d=true):sc b d:=by
 cases b<;>cases d<;>first|exact⟨_,rfl⟩|cases h
theorem rn:∀{bs:List Bool}{ds:List D},ds.length=bs.length→gV bs ds=true→zt bs ds
 |[],[],_,_=>trivial
 |[],_::_,h,_=>by simp at h
 |_::_,[],h,_=>by simp at h
 |b::bs,d::ds,h,k=>by
  simp only[gV,Bool.and_eq_true] at k
  exact⟨my k.1,rn (by simpa using h) k.2⟩
theorem fits_of{kd:Kd}{d:D}(h:qb kd d=true):fits kd d:=by
 cases kd with
 |num=>exact my h
 |truth=>exact my h
 |_=>
  cases d with
  |tup xs=>
   simp only[qb,Bool.and_eq_true,beq_iff_eq] at h
   exact⟨xs,rfl,rn h.1 h.2⟩
  |_=>cases h
theorem mI{kd:Kd}(hk:kd.long=true){d:D}(hd:∀xs,d≠ .tup xs):qb kd d=false:=by
 cases kd with
 |num=>cases hk
 |truth=>cases hk
 |_=>cases d<;>first|rfl|exact absurd rfl (hd _)
theorem iO{kd:Kd}(hk:kd.long=true):qb kd (.tup xs)=(xs.length==kd.parts.length&&gV kd.parts xs):=by
 cases kd with
 |num=>cases hk
 |truth=>cases hk
 |_=>rfl
section
variable{k:Nat}{st:aQ}{Q:D→aQ→Prop}
theorem xn{kd:Kd}(ho:kd.ok){d:D}(hv:Vl st d)(h:∀st',Gr st st'→Q (.bl (qb kd d)) st'):Wv (calls tab (k+3) ci [d,kd.d] st) Q:=by
 have long:kd.long=true→Wv (calls tab (k+3) ci [d,kd.d] st) Q:=fun hk=>by
  by_cases ht:∃xs,d=.tup xs
  ·obtain⟨xs,rfl⟩:=ht
   by_cases hl:xs.length=kd.parts.length
   ·refine nP hk ho hl (hv.1 xs rfl) fun st' g=>?_
    have:=h st' g
    rw[iO hk,hl] at this
    simpa using this
   ·refine rF (k:=k+1) hk ho (.inr ⟨xs,rfl,hl⟩) (fun _ _=>rfl) fun st' g=>?_
    have:=h st' g
    rw[iO hk,beq_false_of_ne hl] at this
    exact this
  ·have ht:∀xs,d≠ .tup xs:=fun xs e=>ht ⟨xs,e⟩
   refine rF (k:=k+1) hk ho (.inl (vO hv ht)) (fun st' g=>by rw[vO hv ht,vO (hv.gr g) ht]) fun st' g=>?_
   have:=h st' g
   rw[mI hk ht] at this
   exact this
 cases kd with
 |num=>exact jc (b:=false) (k:=k+1) (kg hv) (h _ (.refl _))
 |truth=>exact jc (b:=true) (k:=k+1) (kg hv) (h _ (.refl _))
 |row n=>exact long rfl
 |rcd ps=>exact long rfl
theorem jd{d:D}(hr:ki st b d=some (o0 b d))(h:Q (.bl (o0 b d)) st):Wv (calls tab (k+1) d7 [d,pd b] st) Q:=by
 walk_at "call"
 refine w_eq (sr b) ⟨!b,rfl,fun hb=>?_,fun hb=>?_⟩
 ·have:b=false:=by simpa using hb
  subst this
  walk_at "ev"
  cases ha:bY st .int d with
  |none=>simp[ki,ha] at hr
  |some a=>
   cases hb:bY st .bool d with
   |none=>simp[ki,ha,hb] at hr
   |some b=>
    have hr':(a&& !b)=o0 false d:=by simpa[ki,ha,hb] using hr
    rw[←hr'] at h
    refine⟨a,rfl,a,rfl,fun h1=>?_,fun h1=>?_⟩
    ·subst h1
     walk_at "ev"
     refine⟨b,hb,b,rfl,?_⟩
     walk_at "ev"
     exact h
    ·subst h1
     walk_at "ev"
     exact h
 ·have:b=true:=by simpa using hb
  subst this
  walk_at "ev"
  refine w_eq (sq true) ⟨true,rfl,fun _=>?_,nofun⟩
  walk_at "ev"
  refine⟨_,hr,?_⟩
  walk_at "ev"
  exact h
theorem kb:∀{xs ys:List D},xs.length=ys.length→(fZ xs ys).length=xs.length
 |[],[],_=>rfl
 |[],_::_,h=>by simp at h
 |_::_,[],h=>by simp at h
 |_::xs,_::ys,h=>by simp[fZ,kb (xs:=xs) (ys:=ys) (by simpa using h)]
theorem xr{kd:Kd}(hk:kd.long=true)(ho:kd.ok){d:D}(h:∀p st',Gr st st'→st'[p]? =some (.lst (kd.parts.map pd))→W (execs (calls tab k) (cF.body.drop 3) [some d,some kd.d,some (.ref p)] st') (Kr Q)):Wv (calls tab (k+1) d7 [d,kd.d] st) Q:=by
 walk_at "call"
 refine w_eq (tq kd) ⟨false,(by cases kd<;>first|rfl|(cases hk;done)),nofun,fun _=>?_⟩
 walk_at "ev"
 refine w_eq (tm kd) ⟨false,(by cases kd<;>first|rfl|(cases hk;done)),nofun,fun _=>?_⟩
 walk_at "ev"
 cases kd with
 |num=>cases hk
 |truth=>cases hk
 |row n=>
  obtain⟨h1,h2⟩:=ho
  refine bW rfl ?_
  walk_at "ev"
  refine w_eq (k:=true) (by rw[eq_str];decide+kernel) ⟨true,rfl,fun _=>?_,nofun⟩
  walk_at "ev"
  refine bW rfl ?_
  refine wO bh ⟨by omega,by omega,by simp⟩ ?_
  refine h _ _ ((Gr.one _ _).more _) ?_
  rw[bh,Int.toNat_natCast]
  refine congrArg (fun z=>some (O.lst z)) ?_
  have:∀m:Nat,(List.replicate m [D.tup [D.str "num"]]).flatten=(List.replicate m false).map pd:=fun m=>by
   induction m with
   |zero=>rfl
   |succ m ih=>rw[List.replicate_succ,List.flatten_cons,ih,List.replicate_succ];rfl
  exact this n
 |rcd ps=>
  refine bW rfl ?_
  walk_at "ev"
  refine w_eq (k:=false) (by rw[eq_str];decide+kernel) ⟨false,rfl,nofun,fun _=>?_⟩
  walk_at "ev"
  refine bW rfl (aG (oO ?_))
  exact h _ _ (Gr.one _ _) bh
theorem xt{kd:Kd}(ho:kd.ok){d:D}(hv:Vl st d)(h:∀st',Gr st st'→Q (.bl (qb kd d)) st'):Wv (calls tab (k+2) d7 [d,kd.d] st) Q:=by
 have long:kd.long=true→Wv (calls tab (k+2) d7 [d,kd.d] st) Q:=fun hk=>by
  refine xr (k:=k+1) hk ho fun p st' g e=>?_
  dsimp only[cF,List.drop]
  walk_at "ev"
  by_cases ht:∃xs,d=.tup xs
  ·obtain⟨xs,rfl⟩:=ht
   refine⟨true,rfl,true,rfl,?_⟩
   walk_at "ev"
   refine⟨false,rfl,nofun,fun _=>?_⟩
   walk_at "ev"
   refine c7 e ?_
   walk_at "ev"
   by_cases hl:xs.length=kd.parts.length
   ·refine⟨false,by simp[hl],nofun,fun _=>?_⟩
    walk_at "ev"
    have hpl:kd.parts.length≤6:=by cases kd<;>simp[Kd.parts,Kd.ok] at ho ⊢<;>omega
    have hzl:(fZ xs (kd.parts.map pd)).length=xs.length:=kb (by simpa using hl)
    refine oU (a_ rfl (a_ rfl ⟨.zp xs p,rfl,?_⟩))
    refine iX (L:=fZ xs (kd.parts.map pd)) (by simp only[ej];omega) (mj _ _) (fun i acc st2=>Gr st' st2∧allB acc=some (gV (kd.parts.take i) (xs.take i))) ⟨.refl _,rfl⟩ ?_ ?_ ?_
    ·rintro i acc st2 ⟨g2,_⟩
     simp only[gm,g2.at e,gw]<;>cases xs[i]?<;>cases(kd.parts.map pd)[i]?<;>rfl
    ·rintro i x acc st2 hx ⟨g2,ha⟩
     rw[gw,aR] at hx
     cases q:kd.parts[i]? with
     |none=>rw[q] at hx;cases q2:xs[i]?<;>rw[q2] at hx<;>cases hx
     |some b=>
      cases q2:xs[i]? with
      |none=>rw[q2] at hx;cases hx
      |some y=>
       rw[q,q2] at hx
       cases hx
       refine lj (fw (aj (a_ rfl (aj (a_ rfl (aG ?_))))))
       refine jd (k:=k) (mz (hv.1 xs rfl _ (am q2))) ⟨g2,?_⟩
       rw[ii q q2]
       exact allB_snoc ha
    ·rintro acc st2 ⟨g2,ha⟩
     rw[hzl,List.take_length,hl,List.take_length] at ha
     walk_at "ev"
     refine w_allL bh ha ?_
     walk_at "ev"
     have:=h _ ((g.trans g2).more (.lst acc))
     rw[iO hk,hl] at this
     simpa using this
   ·refine⟨true,by simp;omega,fun _=>?_,nofun⟩
    walk_at "ev"
    have:=h st' g
    rw[iO hk,beq_false_of_ne hl] at this
    exact this
  ·have ht:∀xs,d≠ .tup xs:=fun xs e=>ht ⟨xs,e⟩
   refine⟨false,vO (hv.gr g) ht,false,rfl,?_⟩
   walk_at "ev"
   refine⟨true,rfl,fun _=>?_,nofun⟩
   walk_at "ev"
   refine⟨true,rfl,fun _=>?_,nofun⟩
   walk_at "ev"
   have:=h st' g
   rw[mI hk ht] at this
   exact this
 cases kd with
 |num=>exact jd (b:=false) (k:=k+1) (kg hv) (h _ (.refl _))
 |truth=>exact jd (b:=true) (k:=k+1) (kg hv) (h _ (.refl _))
 |row n=>exact long rfl
 |rcd ps=>exact long rfl
end
noncomputable def sM(p:D):D:= .tup [.str "input",p]
noncomputable def AO:D:= .tup [.str "budget",.non]
noncomputable def yn:D:= .tup [.str "good",.non]
structure Ins(st:aQ)(ks:List Kd)(v:Nat)(ds:List D):Prop where
 at_:st[v]? =some (.lst ds)
 len:ds.length=ks.length
 vl:∀x∈ds,Vl st x
theorem Ins.gr{ks:List Kd}{ds:List D}(h:Ins st ks v ds)(g:Gr st st'):Ins st' ks v ds:=⟨g.at h.at_,h.len,fun x hx=>(h.vl x hx).gr g⟩
noncomputable def ny(ks:List Kd)(ds:List D)(n:Nat):Prop:=∀(j:Nat) kd x,j<n→ks[j]? =some kd→ds[j]? =some x→qb kd x=true
noncomputable def Bb(bd:D):Prop:=o0 false bd=false∨∃i,bd=.int i∧¬(0≤i∧i≤10000)
inductive Cs(st:aQ)(ks:List Kd)(d bd:D):D→Prop
 |n (h:bY st .list d=some false∨∃v ds,d=.ref v∧st[v]? =some (.lst ds)∧ds.length≠ks.length):Cs st ks d bd (sM .non)
 |i (v:Nat) (ds:List D)(hd:d=.ref v)(hi:Ins st ks v ds)(j:Nat)(kd:Kd)(x:D)(hk:ks[j]? =some kd)(hx:ds[j]? =some x)(hno:qb kd x=false)(hf:ny ks ds j):Cs st ks d bd (sM (.int j))
 |b (v:Nat) (ds:List D)(hd:d=.ref v)(hi:Ins st ks v ds)(hf:ny ks ds ks.length)(hb:Bb bd)(hv:Vl st bd):Cs st ks d bd AO
 |g (v:Nat) (ds:List D)(hd:d=.ref v)(hi:Ins st ks v ds)(hf:ny ks ds ks.length)(i:Int)(hb:bd=.int i)(h0:0≤i∧i≤10000):Cs st ks d bd yn
theorem Cs.gr{ks:List Kd}{d:D}(h:Cs st ks d bd due)(g:Gr st st'):Cs st' ks d bd due:=by
 cases h with
 |n h=>
  refine .n ?_
  rcases h with h|⟨v,ds,e,hv,hl⟩
  ·exact .inl (jo h g)
  ·exact .inr ⟨v,ds,e,g.at hv,hl⟩
 |i v ds hd hi j kd x hk hx hno hf=>exact .i v ds hd (hi.gr g) j kd x hk hx hno hf
 |b v ds hd hi hf hb hv=>exact .b v ds hd (hi.gr g) hf hb (hv.gr g)
 |g v ds hd hi hf i hb h0=>exact .g v ds hd (hi.gr g) hf i hb h0
theorem least{P:Nat→Prop}:∀n,P n→∃n,P n∧∀m,m<n→¬P m:=fun n=>by
 induction n using Nat.strongRecOn with
 |_ n ih=>
  intro h
  by_cases q:∃m,m<n∧P m
  ·obtain⟨m,h1,h2⟩:=q
   exact ih m h1 h2
  ·exact⟨n,h,fun m hm hp=>q ⟨m,hm,hp⟩⟩
theorem AM{ks:List Kd}{d:D}(hd:(bY st .list d=some false∨∃v ds,d=.ref v∧st[v]? =some (.lst ds)∧ds.length≠ks.length)∨∃v ds,d=.ref v∧Ins st ks v ds)(hb:Vl st bd):∃due,Cs st ks d bd due:=by
 rcases hd with hd|⟨v,ds,hd,hi⟩
 ·exact⟨_,.n hd⟩
 ·by_cases q:∃(j:Nat)(kd:Kd)(x:D),ks[j]? =some kd∧ds[j]? =some x∧qb kd x=false
  ·obtain⟨j,hj⟩:=q
   obtain⟨m,⟨kd,x,h1,h2,h3⟩,hm⟩:=least (P:=fun j=>∃kd x,ks[j]? =some kd∧ds[j]? =some x∧qb kd x=false) j hj
   refine⟨_,.i v ds hd hi m kd x h1 h2 h3 fun j kd x hj h1 h2=>?_⟩
   cases e:qb kd x with
   |true=>rfl
   |false=>exact absurd ⟨kd,x,h1,h2,e⟩ (hm j hj)
  ·have hf:ny ks ds ks.length:=fun j kd x _ h1 h2=>by
    cases e:qb kd x with
    |true=>rfl
    |false=>exact absurd ⟨j,kd,x,h1,h2,e⟩ q
   cases e:o0 false bd with
   |false=>exact⟨_,.b v ds hd hi hf (.inl e) hb⟩
   |true=>
    obtain⟨i,rfl⟩:=my e
    by_cases h0:0≤i∧i≤10000
    ·exact⟨_,.g v ds hd hi hf i rfl h0⟩
    ·exact⟨_,.b v ds hd hi hf (.inr ⟨i,rfl,h0⟩) hb⟩
noncomputable def Ed(due:D)(r:Rs)(st:aQ):Prop:=(∃p n,due=sM p∧r=.x n∧tY st n p)∨(∃n,due=AO∧r=.x n∧st[n]? =some (.err "NoBudget" none true))∨∃d,due=yn∧r=.v d
theorem pQ{ks:List Kd}{ds:List D}(hl:ds.length=ks.length)(hf:ny ks ds ks.length):oI ks ds:=⟨hl,fun i kd d h1 h2=>fits_of (hf i kd d (aH h1).1 h1 h2)⟩
theorem yJ(h:Bb bd)(hv:Vl st bd):yP st bd:=by
 rcases h with h|h
 ·exact .inl (by rw[kg hv,h])
 ·exact .inr h
section
variable{k:Nat}{st:aQ}{ks:List Kd}{kp:Nat}{d bd due:D}
theorem rE{Q:Rs→aQ→Prop}(hC:Cs st ks d bd due)(hkp:st[kp]? =some (.lst (ks.map Kd.d)))(hok:∀kd∈ks,Kd.ok kd)(h:∀r st',Gr st st'→Ed due r st'→Q r st'):W (calls tab (k+4) cL [.ref kp,d,bd] st) Q:=by
 cases hC with
 |n hd=>exact uV (k:=k+1) hkp hd fun n st' g e=>h _ _ g (.inl ⟨_,n,rfl,rfl,e⟩)
 |i v ds hd hi j kd x hk hx hno hf=>
  subst hd
  have hj:=(aH hk).1
  refine lE (at_:=j) hkp hok hi.at_ hi.len (fun i kd d hij h1 h2=>fits_of (hf i kd d hij h1 h2)) (by omega) (fun kd' x' st' h1 h2 g=>?_) (fun e=>by omega)
  rw[hk] at h1
  rw[hx] at h2
  cases h1
  cases h2
  refine⟨?_,fun n st' g e=>h _ _ g (.inl ⟨_,n,rfl,rfl,e⟩)⟩
  refine xn (hok kd (am hk)) ((hi.vl x (am hx)).gr g) fun st2 g2=>?_
  rw[hno]
  exact⟨rfl,g2⟩
 |b v ds hd hi hf hb hv=>
  subst hd
  exact uX hkp hok hi.at_ (pQ hi.len hf) (yJ hb hv) fun n st' g e=>h _ _ g (.inr (.inl ⟨n,rfl,rfl,e⟩))
 |g v ds hd hi hf i hb h0=>
  subst hd hb
  exact uW hkp hok hi.at_ (pQ hi.len hf) h0 fun st' g=>h _ _ g (.inr (.inr ⟨_,rfl,rfl⟩))
theorem zK{Q:D→aQ→Prop}(hC:Cs st ks d bd due)(hkp:st[kp]? =some (.lst (ks.map Kd.d)))(hok:∀kd∈ks,Kd.ok kd)(h:∀st',Gr st st'→Q due st'):Wv (calls tab (k+3) gp [.ref kp,d,bd] st) Q:=by
 have wrong:(bY st .list d=some false∨∃v ds,d=.ref v∧st[v]? =some (.lst ds)∧ds.length≠ks.length)→(∀st',Gr st st'→Q (sM .non) st')→Wv (calls tab (k+3) gp [.ref kp,d,bd] st) Q:=fun hd h=>by
  walk_at "call0"
  refine cH ?_
  walk_at "ev"
  rcases hd with hd|⟨v,ds,rfl,hv,hl⟩
  ·refine⟨false,hd,false,rfl,?_⟩
   refine⟨true,rfl,fun _=>?_,nofun⟩
   refine⟨true,rfl,fun _=>?_,nofun⟩
   walk_at "ev"
   exact h _ (.refl _)
  ·refine⟨true,by simp only[bY,hv],true,rfl,?_⟩
   refine⟨false,rfl,nofun,fun _=>?_⟩
   walk_at "ev"
   refine c7 hv ?_
   walk_at "ev"
   refine c7 hkp ?_
   walk_at "ev"
   refine⟨true,by simp;omega,fun _=>?_,nofun⟩
   walk_at "ev"
   exact h _ (.refl _)
 have loop:∀v ds (j:Nat),d=.ref v→Ins st ks v ds→j≤ks.length→ny ks ds j→(∀kd x st',ks[j]? =some kd→ds[j]? =some x→Gr st st'→qb kd x=false∧Q (sM (.int j)) st')→(j=ks.length→∀loc st',Gr st st'→(∃x y,loc=[some (.ref kp),some d,some bd,x,y])→W (execs (calls tab (k+2)) (cA.body.drop 2) loc st') (Kr Q))→Wv (calls tab (k+3) gp [.ref kp,d,bd] st) Q:=fun v ds j e hi hj hf hb hr=>by
  subst e
  walk_at "call0"
  refine cH ?_
  walk_at "ev"
  refine⟨true,by simp only[bY,hi.at_],true,rfl,?_⟩
  refine⟨false,rfl,nofun,fun _=>?_⟩
  walk_at "ev"
  refine c7 hi.at_ ?_
  walk_at "ev"
  refine c7 hkp ?_
  walk_at "ev"
  refine⟨false,by simp[hi.len],nofun,fun _=>?_⟩
  refine aK (bo ?_)
  refine qR (fun n xs i loc st'=>Gr st st'∧(n=kp∧xs=ks.map Kd.d)∧i≤j∧∃x y,loc=[some (.ref kp),some (.ref v),some bd,x,y]) ?_
  refine a_ rfl ⟨_,_,rfl,hkp,⟨.refl _,⟨rfl,rfl⟩,by omega,_,_,rfl⟩,fun i loc st' hp=>hp.1.at hkp,?_,?_⟩
  ·rintro i x loc st' hx ⟨g,_,hij,a1,a2,rfl⟩
   rw[aR] at hx
   cases q:ks[i]? with
   |none=>rw[q] at hx;cases hx
   |some kd=>
    rw[q] at hx
    cases hx
    have hik:=(aH q).1
    have hlen:=hi.len
    have hd:ds[i]? =some ds[i]:=aU (by omega)
    walk_at "ev"
    obtain⟨d,e1,e2⟩:=gu (xs:=ds) (i:=(i:Int)) (by omega) (by omega)
    have:d=ds[i]:=by
     rw[Int.toNat_natCast,hd] at e2
     exact(ag e2).symm
    subst this
    refine iW (g.at hi.at_) e1 ?_
    walk_at "ev"
    refine xt (k:=k) (hok kd (am q)) ((hi.vl _ (am hd)).gr g) fun st2 g2=>?_
    by_cases hlt:i<j
    ·refine⟨true,by rw[hf i kd _ hlt q hd],?_⟩
     refine⟨false,rfl,nofun,fun _=>?_⟩
     exact aK ⟨g.trans g2,⟨rfl,rfl⟩,hlt,_,_,rfl⟩
    ·have:i=j:=by omega
     subst this
     obtain⟨h1,h2⟩:=hb kd _ st2 q hd (g.trans g2)
     refine⟨false,by rw[h1],?_⟩
     refine⟨true,rfl,fun _=>?_,nofun⟩
     walk_at "ev"
     exact h2
  ·rintro loc st' ⟨g,_,hi,hloc⟩
   rw[List.length_map] at hi
   exact hr (by omega) loc st' g hloc
 cases hC with
 |n hd=>exact wrong hd h
 |i v ds hd hi j kd x hk hx hno hf=>
  refine loop v ds j hd hi (Nat.le_of_lt (aH hk).1) hf (fun kd' x' st' h1 h2 g=>?_) (fun e=>by have:=(aH hk).1;omega)
  rw[hk] at h1
  rw[hx] at h2
  cases h1
  cases h2
  exact⟨hno,h _ g⟩
 |b v ds hd hi hf hb hv=>
  refine loop v ds ks.length hd hi (af _) hf (fun kd d st' q=>by simp at q) fun _ loc st' g hloc=>?_
  obtain⟨x,y,rfl⟩:=hloc
  dsimp only[cA,List.drop]
  refine cH (w_or (w_not (fw (aj (a_ rfl (aj (dO (aj (bJ (aG (aG ?_)))))))))))
  have hv':=hv.gr g
  have fin:W (execs (calls tab (k+2)) [.ret (.tup [.c (.str "budget"),.c .non])] [some (.ref kp),some d,some bd,x,y] st') (Kn (calls tab (k+2)) [.ret (.tup [.c (.str "good"),.c .non])] (Kr Q)):=by
   walk_at "ev"
   exact h _ g
  refine jd (k:=k+1) (b:=false) (kg hv') ?_
  rcases hb with hb|⟨i,rfl,hi⟩
  ·refine⟨false,by rw[hb],?_⟩
   refine⟨true,rfl,fun _=>?_,nofun⟩
   exact⟨true,rfl,fun _=>fin,nofun⟩
  ·refine⟨true,rfl,?_⟩
   refine⟨false,rfl,nofun,fun _=>?_⟩
   walk_at "ev"
   refine⟨_,rfl,fun h1=>?_,fun h1=>?_⟩
   ·have h1:=of_decide_eq_true h1
    walk_at "ev"
    refine⟨_,rfl,?_⟩
    refine⟨true,by simp;omega,fun _=>fin,nofun⟩
   ·refine⟨false,rfl,?_⟩
    exact⟨true,rfl,fun _=>fin,nofun⟩
 |g v ds hd hi hf i hb h0=>
  refine loop v ds ks.length hd hi (af _) hf (fun kd d st' q=>by simp at q) fun _ loc st' g hloc=>?_
  obtain⟨x,y,rfl⟩:=hloc
  subst hb
  dsimp only[cA,List.drop]
  refine cH (w_or (w_not (fw (aj (a_ rfl (aj (dO (aj (bJ (aG (aG ?_)))))))))))
  refine jd (k:=k+1) (b:=false) rfl ?_
  refine⟨true,rfl,?_⟩
  refine⟨false,rfl,nofun,fun _=>?_⟩
  walk_at "ev"
  refine⟨true,by simp;omega,fun _=>?_,nofun⟩
  walk_at "ev"
  refine⟨true,by simp;omega,?_⟩
  refine⟨false,rfl,nofun,fun _=>?_⟩
  walk_at "ev"
  exact h _ g
end
noncomputable def iB(R:Nat):List Kd:=[.num,.truth,.row R,.rcd [false,true]]
theorem n_{R:Nat}(h:1≤R∧R≤6):∀kd∈iB R,Kd.ok kd:=fun kd hk=>by
 simp only[iB,List.mem_cons,List.not_mem_nil,or_false] at hk
 rcases hk with rfl|rfl|rfl|rfl
 ·trivial
 ·trivial
 ·exact h
 ·exact⟨by simp,by simp⟩
theorem pG(h:Q (.ex n loc) st):W (sW .no loc (.x n) st) (Kn g ss Q):=h
theorem Ai{yes:List Str}{i:Nat}{s:List S}{l:Loc}(h:Q (.nx l) st):Kt g yes i s Q (.nx l) st:=h
theorem wg{ks:List Kd}{d:D}(h:Cs st ks d bd due)(e:due=yn):∃v ds i,d=.ref v∧bd=.int i∧Ins st ks v ds∧ny ks ds ks.length:=by
 have ne:∀{a b:Str}{x y:D},a≠b→D.tup [.str a,x]=.tup [.str b,y]→False:=fun h e=>by
  injection e with e
  injection e with e _
  injection e with e
  exact h e
 cases h with
 |n h=>exact(ne (by decide+kernel) e).elim
 |i v ds hd hi j kd x hk hx hno hf=>exact(ne (by decide+kernel) e).elim
 |b v ds hd hi hf hb hv=>exact(ne (by decide+kernel) e).elim
 |g v ds hd hi hf i hb h0=>exact⟨v,ds,i,hd,hb,hi,hf⟩
section
variable{k:Nat}{st:aQ}{R:Nat}{kp:Nat}{d bd due:D}
theorem u8{x2:Option D}{r:Loc}{Q:D→aQ→Prop}(h:Q (.ref st.length) (st++[.lst ((iB R).map Kd.d)])):W (run g (.compU (.v 3) (.v 1)) (x0::x1::x2::some (.tup (dv R))::r) st) Q:=by
 refine uj (a_ rfl ⟨.its (dv R),rfl,?_⟩)
 refine iX (L:=dv R) (by simp[ej,dv]) (by simp[ej]) (fun i acc st'=>acc=((iB R).map Kd.d).take i∧st'=st) ⟨rfl,rfl⟩ (fun _ _ _ _=>rfl) ?_ ?_
 ·rintro i x acc st' hx ⟨rfl,rfl⟩
  match i with
  |0|1|2|3=>cases hx;exact lj (a_ rfl ⟨rfl,rfl⟩)
  |i+4=>cases hx
 ·rintro acc st' ⟨rfl,rfl⟩
  exact h
theorem xj{ds:List D}{Q:Rs→aQ→Prop}(hT:Tr R st)(hi:Ins st (iB R) v ds)(hf:ny (iB R) ds (iB R).length)(h:∀n st',Gr st st'→Q (.v (.ref n)) st'):W (execs (calls tab (k+6)) (cm.body.drop 2) [some (.ref 26),some (.ref v),some (.int i),some (.tup (dv R)),none] st) (Kx Q):=by
 dsimp only[cm,List.drop]
 have hlen:ds.length=4:=hi.len
 obtain⟨i0,hi0⟩:∃i0,ds.getD 0 .non=.int i0:=by
  have h0:ds[0]? =some (ds.getD 0 .non):=by simp[hlen]
  exact my (b:=false) (hf 0 .num _ (by simp[iB]) rfl h0)
 have hva:i6 (fe ds) (.inr "a")=some (.int i0):=by rw[←hi0];simp[fe,i6]
 refine cf (oM (aj (a_ rfl (aj (a_ rfl (aG (rM (k:=k+4) ⟨rfl,?_⟩)))))))
 have hB:(st++[O.ins "Runner" ([("budget",.int i),("log",D.ref (st.length+1)),("took",.int 0),("steps",.int 0),("ending",.non),("thing",.non),("program",.ref 26),("frames",.ref (st.length+2))]:List (Str×D)),.lst [],.lst []])[st.length]? =some (.ins "Runner" ([("budget",.int i),("log",D.ref (st.length+1)),("took",.int 0),("steps",.int 0),("ending",.non),("thing",.non),("program",.ref 26),("frames",.ref (st.length+2))]:List (Str×D))):=by simp
 refine fA (cr (a_ rfl (nA hB rfl (aj (bJ (aj (a_ rfl (aG ?_))))))))
 refine u_ (k:=k+4) hT hi.at_ hlen fun s1 hR1=>?_
 refine wN (fun m loc st'=>loc=[some (.ref 26),some (.ref v),some (.int i),some (.tup (dv R)),some (.ref st.length)]∧
  ((m=4∧Rn st st' (.int i) 0 .non .non [.ref (st.length+5)] (fe ds) [.tup [.str "rows",eI,.int 0]] [])∨
   (m=3∧Rn st st' (.int i) 0 .non .non [.ref (st.length+5)] (fe ds) [.tup [.str "rows",eI,.int 1],nQ] [])∨
   (m=2∧Rn st st' (.int i) (0+1) .non .non [.ref (st.length+5)] (fe ds) [.tup [.str "rows",eI,.int 1],.tup [.str "leave"],vJ] [])∨
   (m=1∧Rn st st' (.int i) (0+1+1) .non .non [.ref (st.length+5)] (fe ds) [.tup [.str "rows",eI,.int 1],.tup [.str "leave"]] [.int i0])∨
   (m=0∧Rn st st' (.int i) (0+1+1) (.str "answer") (.tup [.str "num",.int i0]) [] (fe ds) [.tup [.str "rows",eI,.int 1]] []))) 4 (by decide) ⟨rfl,.inl ⟨rfl,hR1⟩⟩ ?_
 rintro m loc st' ⟨rfl,⟨rfl,hR⟩|⟨rfl,hR⟩|⟨rfl,hR⟩|⟨rfl,hR⟩|⟨rfl,hR⟩⟩
 ·refine cI (bx (a_ rfl (iE hR.br 4 rfl (bJ (w_is (k:=true) rfl ⟨true,rfl,fun _=>⟨3,rfl,?_⟩,nofun⟩)))))
  refine fA (cr (a_ rfl (nA hR.br rfl (aG (zH (k:=k+3) hR fun s2 hR2=>?_)))))
  exact aK ⟨rfl,.inr (.inl ⟨rfl,hR2⟩)⟩
 ·refine cI (bx (a_ rfl (iE hR.br 4 rfl (bJ (w_is (k:=true) rfl ⟨true,rfl,fun _=>⟨2,rfl,?_⟩,nofun⟩)))))
  refine fA (cr (a_ rfl (nA hR.br rfl (aG (zG (k:=k+3) hR fun s2 hR2=>?_)))))
  exact aK ⟨rfl,.inr (.inr (.inl ⟨rfl,hR2⟩))⟩
 ·refine cI (bx (a_ rfl (iE hR.br 4 rfl (bJ (w_is (k:=true) rfl ⟨true,rfl,fun _=>⟨1,rfl,?_⟩,nofun⟩)))))
  refine fA (cr (a_ rfl (nA hR.br rfl (aG (zF (k:=k+4) hva hR fun s2 hR2=>?_)))))
  exact aK ⟨rfl,.inr (.inr (.inr (.inl ⟨rfl,hR2⟩)))⟩
 ·refine cI (bx (a_ rfl (iE hR.br 4 rfl (bJ (w_is (k:=true) rfl ⟨true,rfl,fun _=>⟨0,rfl,?_⟩,nofun⟩)))))
  refine fA (cr (a_ rfl (nA hR.br rfl (aG (zz (k:=k) hR fun s2 hR2=>?_)))))
  exact aK ⟨rfl,.inr (.inr (.inr (.inr ⟨rfl,hR2⟩)))⟩
 ·refine cI (bx (a_ rfl (iE hR.br 4 rfl (bJ (w_is (k:=false) rfl ⟨false,rfl,nofun,fun _=>?_⟩)))))
  refine ij (cr (a_ rfl (nA hR.br rfl (aG (u9 (k:=k+4) hR fun n s2 g2=>?_)))))
  exact Ah (h n s2 (hR.gr.trans g2))
theorem xi{Q:Rs→aQ→Prop}(hT:Tr R st)(hR:1≤R∧R≤6)(hC:Cs st (iB R) d bd due)(h:∀r st',Gr st st'→Ed due r st'→Q r st'):W (calls tab (k+7) lV [.ref 26,d,bd] st) Q:=by
 walk_at "callx0"
 refine cf (dl (cr (a_ rfl (nA hT.t rfl (aj (bJ (aG (o6 (k:=k+5) hT (bJ (bW rfl ?_))))))))))
 refine eO (aj (u8 (R:=R) (aj (a_ rfl (aj (a_ rfl (aG ?_)))))))
 have g1:Gr st (st++[.lst ((iB R).map Kd.d)]):= .one _ _
 refine rE (k:=k+2) (hC.gr g1) bh (n_ hR) fun r st2 g2 he=>?_
 have g2:=g1.trans g2
 rcases he with⟨p,n,e1,rfl,e⟩|⟨n,e1,rfl,e⟩|⟨x,e1,rfl⟩
 ·exact pG (wG (h _ _ g2 (.inl ⟨p,n,e1,rfl,e⟩)))
 ·exact pG (wG (h _ _ g2 (.inr (.inl ⟨n,e1,rfl,e⟩))))
 ·obtain⟨v,ds,i,rfl,rfl,hi,hf⟩:=wg (hC.gr g2) e1
  exact oo (xj (k:=k) (hT.gr g2) hi hf fun n st3 g3=>h _ _ (g2.trans g3) (.inr (.inr ⟨_,e1,rfl⟩)))
theorem rH{Q:D→aQ→Prop}{w:Int}(hT:Tr R st)(hR:1≤R∧R≤6)(hkp:st[kp]? =some (.lst ((iB R).map Kd.d)))(hC:Cs st (iB R) d bd due)(h:∀st',Gr st st'→Q due st'):Wv (calls tab (k+8) j3 [.int w,.ref 26,.ref kp,d,bd] st) Q:=by
 walk_at "call0"
 refine cf (bJ ?_)
 have fin:∀r st',Gr st st'→Ed due r st'→W (sW .no [some (.int w),some (.ref 26),some (.ref kp),some d,some bd,some .non,none] r st') (Kn (calls tab (k+7)) [] (Kn (calls tab (k+7)) [] (Kt (calls tab (k+7)) ["NoInput","NoBudget"] 6 [.set 5 (.v 6)] (Kn (calls tab (k+7)) (bZ.body.drop 2) (Kr Q))))):=fun r st' g he=>by
  dsimp only[bZ,List.drop]
  rcases he with⟨p,n,rfl,rfl,m,e1,e2⟩|⟨n,rfl,rfl,e1⟩|⟨x,rfl,rfl⟩
  ·refine pG ⟨_,_,e1,by decide+kernel,cf (a_ rfl (aK ?_))⟩
   refine cH (w_and (oP (a_ rfl ⟨_,_,_,_,true,rfl,e1,by simp only[jI,e2],fun _=>by decide+kernel,nofun,true,rfl,fun _=>?_,nofun⟩)))
   refine w_not (oP (a_ rfl ⟨_,_,_,_,false,rfl,e1,by simp only[jI,e2],nofun,fun _=>⟨by decide+kernel,by decide+kernel⟩,false,rfl,true,rfl,fun _=>?_,nofun⟩))
   refine ij (dO (aj (bJ (aj (w_fld (a_ rfl ⟨_,_,_,_,_,p,rfl,e1,e2,by simp[List.lookup],by decide+kernel,aG ?_⟩))))))
   exact h _ g
  ·refine pG ⟨_,_,e1,by decide+kernel,cf (a_ rfl (aK ?_))⟩
   refine cH (w_and (oP (a_ rfl ⟨_,_,_,_,false,rfl,e1,rfl,nofun,fun _=>⟨by decide+kernel,by decide+kernel⟩,false,rfl,nofun,fun _=>⟨false,rfl,nofun,fun _=>?_⟩⟩)))
   refine aK (bo ?_)
   refine cH (cI (a_ rfl (bJ (w_is (k:=false) rfl ⟨false,rfl,nofun,fun _=>?_⟩))))
   refine aK (bo ?_)
   refine ij (dl (fc (aj (dO (aj (bJ (aj (bJ (aG (aj (dO (aj (bJ (aj (bJ (aG (aG ?_)))))))))))))))))
   refine jS (aj (oP (a_ rfl ⟨_,_,_,_,true,rfl,aT e1,rfl,fun _=>by decide+kernel,nofun,aG (qP (iW bh rfl ?_))⟩)))
   exact h _ (g.more _)
  ·refine oo (aK (bo (aK (Ai (bo ?_)))))
   refine cH (w_and (wS (a_ rfl ⟨rfl,false,rfl,nofun,fun _=>⟨false,rfl,nofun,fun _=>?_⟩⟩)))
   refine aK (bo ?_)
   refine cH (cI (a_ rfl (bJ (w_is (k:=true) rfl ⟨true,rfl,fun _=>?_,nofun⟩))))
   refine ij (dO (aj (bJ (aj (bJ (aG ?_))))))
   exact h _ g
 refine yY (cH (cI (a_ rfl (bJ (mn ⟨_,rfl,fun _=>?_,fun _=>?_⟩)))))
 ·refine eO (aj (a_ rfl (aj (a_ rfl (aj (a_ rfl (aG ?_)))))))
  exact xi (k:=k) hT hR hC fun r st' g e=>fin r st' g e
 ·refine eO (aj (a_ rfl (aj (a_ rfl (aj (a_ rfl (aG ?_)))))))
  exact rE (k:=k+3) hC hkp (n_ hR) fun r st' g e=>fin r st' g e
end
noncomputable def tree(R:Int):aQ:=[.ins "Heads" [("records",.ref 1),("functions",.ref 2)],
 .dct [(.inr "pair",.tup [.int (0),.tup [.tup [.str "x",.tup [.str "num"]],.tup [.str "y",.tup [.str "truth"]]]])],
 .dct [(.inr "main",.tup [.int (1),.tup [.tup [.str "a",.tup [.str "num"]],.tup [.str "b",.tup [.str "truth"]],.tup [.str "r",.tup [.str "row",.int R]],.tup [.str "p",.tup [.str "named",.str "pair"]]],.tup [.str "num"]])],
 .dct [(.inr "x",.bl true),(.inr "y",.bl true)],
 .dct [(.inr "a",.bl true),(.inr "b",.bl true),(.inr "r",.bl true),(.inr "p",.bl true)],
 .lst [],
 .lst [.tup [.str "return",.tup [.str "name",.str "a"]]],
 .lst [.tup [.str "name",.str "a"]],
 .lst [],
 .dct [(.inr "main",.tup [.tup [.tup [.str "a",.tup [.str "num"]],.tup [.str "b",.tup [.str "truth"]],.tup [.str "r",.tup [.str "row",.int R]],.tup [.str "p",.tup [.str "record",.tup [.tup [.str "num"],.tup [.str "truth"]]]]],.tup [.str "num"],.tup [.tup [.str "return",.tup [.str "local",.str "a",.tup [.str "num"]]]]])],
 .lst [.tup [.str "num"],.tup [.str "truth"]],
 .lst [.tup [.str "a",.tup [.str "num"]],.tup [.str "b",.tup [.str "truth"]],.tup [.str "r",.tup [.str "row",.int R]],.tup [.str "p",.tup [.str "record",.tup [.tup [.str "num"],.tup [.str "truth"]]]]],
 .ins "Body" [("heads",.ref 0),("gives",.tup [.str "num"])],
 .lst [.tup [.str "a",.tup [.tup [.str "num"],.int (1)]],.tup [.str "b",.tup [.tup [.str "truth"],.int (1)]],.tup [.str "r",.tup [.tup [.str "row",.int R],.int (1)]],.tup [.str "p",.tup [.tup [.str "named",.str "pair"],.int (1)]]],
 .dct [(.inr "a",.tup [.tup [.str "num"],.int (1)]),(.inr "b",.tup [.tup [.str "truth"],.int (1)]),(.inr "r",.tup [.tup [.str "row",.int R],.int (1)]),(.inr "p",.tup [.tup [.str "named",.str "pair"],.int (1)])],
 .dct [(.inr "a",.tup [.tup [.str "num"],.int (1)]),(.inr "b",.tup [.tup [.str "truth"],.int (1)]),(.inr "r",.tup [.tup [.str "row",.int R],.int (1)]),(.inr "p",.tup [.tup [.str "named",.str "pair"],.int (1)])],
 .lst [.tup [.str "return",.tup [.str "local",.str "a",.tup [.str "num"]]]],
 .lst [.tup [.tup [.str "local",.str "a",.tup [.str "num"]],.tup [.str "num"],.int (3)]],
 .lst [.tup [.str "name",.str "a"]],
 .lst [],
 .lst [],
 .lst [],
 .lst [],
 .lst [],
 .lst [.tup [.str "name",.str "a"]],
 .lst [],
 .ins "Typed" [("functions",.ref 27),("kept_functions",.ref 28)],
 .dct [(.inr "main",.tup [.tup [.tup [.str "a",.tup [.str "num"]],.tup [.str "b",.tup [.str "truth"]],.tup [.str "r",.tup [.str "row",.int R]],.tup [.str "p",.tup [.str "record",.tup [.tup [.str "num"],.tup [.str "truth"]]]]],.tup [.str "num"],.tup [.tup [.str "return",.tup [.str "local",.str "a",.tup [.str "num"]]]]])],
 .dct [(.inr "main",.tup [.tup [.tup [.str "a",.tup [.str "num"]],.tup [.str "b",.tup [.str "truth"]],.tup [.str "r",.tup [.str "row",.int R]],.tup [.str "p",.tup [.str "record",.tup [.tup [.str "num"],.tup [.str "truth"]]]]],.tup [.str "num"],.tup [.tup [.str "return",.tup [.str "local",.str "a",.tup [.str "num"]]]]])]]
theorem uB(k:Nat)(R:Int):calls tab (k+9) mV [.int R] []=.ok (.v (.ref 26)) (tree R):=by kernel_rfl
theorem uA{R:Int}:Tr R (tree R):=⟨rfl,rfl⟩
theorem fj{d:D}(h:nX d=true):Vl st d:=⟨fun xs e=>(by subst e;cases h),fun n e=>(by subst e;cases h)⟩
theorem qX(h:∀x∈xs,jY x):Vl st (.tup xs):=⟨fun ys e=>(by cases e;exact h),fun n e=>(by cases e)⟩
theorem za(h:st[n]? =some (.lst xs)):Vl st (.ref n):=⟨fun ys e=>(by cases e),fun m e=>(by cases e;exact .inl ⟨_,h⟩)⟩
theorem A_{kvs:List (Key×D)}(h:st[n]? =some (.dct kvs)):Vl st (.ref n):=⟨fun ys e=>(by cases e),fun m e=>(by cases e;exact .inr ⟨_,h⟩)⟩
theorem uq(hx:jY x):Vl st (.tup (List.flatten (List.replicate n [x]))):=qX fun y hy=>by
 simp only[List.mem_flatten,List.mem_replicate] at hy
 obtain⟨l,⟨_,rfl⟩,hy⟩:=hy
 simp only[List.mem_singleton] at hy
 subst hy
 exact hx
theorem Vl.set{d:D}(h:Vl st d):Vl (st.set p (.lst xs)) d:=⟨h.1,fun n e=>by
 by_cases q:p=n
 ·subst q
  have:p<st.length:=by
   rcases h.2 p e with⟨x,q⟩|⟨x,q⟩<;>exact(aH q).1
  exact .inl ⟨_,dw this⟩
 ·rw[aL q]
  exact h.2 n e⟩
section
variable{k:Nat}{st:aQ}{Q:D→aQ→Prop}
theorem uR{R:Nat}(hR:1≤R∧R≤6)(h:∀d st',Gr st st'→Vl st' d→Q d st'):Wv (calls tab (k+2) lW [.int c,.int R] st) Q:=by
 walk_at "call0"
 walk_at "ev"
 refine⟨5,rfl,?_⟩
 walk_at "ev"
 refine lm ⟨by omega,by omega,by simp,by simp⟩ ?_
 walk_at "ev"
 refine lm ⟨by omega,by omega,by simp,by simp⟩ ?_
 walk_at "ev"
 refine lm ⟨by omega,by omega,by simp,by simp⟩ ?_
 walk_at "ev"
 refine nH (aT bh) bh (by simp) ?_
 walk_at "ev"
 refine iK (k:=k) ?_
 walk_at "ev"
 have b0:=Int.emod_nonneg (mx c 1) (show(15:Int)≠0 by omega)
 have b1:=bm (mx c 1) (show(0:Int)<15 by omega)
 obtain⟨d,e1,e2⟩:=gu (xs:=[D.non,.str "1",.int 1,.bl true,.bl false,.ref st.length,.tup [],.ref (st++[O.lst []]).length,.int 0,.int (-5)]++[.tup (List.flatten (List.replicate (R:Int).toNat [D.int 1])),.tup (List.flatten (List.replicate ((R:Int)+1).toNat [D.int 1])),.tup (List.flatten (List.replicate (R:Int).toNat [D.bl true])),.tup [.int 1,.bl true],.tup [.int 1,.int 1]]) (i:=mx c 1 % 15) b0 (by simpa using b1)
 refine iW bh e1 ?_
 walk_at "ev"
 refine h d _ ⟨_,by simp only[List.append_assoc];rfl⟩ ?_
 have hm:=am e2
 simp only[List.cons_append,List.nil_append,List.mem_cons,List.not_mem_nil,or_false] at hm
 rcases hm with rfl|rfl|rfl|rfl|rfl|rfl|rfl|rfl|rfl|rfl|rfl|rfl|rfl|rfl|rfl
 ·exact fj rfl
 ·exact fj rfl
 ·exact fj rfl
 ·exact fj rfl
 ·exact fj rfl
 ·exact za (aT (aT (aT (aT bh))))
 ·exact qX (by simp)
 ·exact A_ (aT (aT (aT bh)))
 ·exact fj rfl
 ·exact fj rfl
 ·exact uq trivial
 ·exact uq trivial
 ·exact uq trivial
 ·exact qX (by simp[jY])
 ·exact qX (by simp[jY])
end
theorem rO{i:Nat}(h:(c9 n)[i]? =some x):x=.int (i:Int):=by
 unfold c9 at h
 rw[aR] at h
 cases q:(List.range n)[i]? with
 |none=>rw[q] at h;cases h
 |some j=>
  rw[q] at h
  obtain⟨_,e⟩:=aH q
  have:j=i:=by simpa using e.symm
  subst this
  exact(ag h).symm
theorem tJ{ks:List Kd}{d:D}(h:Cs st ks d bd due):∃a p,due=.tup [.str a,p]∧nX p=true∧∀st',bY st' .bool p=some false:=by
 cases h with
 |n h=>exact⟨_,_,rfl,rfl,fun _=>rfl⟩
 |i v ds hd hi j kd x hk hx hno hf=>exact⟨_,_,rfl,rfl,fun _=>rfl⟩
 |b v ds hd hi hf hb hv=>exact⟨_,_,rfl,rfl,fun _=>rfl⟩
 |g v ds hd hi hf i hb h0=>exact⟨_,_,rfl,rfl,fun _=>rfl⟩
theorem yq{p:D}(h:nX p=true):fO 60 st (.tup [.str a,p]) (.tup [.str a,p])=some true:=by
 cases p<;>first|(cases h;done)|simp[fO,shape,dU,nB,oz]
theorem Ins.set{ks:List Kd}{m:Nat}{ds:List D}(h:Ins st ks v ds)(hx:Vl st x):Ins (st.set v (.lst (ds.set m x))) ks v (ds.set m x):=
 ⟨dw (aH h.at_).1,by rw[aE];exact h.len,fun y hy=>by
  rcases List.mem_or_eq_of_mem_set hy with hy|rfl
  ·exact(h.vl y hy).set
  ·exact hx.set⟩
section
variable{k:Nat}{st:aQ}{R:Nat}
theorem ue{ds:List D}(hR:1≤R∧R≤6)(hp:s0.length≤p)(g:Gr s0 st)(hi:Ins st (iB R) p ds)
  (h:∀x7 ds' st',Gr s0 st'→Ins st' (iB R) p ds'→W (execs (calls tab (k+9)) ss [a0,some (.int R),a2,a3,some (.int c),some (.int m),some (.ref p),x7,a8,a9,a10,a11] st') Q):
  W (execs (calls tab (k+9)) (.for_ 7 true (.bin .mod (.v 5) (.c (.int (3)))) [.setix (.v 6) (.bin .mod (.fn 18 [(.v 4),(.bin .add (.c (.int (10))) (.v 7))]) (.c (.int (4)))) (.fn 20 [(.bin .add (.v 4) (.v 7)),(.v 1)])]::ss) [a0,some (.int R),a2,a3,some (.int c),some (.int m),some (.ref p),a7,a8,a9,a10,a11] st) Q:=by
 refine ww (fun xs i loc st'=>Gr s0 st'∧∃x7 ds',Ins st' (iB R) p ds'∧loc=[a0,some (.int R),a2,a3,some (.int c),some (.int m),some (.ref p),x7,a8,a9,a10,a11]) ?_
 have b0:=Int.emod_nonneg m (show(3:Int)≠0 by omega)
 have b1:=bm m (show(0:Int)<3 by omega)
 refine dP (a_ rfl (bJ (w_mod (by omega) ⟨_,gk (by omega),⟨g,_,_,hi,rfl⟩,?_,?_⟩)))
 ·rintro i x loc st' hx ⟨g',x7,ds',hi',rfl⟩
  have:=rO hx
  subst this
  refine oK (fw (aj (dP (a_ rfl (a_ rfl (w_add (aj (a_ rfl (aG (uR (k:=k+7) hR fun d st2 g2 hv=>?_))))))))))
  refine a_ rfl (dP (fw (aj (a_ rfl (aj (dP (bJ (a_ rfl (w_add (aG (iK (k:=k+8) (bJ (w_mod (by omega) ?_)))))))))))))
  have hi2:=hi'.gr g2
  have hlen:ds'.length=4:=hi2.len
  have c0:=Int.emod_nonneg (mx c (10+i)) (show(4:Int)≠0 by omega)
  have c1:=bm (mx c (10+i)) (show(0:Int)<4 by omega)
  refine nE (m:=(mx c (10+i) % 4).toNat) hi2.at_ (by unfold t5;rw[if_pos c0,if_pos (by omega)]) ?_
  exact aK ⟨(g'.trans g2).set hp,_,_,hi2.set hv,rfl⟩
 ·rintro loc st' ⟨g',x7,ds',hi',rfl⟩
  exact h x7 ds' st' g' hi'
theorem wW{d:D}{a5:Option D}(hR:1≤R∧R≤6)(g:Gr s0 st)(hT:Tr R st)(hkp:st[kp]? =some (.lst ((iB R).map Kd.d)))(hC:∃due,Cs st (iB R) d bd due)
  (h:∀x9 x10 x11 st',Gr s0 st'→W (execs (calls tab (k+9)) ss [a0,some (.int R),some (.ref 26),some (.ref kp),a4,a5,some d,a7,some bd,x9,x10,x11] st') Q):
  W (execs (calls tab (k+9)) (.set 9 (.fn 22 [(.v 3),(.v 6),(.v 8)]):: .for_ 10 true (.c (.int (2))) [.set 11 (.fn 23 [(.v 10),(.v 2),(.v 3),(.v 6),(.v 8)]),.ite (.or (.cmp .NotEq (.v 11) (.v 9)) (.isi (.ix (.v 11) (.c (.int (1)))) .bool)) [.ret (.c (.bl false))] []]::ss) [a0,some (.int R),some (.ref 26),some (.ref kp),a4,a5,some d,a7,some bd,a9,a10,a11] st) Q:=by
 obtain⟨due,hC⟩:=hC
 obtain⟨a,p,e,hp,hb⟩:=tJ hC
 refine cf (fw (aj (a_ rfl (aj (a_ rfl (aj (a_ rfl (aG (zK (k:=k+6) hC hkp (n_ hR) fun s1 g1=>?_)))))))))
 refine ww (fun xs i loc st'=>Gr st st'∧∃x10 x11,loc=[a0,some (.int R),some (.ref 26),some (.ref kp),a4,a5,some d,a7,some bd,some due,x10,x11]) ?_
 refine bJ ⟨_,gk (by omega),⟨g1,_,_,rfl⟩,?_,?_⟩
 ·rintro i x loc st' hx ⟨g2,x10,x11,rfl⟩
  have:=rO hx
  subst this
  refine cf (fw (aj (a_ rfl (aj (a_ rfl (aj (a_ rfl (aj (a_ rfl (aj (a_ rfl (aG ?_))))))))))))
  refine rH (k:=k+1) (hT.gr g2) hR (g2.at hkp) (hC.gr g2) fun s3 g3=>?_
  subst e
  refine cH (w_or (cI (a_ rfl (a_ rfl (wP (yq hp) ⟨false,rfl,nofun,fun _=>?_⟩)))))
  refine wv (dl (a_ rfl (bJ (bW rfl ⟨false,hb _,false,rfl,nofun,fun _=>?_⟩))))
  exact aK ⟨g2.trans g3,_,_,rfl⟩
 ·rintro loc st' ⟨g2,x10,x11,rfl⟩
  exact h _ _ _ st' (g.trans g2)
end
noncomputable def Hd(st:aQ)(ks:List Kd)(d:D):Prop:=(bY st .list d=some false∨∃v ds,d=.ref v∧st[v]? =some (.lst ds)∧ds.length≠ks.length)∨∃v ds,d=.ref v∧Ins st ks v ds
theorem Hd.gr{ks:List Kd}{d:D}(h:Hd st ks d)(g:Gr st st'):Hd st' ks d:=by
 rcases h with(h|⟨v,ds,e,hv,hl⟩)|⟨v,ds,e,hi⟩
 ·exact .inl (.inl (jo h g))
 ·exact .inl (.inr ⟨v,ds,e,g.at hv,hl⟩)
 ·exact .inr ⟨v,ds,e,hi.gr g⟩
section
variable{k:Nat}{st:aQ}{R:Nat}{ss:List S}{Q:Fl→aQ→Prop}{m:Int}
theorem qV{ds:List D}(hi:Ins st (iB R) p ds)
  (h:∀d st',Gr st st'→Hd st' (iB R) d→W (execs (calls tab (k+9)) ss [a0,a1,a2,a3,a4,some (.int m),some d,a7,a8,a9,a10,a11] st') Q):
  W (execs (calls tab (k+9)) (.ite (.cmp .Eq (.bin .mod (.bin .fdiv (.v 5) (.c (.int (3)))) (.c (.int (5)))) (.c (.int (0)))) [.set 6 (.ix (.lst [(.c (.non)),(.sl (.v 6) (.c (.int (3))) (.c (.int (3))) false true),(.bin .add (.v 6) (.lst [(.c (.int (1)))])),(.bt .tuple [(.v 6)]),.emp,(.lst [])]) (.bin .mod (.bin .fdiv (.v 5) (.c (.int (15)))) (.c (.int (6)))))] []::ss) [a0,a1,a2,a3,a4,some (.int m),some (.ref p),a7,a8,a9,a10,a11] st) Q:=by
 refine cH (cI (dP (dP (a_ rfl (bJ (nG ⟨by omega,by omega⟩ (bJ (w_mod (by omega) (bJ (mn ⟨_,rfl,fun _=>?_,fun _=>?_⟩))))))))))
 ·have hlen:ds.length=4:=hi.len
  obtain⟨x,y,z,w,rfl⟩:∃a b c d,ds=[a,b,c,d]:=by
   match ds,hlen with
   |[a,b,c,d],_=>exact⟨a,b,c,d,rfl⟩
  refine cf (dl (fc (aj (bJ (aj (nD (a_ rfl (bJ ⟨3,rfl,yZ hi.at_ (aj ?_)⟩))))))))
  refine dP (a_ rfl (fc (aj (bJ (aG (nH (aT (aT hi.at_)) bh (by simp) (aj ?_)))))))
  refine jS (aj (a_ rfl (aG (mm (aT (aT (aT hi.at_))) (aj (wx (aj (fc (aG (aG ?_))))))))))
  refine dP (dP (a_ rfl (bJ (nG ⟨by omega,by omega⟩ (bJ (w_mod (by omega) ?_))))))
  have c0:=Int.emod_nonneg (m / 15) (show(6:Int)≠0 by omega)
  have c1:=bm (m / 15) (show(0:Int)<6 by omega)
  generalize hL:List.cons D.non _=L
  obtain⟨d,e1,e2⟩:=gu (xs:=L) (i:=m / 15 % 6) c0 (by subst hL;simpa using c1)
  refine iW bh e1 (aK (bo (h d _ ⟨_,by simp only[List.append_assoc];rfl⟩ (.inl ?_))))
  have hm:=am e2
  subst hL
  simp only[List.mem_cons,List.not_mem_nil,or_false] at hm
  rcases hm with rfl|rfl|rfl|rfl|rfl|rfl
  ·exact .inl rfl
  ·exact .inr ⟨_,_,rfl,aT (aT (aT (aT (aT bh)))),fun e=>by cases(show 3=4 from e)⟩
  ·exact .inr ⟨_,_,rfl,aT (aT (aT bh)),fun e=>by cases(show 5=4 from e)⟩
  ·exact .inl rfl
  ·exact .inl (by simp only[bY,aT (t:=[O.lst _]) (aT (t:=[O.lst _]) bh)])
  ·exact .inr ⟨_,_,rfl,aT bh,fun e=>by cases(show 0=4 from e)⟩
 ·exact aK (bo (h _ st (.refl _) (.inr ⟨p,ds,rfl,hi⟩)))
theorem qW{a6:Option D}
  (h:∀bd st',Gr st st'→Vl st' bd→W (execs (calls tab (k+9)) ss [a0,a1,a2,a3,a4,some (.int m),a6,a7,some bd,a9,a10,a11] st') Q):
  W (execs (calls tab (k+9)) (.set 8 (.ix (.lst [(.c (.int (0))),(.c (.int (10000))),(.c (.int (10001))),(.neg (.c (.int (1)))),(.c (.bl true)),(.c (.non)),(.c (.str "5")),(.lst []),(.bin .pow (.c (.int (10))) (.c (.int (30)))),(.c (.int (3)))]) (.bin .mod (.bin .fdiv (.v 5) (.c (.int (100)))) (.c (.int (10)))))::ss) [a0,a1,a2,a3,a4,some (.int m),a6,a7,a8,a9,a10,a11] st) Q:=by
 refine cf (dl (fc ?_))
 walk_at "ev"
 refine⟨1,rfl,?_⟩
 walk_at "ev"
 have c0:=Int.emod_nonneg (m / 100) (show(10:Int)≠0 by omega)
 have c1:=bm (m / 100) (show(0:Int)<10 by omega)
 generalize hL:List.cons (D.int 0) _=L
 obtain⟨d,e1,e2⟩:=gu (xs:=L) (i:=m / 100 % 10) c0 (by subst hL;simpa using c1)
 refine iW bh e1 (h d _ ((Gr.one _ _).more _) ?_)
 have hm:=am e2
 subst hL
 simp only[List.mem_cons,List.not_mem_nil,or_false] at hm
 rcases hm with rfl|rfl|rfl|rfl|rfl|rfl|rfl|rfl|rfl|rfl
 ·exact fj rfl
 ·exact fj rfl
 ·exact fj rfl
 ·exact fj rfl
 ·exact fj rfl
 ·exact fj rfl
 ·exact fj rfl
 ·exact za (aT bh)
 ·exact fj rfl
 ·exact fj rfl
end
theorem yX{r:R Rs}{d:D}{Q:D→aQ→Prop}(e:r=.ok (.v d) st)(h:Q d st):Wv r Q:=by subst e;exact h
theorem uO{ns:List Int}{i:Nat}{n:Int}(h:(cutD (ns.map D.int) none (some n)++[D.int 1,.int 2,.int 3])[i]? =some x):∃c,x=.int c:=by
 rcases List.mem_append.mp (am h) with hx|hx
 ·unfold cutD at hx
  obtain⟨c,_,e⟩:=List.mem_map.mp (List.mem_of_mem_drop (List.mem_of_mem_take hx))
  exact⟨c,e.symm⟩
 ·simp only[List.mem_cons,List.not_mem_nil,or_false] at hx
  rcases hx with rfl|rfl|rfl<;>exact⟨_,rfl⟩
section
variable{k:Nat}{ns:List Int}
theorem zx(hn:ns.length≤63):Wv (calls tab (k+10) An [.fl (ns.map .int)] []) fun d _=>d=.bl true:=by
 generalize hst:([]:aQ)=st0
 walk_at "call0"
 refine cf (dP (bJ (dP (fw (aj (fw (aj (a_ rfl (aj (bJ (aG (xu (k:=k+8) (j:=0) fun c=>?_))))))))))))
 refine aj (bJ (aG (iK (k:=k+8) ?_)))
 generalize mx c 1=t
 refine bJ (w_mod (by omega) ?_)
 refine w_add ?_
 have b0:=Int.emod_nonneg t (show(6:Int)≠0 by omega)
 have b1:=bm t (show(0:Int)<6 by omega)
 obtain⟨R,hR,e⟩:∃R:Nat,(1≤R∧R≤6)∧1+t % 6=(R:Int):=⟨(1+t % 6).toNat,by omega,by omega⟩
 rw[e]
 refine cf (fw (aj (a_ rfl (aG ?_))))
 subst hst
 with_reducible refine yX (uB k R) ?_
 have hT:Tr R (tree R):=uA
 generalize tree (R:Int)=s0 at hT ⊢
 walk_at "ev"
 have hkp:(s0++[O.lst ((iB R).map Kd.d)])[s0.length]? =some (.lst ((iB R).map Kd.d)):=bh
 have hT1:=hT.gr (.one _ (.lst ((iB R).map Kd.d)))
 show W (execs _ _ _ (s0++[O.lst ((iB R).map Kd.d)])) _
 generalize s0++[O.lst ((iB R).map Kd.d)]=s1 at hkp hT1 ⊢
 generalize s0.length=kp at hkp ⊢
 refine wT (fun n xs i loc st'=>Gr (s1++[O.lst (cutD (ns.map D.int) none (some 30))]++[O.lst [.int 1,.int 2,.int 3]]++[O.lst (cutD (ns.map D.int) none (some 30)++[D.int 1,.int 2,.int 3])]) st'∧(n=(s1++[O.lst (cutD (ns.map D.int) none (some 30))]++[O.lst [.int 1,.int 2,.int 3]]).length∧xs=cutD (ns.map D.int) none (some 30)++[D.int 1,.int 2,.int 3])∧∃a4 a5 a6 a7 a8 a9 a10 a11,loc=[some (.fl (ns.map .int)),some (.int R),some (.ref 26),some (.ref kp),a4,a5,a6,a7,a8,a9,a10,a11]) ?_
 have hcl:(cutD (ns.map D.int) none (some 30)).length≤63:=by
  unfold cutD
  simp only[List.length_take,List.length_drop,List.length_map]
  omega
 refine dP (nD (a_ rfl (bJ ⟨30,rfl,y0 (fc (aj (bJ (aj (bJ (aj (bJ (aG (nH (aT bh) bh (by simp;omega) ⟨_,_,rfl,bh,⟨.refl _,⟨rfl,rfl⟩,_,_,_,_,_,_,_,_,rfl⟩,?_,?_,?_⟩)))))))))⟩)))
 ·rintro i loc st' ⟨g,_⟩
  exact g.at bh
 ·rintro i x loc st' hx ⟨g,hnx,a4,a5,a6,a7,a8,a9,a10,a11,rfl⟩
  obtain⟨c,rfl⟩:=uO hx
  have g1:Gr s1 st':= .trans ⟨_,by simp only[List.append_assoc];rfl⟩ g
  refine cf (fw (aj (a_ rfl (aj (bJ (aG (iK (k:=k+8) ?_)))))))
  refine cf (fc (aj (bJ (aj (bJ (aj (dP (dO (aj (bJ (aG (a_ rfl (lm ⟨by omega,by omega,by simp,by simp⟩ (aj (dO (aj (bJ (aj (bJ (aG (aG ?_)))))))))))))))))))))
  have hi:Ins (st'++[O.lst [D.int 7,.bl true,.tup (List.flatten (List.replicate (R:Int).toNat [D.int 1])),.tup [.int 2,.bl false]]]) (iB R) st'.length [D.int 7,.bl true,.tup (List.flatten (List.replicate (R:Int).toNat [D.int 1])),.tup [.int 2,.bl false]]:=⟨bh,rfl,fun x hx=>by
   simp only[List.mem_cons,List.not_mem_nil,or_false] at hx
   rcases hx with rfl|rfl|rfl|rfl
   ·exact fj rfl
   ·exact fj rfl
   ·exact uq trivial
   ·exact qX (by simp[jY])⟩
  refine ue (k:=k) (s0:=st') hR (af _) (.one _ _) hi fun x7 ds st2 g2 hi2=>?_
  refine qV (k:=k) hi2 fun d st3 g3 hd=>?_
  refine qW (k:=k) fun bd st4 g4 hb=>?_
  have g5:=(g2.trans g3).trans g4
  have g6:=g1.trans g5
  refine wW (k:=k) (s0:=st') hR g5 (hT1.gr g6) (g6.at hkp) (AM (hd.gr g4) hb) fun x9 x10 x11 st5 g7=>?_
  exact aK ⟨g.trans g7,hnx,_,_,_,_,_,_,_,_,rfl⟩
 ·rintro loc st' ⟨g,hnx,a4,a5,a6,a7,a8,a9,a10,a11,rfl⟩
  exact ij (bJ (wH rfl))
end
end K18
namespace K18
noncomputable def top(i:Nat):Stmt:=PySem.Challenge.pw_eachstepsame_k18_runs_refused.main.body.getD i (.Pass ⟨0,0,0,0⟩)
noncomputable def meth(i j:Nat):Stmt:=match top i with| .ClassDef _ _ _ body _ _ _ _ _ _ _=>body.getD j (.Pass ⟨0,0,0,0⟩)|s=>s
noncomputable def names:List Str:=["is_whole","is_truth","parts_of","is_value","tagged","need_start","need_so_many","need_budget","parts_in","parts_in_tuples","counted","run_source","go_on_with_rows","typed","need_new","need_unlike","need_kind","_law_cell_at","_law_mixed","_law_tree","_law_thing","_law_fits","_law_due","_law_caught","law"]
noncomputable def csts:List (Str×D):=[("NUM",.tup [.str "num"]),("TRUTH",.tup [.str "truth"])]
noncomputable def T:Tab:=⟨names,csts,[("NoInput",["NoInput","StepError","ValueError"]),("NoBudget",["NoBudget","StepError","ValueError"])],["StepError","NoInput","NoBudget"],[("NoInput",25),("NoBudget",26)],["place"],true,false,[⟨"Run",["Run"],["ending","thing","log","kept_log","took","steps"],[]⟩,⟨"Frame",["Frame"],["have","waiting","reckoned_parts"],[("wait_for",32)]⟩,⟨"Runner",["Runner","Going"],["program","frames","steps","budget","log","took","ending","thing"],[("answer",29),("begin",34),("begin_node",36),("ended",30),("go_on",35),("go_on_with",37),("leave",39),("use",38)]⟩,⟨"Typed",["Typed"],["functions","kept_functions"],[("function_named",41)]⟩,⟨"Heads",["Heads"],["records","functions"],[("fields_of",46),("look_at_function",43),("need_record",44),("told_kind",45)]⟩,⟨"Body",["Body"],["heads","gives"],[("look_at",52),("look_at_name",53),("look_at_parts",51),("look_at_row",50),("look_at_rows",49),("told_rows_of",48)]⟩],[],[("Run",27),("Frame",31),("Runner",33),("Typed",40),("Heads",42),("Body",47)],[("Going","__init__",28)],[("NODES",["const","local","op","call","let","set","if","while","log","do","return","raise","try"])]⟩
noncomputable def R1(x:Str)(ps more:List Str)(i:Nat)(f:Fn)(z:Bool):Rec:=⟨x,x,x,ps,ps++more,top i,f,z⟩
noncomputable def R2(m q:Str)(ps more:List Str)(i j:Nat)(f:Fn):Rec:=⟨q,m,q,ps,ps++more,meth i j,f,false⟩
noncomputable def bc:List Rec:=[R1 "is_whole" ["thing"] [] 13 eX false,R1 "is_truth" ["thing"] [] 14 eY false,R1 "parts_of" ["kind"] [] 15 eU false,R1 "is_value" ["thing","kind"] ["parts"] 16 cz false,R1 "tagged" ["value"] [] 17 gK false,R1 "need_start" ["kinds","inputs","budget"] ["place","kind"] 21 bU true,R1 "need_so_many" ["count","inputs"] [] 22 cM true,R1 "need_budget" ["budget"] [] 23 di true,R1 "parts_in" ["node"] ["word"] 35 eV false,R1 "parts_in_tuples" ["node"] ["word"] 36 b6 false,R1 "counted" ["node"] ["waiting","count","parts"] 38 fW false,R1 "run_source" ["typed","inputs","budget"] ["takes","runner"] 41 cm true,R1 "go_on_with_rows" ["frame","rows","place"] [] 44 b9 false,R1 "typed" ["program"] ["heads","functions","function","takes","rows"] 49 iR false,R1 "need_new" ["name","there","place"] [] 55 eW false,R1 "need_unlike" ["fields","place"] ["there","field"] 56 dh false,R1 "need_kind" ["part","kind","place"] [] 57 d9 false,R1 "_law_cell_at" ["_law_script","_law_k"] [] 62 cN false,R1 "_law_mixed" ["_law_cell","_law_k"] ["_law_number"] 63 dF false,R1 "_law_tree" ["_law_row"] ["_law_takes","_law_main"] 64 d_ false,R1 "_law_thing" ["_law_cell","_law_row"] ["_law_some"] 65 dE false,R1 "_law_fits" ["_law_thing_here","_law_kind"] ["_law_parts"] 66 cF false,R1 "_law_due" ["_law_kinds","_law_inputs","_law_budget"] ["_law_place","_law_kind"] 67 cA false,R1 "_law_caught" ["_law_way","_law_tree_here","_law_kinds","_law_inputs","_law_budget"] ["_law_caught_here","e"] 68 bZ true,R1 "law" ["_law_script"] ["_law_row","_law_tree_here","_law_kinds","_law_cell","_law_number","_law_inputs","_law_k","_law_budget","_law_due_here","_law_way","_law_found"] 69 pH false,R2 "__init__" "NoInput.__init__" ["self","place"] [] 7 0 cQ,R2 "__init__" "NoBudget.__init__" ["self"] [] 8 0 cx,R2 "__init__" "Run.__init__" ["self","ending","thing","log","took","steps"] [] 19 0 eZ,R2 "__init__" "Going.__init__" ["self","budget"] [] 20 0 dJ,R2 "answer" "Going.answer" ["self","value"] [] 20 3 cR,R2 "ended" "Going.ended" ["self"] [] 20 5 dk,R2 "__init__" "Frame.__init__" ["self","have","rows"] [] 42 0 dL,R2 "wait_for" "Frame.wait_for" ["self","task","parts"] [] 42 1 cn,R2 "__init__" "Runner.__init__" ["self","typed","budget"] [] 43 0 dj,R2 "begin" "Runner.begin" ["self","name","given"] ["function","have"] 43 1 cP,R2 "go_on" "Runner.go_on" ["self"] ["frame","task"] 43 2 bp,R2 "begin_node" "Runner.begin_node" ["self","frame","node"] ["word"] 43 3 bM,R2 "go_on_with" "Runner.go_on_with" ["self","frame","task"] ["word"] 43 4 bL,R2 "use" "Runner.use" ["self","frame","task","value"] ["word"] 43 5 dH,R2 "leave" "Runner.leave" ["self","value"] [] 43 9 cO,R2 "__init__" "Typed.__init__" ["self","functions"] [] 48 0 dG,R2 "function_named" "Typed.function_named" ["self","name"] [] 48 1 bA,R2 "__init__" "Heads.__init__" ["self","program"] ["place","name","fields","function"] 50 0 dI,R2 "look_at_function" "Heads.look_at_function" ["self","function","place"] ["there","take","kind"] 50 1 bu,R2 "need_record" "Heads.need_record" ["self","kind","place"] [] 50 2 bN,R2 "told_kind" "Heads.told_kind" ["self","kind"] [] 50 3 b_,R2 "fields_of" "Heads.fields_of" ["self","kind"] [] 50 4 cb,R2 "__init__" "Body.__init__" ["self","heads","gives"] [] 51 0 eg,R2 "told_rows_of" "Body.told_rows_of" ["self","function"] ["place","names"] 51 1 bO,R2 "look_at_rows" "Body.look_at_rows" ["self","rows","place","names"] ["there","told_rows","row"] 51 2 bP,R2 "look_at_row" "Body.look_at_row" ["self","row","place","names"] ["word","parts"] 51 3 bV,R2 "look_at_parts" "Body.look_at_parts" ["self","node","place","names"] ["parts","beneath","part"] 51 8 bF,R2 "look_at" "Body.look_at" ["self","node","place","names"] ["parts","word","kind","sign"] 51 9 cT,R2 "look_at_name" "Body.look_at_name" ["self","name","place","names"] ["kind"] 51 10 bQ]
noncomputable def ad:List Addr:=[176,183,188,193,198,289,296,303,367,374,388,394,528,596,784,791,798,826,833,840,847,852,859,866,873,124,143,212,240,261,275,408,415,448,453,460,467,474,481,509,577,584,610,617,624,629,636,664,669,676,683,718,725,732]
theorem chk:∀r∈bc,Chk T r:=by
 unfold bc
 repeat' refine List.forall_mem_cons.mpr ⟨⟨⟨rfl,rfl,rfl,by decide+kernel,rfl,by decide+kernel,by decide+kernel⟩,by decide+kernel,by kernel_rfl,rfl,by decide+kernel⟩,?_⟩
 exact fun _ h=>nomatch h
theorem aW:∀r∈bc,AZ r:=by
 unfold bc
 repeat' refine List.forall_mem_cons.mpr ⟨by intro _ _ _ _ _ _ u0 hl;first|(have h0:u0.length=1:=hl;obtain⟨_,u1,e1,h1⟩:=uc h0;have z:=List.length_eq_zero_iff.mp h1;subst z;subst e1;rfl)|(have h0:u0.length=2:=hl;obtain⟨_,u1,e1,h1⟩:=uc h0;obtain⟨_,u2,e2,h2⟩:=uc h1;have z:=List.length_eq_zero_iff.mp h2;subst z;subst e2;subst e1;rfl)|(have h0:u0.length=3:=hl;obtain⟨_,u1,e1,h1⟩:=uc h0;obtain⟨_,u2,e2,h2⟩:=uc h1;obtain⟨_,u3,e3,h3⟩:=uc h2;have z:=List.length_eq_zero_iff.mp h3;subst z;subst e3;subst e2;subst e1;rfl)|(have h0:u0.length=4:=hl;obtain⟨_,u1,e1,h1⟩:=uc h0;obtain⟨_,u2,e2,h2⟩:=uc h1;obtain⟨_,u3,e3,h3⟩:=uc h2;obtain⟨_,u4,e4,h4⟩:=uc h3;have z:=List.length_eq_zero_iff.mp h4;subst z;subst e4;subst e3;subst e2;subst e1;rfl)|(have h0:u0.length=5:=hl;obtain⟨_,u1,e1,h1⟩:=uc h0;obtain⟨_,u2,e2,h2⟩:=uc h1;obtain⟨_,u3,e3,h3⟩:=uc h2;obtain⟨_,u4,e4,h4⟩:=uc h3;obtain⟨_,u5,e5,h5⟩:=uc h4;have z:=List.length_eq_zero_iff.mp h5;subst z;subst e5;subst e4;subst e3;subst e2;subst e1;rfl)|(have h0:u0.length=6:=hl;obtain⟨_,u1,e1,h1⟩:=uc h0;obtain⟨_,u2,e2,h2⟩:=uc h1;obtain⟨_,u3,e3,h3⟩:=uc h2;obtain⟨_,u4,e4,h4⟩:=uc h3;obtain⟨_,u5,e5,h5⟩:=uc h4;obtain⟨_,u6,e6,h6⟩:=uc h5;have z:=List.length_eq_zero_iff.mp h6;subst z;subst e6;subst e5;subst e4;subst e3;subst e2;subst e1;rfl),?_⟩
 exact fun _ h=>nomatch h
theorem vU{Pr:Program}{w:World}{K:al}{a:Addr}{ks:List Str}{ts:List Nat}{n:Nat}(ha:(a==sysModules)=false)(ht:ts.length=ks.length)(hl:K.lookup a=some ⟨.type "dict",none,.dict ⟨(ks.zip ts).map fun p=>⟨PyData.keyHash w.params p.1,.str p.1 p.2,.bool true⟩⟩ n,⟨[]⟩⟩)(hn:ks.Nodup):mi Pr w K a ks:=by
 have e1:((ks.zip ts).map fun p=>((Sum.inr p.1:Key),Value.bool true)).map (·.1)=ks.map Sum.inr:=by
  rw[List.map_map,show((fun x:Key×Value=>x.1) ∘ fun p:Str×Nat=>((Sum.inr p.1:Key),Value.bool true))=Sum.inr ∘ Prod.fst from rfl,←List.map_map,List.map_fst_zip (by omega)]
 refine⟨ha,_,hl,fun h hh=>⟨(ks.zip ts).map fun p=>(.inr p.1,.bool true),⟨_,_,n,hh,⟨rfl,rfl,rfl⟩,rfl,?_,?_,?_⟩,e1⟩⟩
 ·intro e he
  obtain⟨p,_,rfl⟩:=List.mem_map.mp (Array.mem_def.mp he)
  exact⟨.inr p.1,h_ p.1 p.2,rfl⟩
 ·show PySem.Pairs _ ((ks.zip ts).map _) ((ks.zip ts).map _)
  induction ks.zip ts with
  |nil=>exact .nil
  |cons p l ih=>exact .cons (h_ p.1 p.2) rfl ih
 ·rw[e1]
  exact hn.map _ fun a b h e=>h (Sum.inr.inj e)
end K18
end Ev
namespace Ev.K18
open PySem PySem.Spec PyProof.Rows L2
theorem Ch(P:Params):kx (Op.K P) T bc ad=true:=by kernel_rfl
theorem Cg(P:Params):(bc.zip ad).map (fun p=>(Op.K P).lookup p.2)=(bc.zip ad).map fun p=>yR p.1 ((Op.K P).lookup p.2):=by kernel_rfl
theorem CF(P:Params):qA (Op.K P) T=true:=by kernel_rfl
theorem CA(P:Params):vS (Op.K P) T=true:=by kernel_rfl
theorem CD(P:Params):∀p∈T.ini,∃C,PySem.W.nsIn (Op.K P) mainGlobals p.1=some (some (.ref C))∧EMk (Op.K P) C:=List.forall_mem_cons.mpr ⟨⟨127,by kernel_rfl,⟨⟨_,_,_,_,_,_,_,_,_,_,_,_,_,_,_,_,_,_,_,_,(by kernel_rfl:(Op.K P).lookup 127=some Op.o127),(by kernel_rfl:(Op.K P).lookup 31=some Op.o31),by kernel_rfl,by kernel_rfl⟩⟩⟩,List.forall_mem_cons.mpr ⟨⟨146,by kernel_rfl,⟨⟨_,_,_,_,_,_,_,_,_,_,_,_,_,_,_,_,_,_,_,_,(by kernel_rfl:(Op.K P).lookup 146=some Op.o146),(by kernel_rfl:(Op.K P).lookup 31=some Op.o31),by kernel_rfl,by kernel_rfl⟩⟩⟩,fun _ h=>nomatch h⟩⟩
theorem CB(Pr:Program)(w:World):∀p∈T.gds,wc p.1=true∧∃a,PySem.W.nsIn (Op.K w.params) mainGlobals p.1=some (some (.ref a))∧mi Pr w (Op.K w.params) a p.2:=List.forall_mem_cons.mpr ⟨⟨by decide+kernel,389,by kernel_rfl,vU (ts:=(List.range 13).map (688+ ·)) (n:=13) (by decide+kernel) rfl (by kernel_rfl) (by decide+kernel)⟩,fun _ h=>nomatch h⟩
theorem Cw(P:Params):vH (Op.K P) T=true:=by kernel_rfl
theorem s_end(ns:List Int)(hn:ns.length≤63):∃st',calls (bc.map (·.fn)) 10 24 [.fl (ns.map .int)] []=.ok (.v (.bl true)) st':=by
 obtain⟨a,st',e,h⟩:=W.get (zx (k:=0) hn)
 cases a with
 |v d=>
  have h:d=.bl true:=h
  subst h
  exact⟨st',e⟩
 |x n=>exact h.elim
end Ev.K18
open PySem PySem.W PyProof.Rows
set_option maxRecDepth 100000 in
set_option maxHeartbeats 0 in
theorem PySem.Challenge.cw_eachstepsame_k18_runs_refused_holds : PySem.Challenge.rw_eachstepsame_k18_runs_refused.Holds := by
 w_on;o_law
 refine holds_open (q:=Op.q) (loose:=["NODES","TWO","ONE"]) (Xt:=Op.Xt) (XP:=XL Op.q []) (Yf:=Op.hk.obs) (Ya:=Op.hk.val) (YP:=Op.hk.says) (N:=13328) Op.left (Hook.of Op.hk) (Hook.keeps Op.hk) (fun s e=>xl_of s (Bool.and_eq_true_iff.mp e).1) XL.keeps (by rfl) (by rfl) (by rfl) (fun s e=>recFacts_of (Bool.and_eq_true_iff.mp e).2) (by rfl) (by first|assumption|decide+kernel) (by decide+kernel) ⟨rfl,rfl,rfl,rfl,rfl,by decide+kernel⟩ ?hw ?hc
 case hw=>w_witness2
 refine Ev.walk (l:=PySem.Challenge.rw_eachstepsame_k18_runs_refused) (n:=2*10) (x:= "_law_script") rfl rfl ⟨rfl,by decide,by decide⟩ (fun w h Y=>PySem.W.kIn_of (K:=Op.K) (as:=Op.as) (e:=Op.keys) Y) ?F
 case F=>
  intro w mg fa h KX G hmg
  exact Ev.vK (n:=10) (li:=24) (a:=873) (r:=Ev.K18.bc[24]) KX G hmg Ev.K18.aW (Ev.K18.Ch _) (Ev.K18.Cg _) (Ev.qo KX G Ev.K18.chk rfl Ev.K18.aW (Ev.K18.Ch _) (Ev.K18.Cg _) (by decide) (Ev.K18.CF _) (Ev.K18.CA _) (fun p hp C e=>by
   obtain⟨C2,e2,h2⟩:=Ev.K18.CD _ p hp
   cases e.symm.trans e2
   exact h2) (Ev.K18.CB _ _) (Ev.K18.Cw _)) rfl rfl (by kernel_rfl) rfl Ev.K18.s_end
