import PyProof.Rows.All
import Wide.All
import OpenK.AllK
import Wide.FinOn
import PyProof.EqAt
import PyProof.EqKinds
import PyProof.TupleCall
import Lean
import PyProof.NeKinds
import PyProof.NeData
import PyProof.FactsAll.dict
import PyProof.DictList
import PyProof.FactsAll.NoneType_1
import PyProof.ListRange
import KE.KRevIter
import PyProof.AttrMiss
import PyProof.IsiBase
import KE.KDictOf
import PyProof.EnumFor
import PyProof.EnumMake
import PyProof.EnumStmt
import PyProof.Draws
import PyProof.TupleIter
import PyProof.AttrMissHeap
import KE.KDictList
import PyProof.DictItems
import PyProof.DictWalks
import PyProof.DictRoadsH
import PyProof.ZipIter
import PyProof.Rows.FactsT2
import PyProof.DictUpdate
import KE.KSortTup
import KE.KItemsList
import PyProof.Rows.FactsT3
import PyProof.StrOps2
import PyProof.FitsBits
import PyProof.Rows.IntMath
import PySem.Challenge.RW_eachstepsame_k21_put_otherwise
set_option genSizeOf false
set_option genSizeOfSpec false
set_option maxRecDepth 100000
set_option maxHeartbeats 0
set_option Elab.async false
set_option linter.all false
noncomputable def PySem.W.Fast.tw17623708996730563373:PySem.Program:=PySem.Challenge.pw_eachstepsame_k21_put_otherwise
theorem PySem.W.Fast.te17623708996730563373:PySem.Challenge.pw_eachstepsame_k21_put_otherwise=PySem.W.Fast.tw17623708996730563373:=rfl
namespace Op
open PySem PySem.W PyProof.Rows PySem.Calls
noncomputable section
noncomputable def de(P:Params)(k:Str)(t:Nat)(v:Value):DictEntry:=⟨PyData.keyHash P k,.str k t,v⟩
noncomputable def tu(l:List Value):Obj:=⟨.type "tuple",none,.seq ⟨l⟩ 0,⟨[]⟩⟩
noncomputable def co(l:List Value):Obj:=⟨.type "code",none,.fields ⟨l⟩,⟨[]⟩⟩
noncomputable def ob(c:Value)(d:Data):Obj:=⟨c,none,d,⟨[]⟩⟩
noncomputable def at_:List Stmt->Nat->Stmt
 |[],_=> .Pass ⟨0,0,0,0⟩
 |s::_,0=>s
 |_::l,n+1=>at_ l n
noncomputable def inC:Stmt->List Stmt
 | .ClassDef _ _ _ b .. =>b
 |_=>[]
noncomputable def fd(s:Stmt)(qn:Str)(g:Nat)(cl:List (Str×Nat))(df kd dc pm:Value)(an:Option Nat)(cd ct:Value)(bl:Nat):Data:=match s with
 | .FunctionDef n a b _ _ _ sc _ _ _=> .func ⟨n,qn,a,.stmts b,sc,g,cl,df,kd,dc,pm,an,cd,ct,bl⟩
 |_=> .plain
noncomputable def body:List Stmt:=PySem.Challenge.pw_eachstepsame_k21_put_otherwise.main.body
def q:Program:={PySem.Challenge.pw_eachstepsame_k21_put_otherwise with main:={PySem.Challenge.pw_eachstepsame_k21_put_otherwise.main with body:=((body.eraseIdx 14).eraseIdx 1)}}
def t0:Obj:=tu []
def dr(P:Params)(k:Str)(t r:Nat):DictEntry:=de P k t (.ref r)
def ds(P:Params)(k:Str)(t:Nat)(x:Str)(u:Nat):DictEntry:=de P k t (.str x u)
def dc(n:Nat)(l:List DictEntry):Obj:=ob (.type "dict") (.dict ⟨l⟩ n)
noncomputable def lf(o:Obj):BT:= .node o .nil .nil
def n7(a b c d e f g:Obj):BT:= .node a (.node b (lf c) (lf d)) (.node e (lf f) (lf g))
def H0(a:Str)(b:Nat)(c:Int)(d:Nat)(e:Int):Obj:=co [(.str a b),(.str a (b+1)),(.str "/claim/cut.py" (b+2)),(.int c 0),(.int 0 0),(.int 0 0),(.int 0 0),(.int 0 0),(.ref d),(.bool false),(.int 181 0),(.ref (d+1)),.none,.none,.none,.none,(.int e 0),(.int c 0),(.str "/claim/cut.py" (b+4))]
noncomputable def H1(a:Nat)(b:Nat)(c:Str)(d:Nat):Obj:=⟨(.type "frame"),none,.plain,⟨[(some (.ref a)),(some (.ref 3)),(some (.ref b)),none,(some (.str c d)),none,(some (.ref 0))]⟩⟩
def H2(a:Str)(b:Nat):Obj:=tu [(.str a b)]
def H3(a:Nat)(b:Str):Obj:=ob .none (fd (at_ body a) b 0 [] .none .none .none .none none .none .none 0)
def H4(a:Str)(b:Nat)(c:Str)(d:Int)(e:Int)(f:Nat)(g:Int)(h:Nat):Obj:=co [(.str a b),(.str c (b+1)),(.str "/claim/cut.py" (b+2)),(.int d 0),(.int e 0),(.int 0 0),(.int 0 0),(.int 3 0),(.ref f),(.bool true),(.int 181 0),(.ref (f+1)),.none,(.ref (f+2)),(.ref (f+3)),(.ref (f+4)),(.int g 0),(.int d 0),(.str "/claim/cut.py" h)]
def H5(a:Nat)(b:Str)(c:Str)(d:Nat)(e:Nat):Obj:=ob (.type "function") (fd (at_ body a) b 3 [] .none .none .none (.str c d) none (.ref e) .none 0)
def H6(a:Str)(b:Nat)(c:Str):Obj:=tu [(.str a b),(.str c (b+1))]
def H7(a:Str)(b:Nat)(c:Str)(d:Int)(e:Int)(f:Nat)(g:Int):Obj:=co [(.str a b),(.str c (b+1)),(.str "/claim/cut.py" (b+2)),(.int d 0),(.int e 0),(.int 0 0),(.int 0 0),(.int 3 0),(.ref f),(.bool true),(.int 181 0),(.ref (f+1)),.none,.none,.none,(.ref (f+2)),(.int g 0),(.int d 0),(.str "/claim/cut.py" (b+4))]
def H8(a:Str)(b:Nat)(c:Str)(d:Str):Obj:=tu [(.str a b),(.str c (b+1)),(.str d (b+2))]
def H9(a:Str)(b:Nat)(c:Str)(d:Str)(e:Str)(f:Str):Obj:=tu [(.str a b),(.str c (b+1)),(.str d (b+2)),(.str e (b+3)),(.str f (b+4))]
def H10(a:Nat)(b:Nat)(c:Str):Obj:=ob .none (fd (at_ (inC (at_ body a)) b) c 0 [] .none .none .none .none none .none .none 0)
def H11(a:Nat)(b:Nat)(c:Str)(d:Nat):Obj:=ob (.type "function") (fd (at_ (inC (at_ body a)) b) c 3 [] .none .none .none (.str "eachstepsame.blocks" 194) none (.ref d) .none 0)
def H12(a:Str)(b:Nat)(c:Str)(d:Str)(e:Str):Obj:=tu [(.str a b),(.str c (b+1)),(.str d (b+2)),(.str e (b+3))]
noncomputable def H13(a:Str)(b:Nat)(c:Nat)(d:Nat):Obj:=⟨(.type "type"),none,(.cls ⟨a,[(.type "object")],[(.ref b),(.type "object")],c,a,true,[],[],false,none,false⟩),⟨[none,none,(some (.str a d)),(some (.str a (d+8))),(some (.builtin "object.__new__")),(some (.bool true))]⟩⟩
def H14(a:Nat)(b:Nat):Obj:=ob (.type "getset_descriptor") (.fields ⟨[(.str "__dict__" a),(.ref b),(.builtin "function.__dict__"),(.builtin "function.__dict__#set")]⟩)
def H15(a:Nat)(b:Nat):Obj:=ob (.type "getset_descriptor") (.fields ⟨[(.str "__weakref__" a),(.ref b),(.builtin "ExceptionGroup.__weakref__"),.none]⟩)
def H16(a:Nat):Obj:=ob (.type "super") (.fields ⟨[(.ref a),(.ref a),(.ref a)]⟩)
def H17(a:Nat):Obj:=ob (.type "builtin_function_or_method") (.fields ⟨[(.builtin "object.__init_subclass__"),(.ref a)]⟩)
def H18(P:Params)(a:Nat)(b:Str)(c:Int)(d:Str)(e:Nat)(f:Nat)(g:Str)(h:Nat)(i:Nat)(j:Str)(k:Nat)(l:Nat)(m:Str)(n:Nat):Obj:=dc 8 [(ds P "__module__" a "eachstepsame.blocks" 194),(ds P "__qualname__" (a+2) b (a+1)),(de P "__firstlineno__" (a+4) (.int c (a+3))),(dr P d e f),(dr P g h i),(dr P j k l),(dr P m (k+7) (l+7)),(dr P "__static_attributes__" n (l+8))]
def H19(a:Int)(b:Nat)(c:Int)(d:Nat)(e:Int)(f:Nat)(g:Int):Obj:=ob .none (.fields ⟨[(.int a 0),(.int 4 0),(.ref b),(.int c 0),(.int 4 0),(.ref d),(.int e 0),(.int 4 0),(.ref f),(.int g 0),(.int 4 0),(.ref (f+7))]⟩)
def H20(P:Params)(a:Nat)(b:Nat)(c:Int)(d:Str)(e:Nat)(f:Nat)(g:Str)(h:Nat)(i:Nat)(j:Str)(k:Nat)(l:Nat)(m:Str)(n:Nat)(o:Nat)(p:Str)(q:Nat)(r:Nat)(s:Str)(t:Nat)(u:Nat)(v:Str)(w:Nat):Obj:=dc a [(ds P "__module__" b "eachstepsame.blocks" 194),(de P "__firstlineno__" (b+4) (.int c (b+3))),(dr P d e f),(dr P g h i),(dr P j k l),(dr P m n o),(dr P p q r),(dr P s t u),(dr P v w (u+1)),(de P "__doc__" (w+1) .none)]
noncomputable def H21(a:Str)(b:Nat)(c:Nat)(d:Nat)(e:Nat):Obj:=⟨(.type "type"),none,(.cls ⟨a,[(.ref 113)],[(.ref b),(.ref 113),(.type "object")],c,a,true,[],[],false,none,false⟩),⟨[(some (.ref d)),none,(some (.str a e)),(some (.str a (e+8))),(some (.builtin "object.__new__")),(some (.bool true))]⟩⟩
def H22(P:Params)(a:Nat)(b:Str)(c:Int)(d:Nat)(e:Nat)(f:Nat)(g:Nat)(h:Str)(i:Nat)(j:Nat)(k:Str)(l:Nat)(m:Nat)(n:Str)(o:Str)(p:Nat)(q:Nat):Obj:=dc 10 [(ds P "__module__" a "eachstepsame.blocks" 194),(ds P "__qualname__" (a+2) b (a+1)),(de P "__firstlineno__" (a+4) (.int c (a+3))),(dr P "__init__" d e),(dr P "told" f g),(dr P h i j),(dr P k l m),(dr P n (l+8) (m+7)),(dr P o p (m+14)),(dr P "__static_attributes__" q (m+15))]
def H23(a:Int)(b:Nat)(c:Int)(d:Nat)(e:Int)(f:Nat)(g:Int)(h:Nat)(i:Int)(j:Int):Obj:=ob .none (.fields ⟨[(.int a 0),(.int 4 0),(.ref b),(.int c 0),(.int 4 0),(.ref d),(.int e 0),(.int 4 0),(.ref f),(.int g 0),(.int 4 0),(.ref h),(.int i 0),(.int 4 0),(.ref (h+7)),(.int j 0),(.int 4 0),(.ref (h+14))]⟩)
def o12a:=ob .none (.fields ⟨[]⟩)
def o13a:=H0 "<module>" 182 1 11 185
def o14a:=H1 13 3 "__main__" 164
def o3(P:Params):=dc 43 [(ds P "__name__" 165 "law_eachstepsame_k21_put_otherwise" 724),(de P "__doc__" 166 .none),(de P "__package__" 167 .none),(de P "__loader__" 168 (.builtin "__main__.__loader__#opaque")),(de P "__spec__" 169 .none),(dr P "__annotations__" 170 6),(dr P "__builtins__" 171 4),(ds P "__file__" 173 "/claim/cut.py" 172),(de P "__cached__" 174 .none),(dr P "_wall" 193 21),(dr P "image" 203 28),(dr P "images" 209 33),(dr P "edge_image" 218 40),(dr P "Row" 269 71),(dr P "End" 318 113),(dr P "Jump" 374 162),(dr P "Branch" 442 216),(dr P "Back" 490 256),(dr P "Raise" 531 289),(dr P "Risk" 598 339),(dr P "Block" 650 375),(dr P "Function" 723 429),(dr P "_law_cell_at" 733 440),(dr P "_law_mixed" 742 447),(dr P "_law_numbers" 754 454),(dr P "_law_take" 761 461),(dr P "_law_odd" 768 468),(dr P "_law_operand" 774 473),(dr P "_law_row_kinds" 786 480),(dr P "_law_drawn_row" 792 485),(dr P "_law_edge" 798 490),(dr P "_law_end" 804 495),(dr P "_law_backward" 810 500),(dr P "_law_function" 816 505),(dr P "_law_made_end" 823 512),(dr P "_law_made" 829 517),(dr P "_law_image" 837 524),(dr P "_law_edge_image" 843 529),(dr P "_law_row_image" 849 534),(dr P "_law_end_image" 855 539),(dr P "_law_dicts" 870 546),(dr P "_law_block_right" 891 553),(dr P "law" 897 558)]
def o12:=ob .none (.fields ⟨[(.int 1 0),(.int 0 0),(.ref 20),(.int 5 0),(.int 0 0),(.ref 27),(.int 9 0),(.int 0 0),(.ref 32),(.int 11 0),(.int 0 0),(.ref 39),(.int 13 0),(.int 0 0),(.ref 46),(.int 26 0),(.int 0 0),(.ref 81),(.int 39 0),(.int 0 0),(.ref 123),(.int 55 0),(.int 0 0),(.ref 170),(.int 77 0),(.int 0 0),(.ref 224),(.int 90 0),(.int 0 0),(.ref 264),(.int 100 0),(.int 0 0),(.ref 297),(.int 125 0),(.int 0 0),(.ref 347),(.int 140 0),(.int 0 0),(.ref 385),(.int 165 0),(.int 0 0),(.ref 439),(.int 169 0),(.int 0 0),(.ref 446),(.int 173 0),(.int 0 0),(.ref 453),(.int 186 0),(.int 0 0),(.ref 460),(.int 190 0),(.int 0 0),(.ref 467),(.int 193 0),(.int 0 0),(.ref 472),(.int 204 0),(.int 0 0),(.ref 479),(.int 216 0),(.int 0 0),(.ref 484),(.int 234 0),(.int 0 0),(.ref 489),(.int 244 0),(.int 0 0),(.ref 494),(.int 269 0),(.int 0 0),(.ref 499),(.int 278 0),(.int 0 0),(.ref 504),(.int 313 0),(.int 0 0),(.ref 511),(.int 323 0),(.int 0 0),(.ref 516),(.int 330 0),(.int 0 0),(.ref 523),(.int 334 0),(.int 0 0),(.ref 528),(.int 339 0),(.int 0 0),(.ref 533),(.int 344 0),(.int 0 0),(.ref 538),(.int 357 0),(.int 0 0),(.ref 545),(.int 372 0),(.int 0 0),(.ref 552),(.int 391 0),(.int 0 0),(.ref 557)]⟩)
def o17:=H2 "k" 190
def o19:=H3 0 "_wall"
def o20:=H4 "_wall" 187 "_wall" 1 1 15 191 192
def o21:=H5 0 "_wall" "__main__" 164 20
def o24:=H6 "operand" 199 "names"
def o26:=H3 2 "image"
def o27:=H4 "image" 196 "image" 5 2 22 201 202
def o28:=H5 2 "image" "eachstepsame.blocks" 194 27
def o31:=H3 3 "images"
def o32:=H7 "images" 204 "images" 9 2 29 207
def o33:=H5 3 "images" "eachstepsame.blocks" 194 32
def o36:=H8 "edge" 213 "names" "blocks"
def o38:=H3 4 "edge_image"
def o39:=H4 "edge_image" 210 "edge_image" 11 3 34 216 217
def o40:=H5 4 "edge_image" "eachstepsame.blocks" 194 39
def o42:=ob (.type "builtin_function_or_method") (.fields ⟨[(.builtin "type.__prepare__"),(.type "type")]⟩)
def o43(P:Params):=dc 7 [(ds P "__module__" 226 "eachstepsame.blocks" 194),(ds P "__qualname__" 228 "Row" 227),(de P "__firstlineno__" 230 (.int 13 229)),(dr P "__init__" 241 54),(dr P "told" 248 61),(dr P "moved" 257 68),(dr P "__static_attributes__" 262 69)]
def o45:=ob .none (.fields ⟨[(.int 15 0),(.int 4 0),(.ref 53),(.int 21 0),(.int 4 0),(.ref 60),(.int 24 0),(.int 4 0),(.ref 67)]⟩)
def o46:=H0 "Row" 221 13 44 224
def o47:=H1 46 43 "eachstepsame.blocks" 194
def o50:=H9 "self" 234 "name" "op" "extra" "operands"
def o52:=H10 5 0 "Row.__init__"
def o53:=H4 "__init__" 231 "Row.__init__" 15 5 48 239 240
def o54:=H11 5 0 "Row.__init__" 53
def o57:=H2 "self" 245
def o59:=H10 5 1 "Row.told"
def o60:=H4 "told" 242 "Row.told" 21 1 55 246 247
def o61:=H11 5 1 "Row.told" 60
def o64:=H8 "self" 252 "names" "given"
def o66:=H10 5 2 "Row.moved"
def o67:=H4 "moved" 249 "Row.moved" 24 3 62 255 256
def o68:=H11 5 2 "Row.moved" 67
def o69:=H12 "extra" 258 "name" "op" "operands"
def o70(P:Params):=dc 4 [(ds P "__module__" 226 "eachstepsame.blocks" 194),(de P "__firstlineno__" 230 (.int 13 229)),(dr P "__init__" 241 54),(dr P "told" 248 61),(dr P "moved" 257 68),(dr P "__static_attributes__" 262 69),(dr P "__dict__" 264 72),(dr P "__weakref__" 266 73),(de P "__doc__" 267 .none)]
def o71:=H13 "Row" 71 70 219
def o72:=H14 263 71
def o73:=H15 265 71
def o74:=H16 71
def o75:=H17 71
def o78(P:Params):=H18 P 277 "End" 26 "edges" 288 89 "with_edges" 296 96 "reads" 303 103 "every_read" 311
def o80:=H19 28 88 31 95 34 102 37
def o81:=H0 "End" 272 26 79 275
def o82:=H1 81 78 "eachstepsame.blocks" 194
def o85:=H2 "self" 285
def o87:=H10 6 0 "End.edges"
def o88:=H4 "edges" 282 "End.edges" 28 1 83 286 287
def o89:=H11 6 0 "End.edges" 88
def o92:=H6 "self" 292 "edges"
def o94:=H10 6 1 "End.with_edges"
def o95:=H4 "with_edges" 289 "End.with_edges" 31 2 90 294 295
def o96:=H11 6 1 "End.with_edges" 95
def o99:=H2 "self" 300
def o101:=H10 6 2 "End.reads"
def o102:=H4 "reads" 297 "End.reads" 34 1 97 301 302
def o103:=H11 6 2 "End.reads" 102
def o106:=H2 "self" 307
def o108:=H10 6 3 "End.every_read"
def o109:=H4 "every_read" 304 "End.every_read" 37 1 104 308 309
def o110:=H11 6 3 "End.every_read" 109
def o112(P:Params):=H20 P 4 277 26 "edges" 288 89 "with_edges" 296 96 "reads" 303 103 "every_read" 310 110 "__static_attributes__" 311 111 "__dict__" 313 114 "__weakref__" 315
noncomputable def o113:Obj:=⟨(.type "type"),none,(.cls ⟨"End",[(.type "object")],[(.ref 113),(.type "object")],112,"End",true,[],[(.ref 162),(.ref 216),(.ref 256),(.ref 289),(.ref 339)],false,none,false⟩),⟨[none,none,(some (.str "End" 270)),(some (.str "End" 278)),(some (.builtin "object.__new__")),(some (.bool true))]⟩⟩
def o114:=H14 312 113
def o115:=H15 314 113
def o116:=H16 113
def o117:=H17 113
def o118:=tu [(.ref 113)]
def o120(P:Params):=dc 9 [(ds P "__module__" 326 "eachstepsame.blocks" 194),(ds P "__qualname__" 328 "Jump" 327),(de P "__firstlineno__" 330 (.int 39 329)),(dr P "__init__" 338 131),(dr P "told" 345 138),(dr P "moved" 354 145),(dr P "edges" 361 152),(dr P "with_edges" 369 159),(dr P "__static_attributes__" 371 160)]
def o122:=ob .none (.fields ⟨[(.int 41 0),(.int 4 0),(.ref 130),(.int 44 0),(.int 4 0),(.ref 137),(.int 47 0),(.int 4 0),(.ref 144),(.int 50 0),(.int 4 0),(.ref 151),(.int 53 0),(.int 4 0),(.ref 158)]⟩)
def o123:=H0 "Jump" 321 39 121 324
def o124:=H1 123 120 "eachstepsame.blocks" 194
def o127:=H6 "self" 334 "edge"
def o129:=H10 7 0 "Jump.__init__"
def o130:=H4 "__init__" 331 "Jump.__init__" 41 2 125 336 337
def o131:=H11 7 0 "Jump.__init__" 130
def o134:=H2 "self" 342
def o136:=H10 7 1 "Jump.told"
def o137:=H4 "told" 339 "Jump.told" 44 1 132 343 344
def o138:=H11 7 1 "Jump.told" 137
def o141:=H8 "self" 349 "names" "blocks"
def o143:=H10 7 2 "Jump.moved"
def o144:=H4 "moved" 346 "Jump.moved" 47 3 139 352 353
def o145:=H11 7 2 "Jump.moved" 144
def o148:=H2 "self" 358
def o150:=H10 7 3 "Jump.edges"
def o151:=H4 "edges" 355 "Jump.edges" 50 1 146 359 360
def o152:=H11 7 3 "Jump.edges" 151
def o155:=H6 "self" 365 "edges"
def o157:=H10 7 4 "Jump.with_edges"
def o158:=H4 "with_edges" 362 "Jump.with_edges" 53 2 153 367 368
def o159:=H11 7 4 "Jump.with_edges" 158
def o160:=H2 "edge" 370
def o161(P:Params):=dc 2 [(ds P "__module__" 326 "eachstepsame.blocks" 194),(de P "__firstlineno__" 330 (.int 39 329)),(dr P "__init__" 338 131),(dr P "told" 345 138),(dr P "moved" 354 145),(dr P "edges" 361 152),(dr P "with_edges" 369 159),(dr P "__static_attributes__" 371 160),(de P "__doc__" 372 .none)]
def o162:=H21 "Jump" 162 161 118 319
def o163:=H16 162
def o164:=H17 162
def o167(P:Params):=H22 P 382 "Branch" 55 396 178 403 185 "moved" 413 192 "edges" 420 199 "with_edges" "reads" 435 439
def o169:=H23 57 177 62 184 65 191 69 198 72 75
def o170:=H0 "Branch" 377 55 168 380
def o171:=H1 170 167 "eachstepsame.blocks" 194
def o174:=H12 "self" 390 "test" "yes" "no"
def o176:=H10 8 0 "Branch.__init__"
def o177:=H4 "__init__" 387 "Branch.__init__" 57 4 172 394 395
def o178:=H11 8 0 "Branch.__init__" 177
def o181:=H2 "self" 400
def o183:=H10 8 1 "Branch.told"
def o184:=H4 "told" 397 "Branch.told" 62 1 179 401 402
def o185:=H11 8 1 "Branch.told" 184
def o188:=H12 "self" 407 "names" "blocks" "yes"
def o190:=H10 8 2 "Branch.moved"
def o191:=H4 "moved" 404 "Branch.moved" 65 3 186 411 412
def o192:=H11 8 2 "Branch.moved" 191
def o195:=H2 "self" 417
def o197:=H10 8 3 "Branch.edges"
def o198:=H4 "edges" 414 "Branch.edges" 69 1 193 418 419
def o199:=H11 8 3 "Branch.edges" 198
def o202:=H6 "self" 424 "edges"
def o204:=H10 8 4 "Branch.with_edges"
def o205:=H4 "with_edges" 421 "Branch.with_edges" 72 2 200 426 427
def o206:=H11 8 4 "Branch.with_edges" 205
def o209:=H2 "self" 432
def o211:=H10 8 5 "Branch.reads"
def o212:=H4 "reads" 429 "Branch.reads" 75 1 207 433 434
def o213:=H11 8 5 "Branch.reads" 212
def o214:=H8 "no" 436 "test" "yes"
def o215(P:Params):=H20 P 2 382 55 "__init__" 396 178 "told" 403 185 "moved" 413 192 "edges" 420 199 "with_edges" 428 206 "reads" 435 213 "__static_attributes__" 439
def o216:=H21 "Branch" 216 215 165 375
def o217:=H16 216
def o218:=H17 216
def o221(P:Params):=H18 P 450 "Back" 77 "__init__" 462 232 "told" 469 239 "moved" 478 246 "reads" 487
def o223:=H19 79 231 82 238 85 245 88
def o224:=H0 "Back" 445 77 222 448
def o225:=H1 224 221 "eachstepsame.blocks" 194
def o228:=H6 "self" 458 "operand"
def o230:=H10 9 0 "Back.__init__"
def o231:=H4 "__init__" 455 "Back.__init__" 79 2 226 460 461
def o232:=H11 9 0 "Back.__init__" 231
def o235:=H2 "self" 466
def o237:=H10 9 1 "Back.told"
def o238:=H4 "told" 463 "Back.told" 82 1 233 467 468
def o239:=H11 9 1 "Back.told" 238
def o242:=H8 "self" 473 "names" "blocks"
def o244:=H10 9 2 "Back.moved"
def o245:=H4 "moved" 470 "Back.moved" 85 3 240 476 477
def o246:=H11 9 2 "Back.moved" 245
def o249:=H2 "self" 482
def o251:=H10 9 3 "Back.reads"
def o252:=H4 "reads" 479 "Back.reads" 88 1 247 483 484
def o253:=H11 9 3 "Back.reads" 252
def o254:=H2 "operand" 486
def o255(P:Params):=dc 2 [(ds P "__module__" 450 "eachstepsame.blocks" 194),(de P "__firstlineno__" 454 (.int 77 453)),(dr P "__init__" 462 232),(dr P "told" 469 239),(dr P "moved" 478 246),(dr P "reads" 485 253),(dr P "__static_attributes__" 487 254),(de P "__doc__" 488 .none)]
def o256:=H21 "Back" 256 255 219 443
def o257:=H16 256
def o258:=H17 256
def o261(P:Params):=dc 7 [(ds P "__module__" 498 "eachstepsame.blocks" 194),(ds P "__qualname__" 500 "Raise" 499),(de P "__firstlineno__" 502 (.int 90 501)),(dr P "__init__" 510 272),(dr P "told" 517 279),(dr P "moved" 526 286),(dr P "__static_attributes__" 528 287)]
def o263:=ob .none (.fields ⟨[(.int 92 0),(.int 4 0),(.ref 271),(.int 95 0),(.int 4 0),(.ref 278),(.int 98 0),(.int 4 0),(.ref 285)]⟩)
def o264:=H0 "Raise" 493 90 262 496
def o265:=H1 264 261 "eachstepsame.blocks" 194
def o268:=H6 "self" 506 "fault"
def o270:=H10 10 0 "Raise.__init__"
def o271:=H4 "__init__" 503 "Raise.__init__" 92 2 266 508 509
def o272:=H11 10 0 "Raise.__init__" 271
def o275:=H2 "self" 514
def o277:=H10 10 1 "Raise.told"
def o278:=H4 "told" 511 "Raise.told" 95 1 273 515 516
def o279:=H11 10 1 "Raise.told" 278
def o282:=H8 "self" 521 "names" "blocks"
def o284:=H10 10 2 "Raise.moved"
def o285:=H4 "moved" 518 "Raise.moved" 98 3 280 524 525
def o286:=H11 10 2 "Raise.moved" 285
def o287:=H2 "fault" 527
def o288(P:Params):=dc 2 [(ds P "__module__" 498 "eachstepsame.blocks" 194),(de P "__firstlineno__" 502 (.int 90 501)),(dr P "__init__" 510 272),(dr P "told" 517 279),(dr P "moved" 526 286),(dr P "__static_attributes__" 528 287),(de P "__doc__" 529 .none)]
def o289:=H21 "Raise" 289 288 259 491
def o290:=H16 289
def o291:=H17 289
def o294(P:Params):=H22 P 539 "Risk" 100 555 305 562 312 "moved" 568 317 "edges" 574 322 "with_edges" "reads" 589 595
def o296:=H23 102 304 109 311 112 316 117 321 120 123
def o297:=H0 "Risk" 534 100 295 537
def o298:=H1 297 294 "eachstepsame.blocks" 194
def o301:=tu [(.str "self" 547),(.str "op" 548),(.str "extra" 549),(.str "asked" 550),(.str "edge" 551),(.str "catches" 552)]
def o303:=H10 11 0 "Risk.__init__"
def o304:=H4 "__init__" 544 "Risk.__init__" 102 6 299 553 554
def o305:=H11 11 0 "Risk.__init__" 304
def o308:=H2 "self" 559
def o310:=H10 11 1 "Risk.told"
def o311:=H4 "told" 556 "Risk.told" 109 1 306 560 561
def o312:=H11 11 1 "Risk.told" 311
def o315:=H10 11 2 "Risk.moved"
def o316:=H7 "moved" 563 "Risk.moved" 112 3 313 566
def o317:=H11 11 2 "Risk.moved" 316
def o320:=H10 11 3 "Risk.edges"
def o321:=H7 "edges" 569 "Risk.edges" 117 1 318 572
def o322:=H11 11 3 "Risk.edges" 321
def o325:=H6 "self" 578 "edges"
def o327:=H10 11 4 "Risk.with_edges"
def o328:=H4 "with_edges" 575 "Risk.with_edges" 120 2 323 580 581
def o329:=H11 11 4 "Risk.with_edges" 328
def o332:=H2 "self" 586
def o334:=H10 11 5 "Risk.reads"
def o335:=H4 "reads" 583 "Risk.reads" 123 1 330 587 588
def o336:=H11 11 5 "Risk.reads" 335
def o337:=H9 "asked" 590 "catches" "edge" "extra" "op"
def o338(P:Params):=H20 P 2 539 100 "__init__" 555 305 "told" 562 312 "moved" 568 317 "edges" 574 322 "with_edges" 582 329 "reads" 589 336 "__static_attributes__" 595
def o339:=H21 "Risk" 339 338 292 532
def o340:=H16 339
def o341:=H17 339
def o344(P:Params):=H18 P 606 "Block" 125 "__init__" 620 355 "told" 626 360 "given" 632 365 "ticks" 643
def o346:=H19 127 354 132 359 135 364 138
def o347:=H0 "Block" 601 125 345 604
def o348:=H1 347 344 "eachstepsame.blocks" 194
def o351:=H12 "self" 614 "params" "rows" "end"
def o353:=H10 12 0 "Block.__init__"
def o354:=H4 "__init__" 611 "Block.__init__" 127 4 349 618 619
def o355:=H11 12 0 "Block.__init__" 354
def o358:=H10 12 1 "Block.told"
def o359:=H7 "told" 621 "Block.told" 132 1 356 624
def o360:=H11 12 1 "Block.told" 359
def o363:=H10 12 2 "Block.given"
def o364:=H7 "given" 627 "Block.given" 135 1 361 630
def o365:=H11 12 2 "Block.given" 364
def o368:=H2 "self" 636
def o370:=H10 12 3 "Block.ticks"
def o371:=H4 "ticks" 633 "Block.ticks" 138 1 366 637 638
def o372:=H11 12 3 "Block.ticks" 371
def o373:=H8 "end" 640 "params" "rows"
def o374(P:Params):=H20 P 4 606 125 "__init__" 620 355 "told" 626 360 "given" 632 365 "ticks" 639 372 "__static_attributes__" 643 373 "__dict__" 645 376 "__weakref__" 647
def o375:=H13 "Block" 375 374 599
def o376:=H14 644 375
def o377:=H15 646 375
def o378:=H16 375
def o379:=H17 375
def o382(P:Params):=H22 P 658 "Function" 140 673 393 679 398 "width" 686 405 "kind_of" 694 412 "with_blocks" "kinds_of" 710 716
def o384:=H23 142 392 149 397 153 404 156 411 159 162
def o385:=H0 "Function" 653 140 383 656
def o386:=H1 385 382 "eachstepsame.blocks" 194
def o389:=H9 "self" 666 "takes" "gives" "kinds" "blocks"
def o391:=H10 13 0 "Function.__init__"
def o392:=H4 "__init__" 663 "Function.__init__" 142 5 387 671 672
def o393:=H11 13 0 "Function.__init__" 392
def o396:=H10 13 1 "Function.told"
def o397:=H7 "told" 674 "Function.told" 149 1 394 677
def o398:=H11 13 1 "Function.told" 397
def o401:=H2 "self" 683
def o403:=H10 13 2 "Function.width"
def o404:=H4 "width" 680 "Function.width" 153 1 399 684 685
def o405:=H11 13 2 "Function.width" 404
def o408:=H6 "self" 690 "name"
def o410:=H10 13 3 "Function.kind_of"
def o411:=H4 "kind_of" 687 "Function.kind_of" 156 2 406 692 693
def o412:=H11 13 3 "Function.kind_of" 411
def o415:=H6 "self" 698 "blocks"
def o417:=H10 13 4 "Function.with_blocks"
def o418:=H4 "with_blocks" 695 "Function.with_blocks" 159 2 413 700 701
def o419:=H11 13 4 "Function.with_blocks" 418
def o422:=H6 "self" 706 "names"
def o424:=H10 13 5 "Function.kinds_of"
def o425:=H4 "kinds_of" 703 "Function.kinds_of" 162 2 420 708 709
def o426:=H11 13 5 "Function.kinds_of" 425
def o427:=H9 "blocks" 711 "gives" "kept_kinds" "kinds" "takes"
def o428(P:Params):=dc 4 [(ds P "__module__" 658 "eachstepsame.blocks" 194),(de P "__firstlineno__" 662 (.int 140 661)),(dr P "__init__" 673 393),(dr P "told" 679 398),(dr P "width" 686 405),(dr P "kind_of" 694 412),(dr P "with_blocks" 702 419),(dr P "kinds_of" 710 426),(dr P "__static_attributes__" 716 427),(dr P "__dict__" 718 430),(dr P "__weakref__" 720 431),(de P "__doc__" 721 .none)]
def o429:=H13 "Function" 429 428 651
def o430:=H14 717 429
def o431:=H15 719 429
def o432:=H16 429
def o433:=H17 429
def o436:=H6 "_law_script" 729 "_law_k"
def o438:=H3 15 "_law_cell_at"
def o439:=H4 "_law_cell_at" 726 "_law_cell_at" 165 2 434 731 732
def o440:=H5 15 "_law_cell_at" "law_eachstepsame_k21_put_otherwise" 724 439
def o443:=H8 "_law_cell" 737 "_law_k" "_law_number"
def o445:=H3 16 "_law_mixed"
def o446:=H4 "_law_mixed" 734 "_law_mixed" 169 2 441 740 741
def o447:=H5 16 "_law_mixed" "law_eachstepsame_k21_put_otherwise" 724 446
def o450:=tu [(.str "_law_cells" 746),(.str "_law_many" 747),(.str "_law_found" 748),(.str "_law_cell" 749),(.str "_law_left" 750),(.str "_law_k" 751)]
def o452:=H3 17 "_law_numbers"
def o453:=H4 "_law_numbers" 743 "_law_numbers" 173 2 448 752 753
def o454:=H5 17 "_law_numbers" "law_eachstepsame_k21_put_otherwise" 724 453
def o457:=H2 "_law_left" 758
def o459:=H3 18 "_law_take"
def o460:=H4 "_law_take" 755 "_law_take" 186 1 455 759 760
def o461:=H5 18 "_law_take" "law_eachstepsame_k21_put_otherwise" 724 460
def o464:=H2 "_law_state" 765
def o466:=H3 19 "_law_odd"
def o467:=H4 "_law_odd" 762 "_law_odd" 190 1 462 766 767
def o468:=H5 19 "_law_odd" "law_eachstepsame_k21_put_otherwise" 724 467
def o471:=H3 20 "_law_operand"
def o472:=H7 "_law_operand" 769 "_law_operand" 193 4 469 772
def o473:=H5 20 "_law_operand" "law_eachstepsame_k21_put_otherwise" 724 472
def o476:=tu [(.str "_law_way" 778),(.str "_law_seen" 779),(.str "_law_num" 780),(.str "_law_truth" 781),(.str "_law_pair" 782),(.str "_law_some" 783)]
def o478:=H3 21 "_law_row_kinds"
def o479:=H4 "_law_row_kinds" 775 "_law_row_kinds" 204 2 474 784 785
def o480:=H5 21 "_law_row_kinds" "law_eachstepsame_k21_put_otherwise" 724 479
def o483:=H3 22 "_law_drawn_row"
def o484:=H7 "_law_drawn_row" 787 "_law_drawn_row" 216 4 481 790
def o485:=H5 22 "_law_drawn_row" "law_eachstepsame_k21_put_otherwise" 724 484
def o488:=H3 23 "_law_edge"
def o489:=H7 "_law_edge" 793 "_law_edge" 234 6 486 796
def o490:=H5 23 "_law_edge" "law_eachstepsame_k21_put_otherwise" 724 489
def o493:=H3 24 "_law_end"
def o494:=H7 "_law_end" 799 "_law_end" 244 5 491 802
def o495:=H5 24 "_law_end" "law_eachstepsame_k21_put_otherwise" 724 494
def o498:=H3 25 "_law_backward"
def o499:=H7 "_law_backward" 805 "_law_backward" 269 2 496 808
def o500:=H5 25 "_law_backward" "law_eachstepsame_k21_put_otherwise" 724 499
def o503:=H3 26 "_law_function"
def o504:=H7 "_law_function" 811 "_law_function" 278 2 501 814
def o505:=H5 26 "_law_function" "law_eachstepsame_k21_put_otherwise" 724 504
def o508:=H2 "_law_end_here" 820
def o510:=H3 27 "_law_made_end"
def o511:=H4 "_law_made_end" 817 "_law_made_end" 313 1 506 821 822
def o512:=H5 27 "_law_made_end" "law_eachstepsame_k21_put_otherwise" 724 511
def o515:=H3 28 "_law_made"
def o516:=H7 "_law_made" 824 "_law_made" 323 1 513 827
def o517:=H5 28 "_law_made" "law_eachstepsame_k21_put_otherwise" 724 516
def o520:=H6 "_law_operand_here" 833 "_law_names"
def o522:=H3 29 "_law_image"
def o523:=H4 "_law_image" 830 "_law_image" 330 2 518 835 836
def o524:=H5 29 "_law_image" "law_eachstepsame_k21_put_otherwise" 724 523
def o527:=H3 30 "_law_edge_image"
def o528:=H7 "_law_edge_image" 838 "_law_edge_image" 334 3 525 841
def o529:=H5 30 "_law_edge_image" "law_eachstepsame_k21_put_otherwise" 724 528
def o532:=H3 31 "_law_row_image"
def o533:=H7 "_law_row_image" 844 "_law_row_image" 339 3 530 847
def o534:=H5 31 "_law_row_image" "law_eachstepsame_k21_put_otherwise" 724 533
def o537:=H3 32 "_law_end_image"
def o538:=H7 "_law_end_image" 850 "_law_end_image" 344 3 535 853
def o539:=H5 32 "_law_end_image" "law_eachstepsame_k21_put_otherwise" 724 538
def o542:=tu [(.str "_law_left" 859),(.str "_law_told" 860),(.str "_law_names" 861),(.str "_law_given" 862),(.str "_law_blocks" 863),(.str "_law_name" 864),(.str "_law_kind" 865),(.str "_law_way" 866),(.str "_law_number" 867)]
def o544:=H3 33 "_law_dicts"
def o545:=H4 "_law_dicts" 856 "_law_dicts" 357 2 540 868 869
def o546:=H5 33 "_law_dicts" "law_eachstepsame_k21_put_otherwise" 724 545
def o549:=tu [(.str "_law_block" 874),(.str "_law_told" 875),(.str "_law_dicts_here" 876),(.str "_law_names" 877),(.str "_law_given" 878),(.str "_law_blocks" 879),(.str "_law_params" 880),(.str "_law_rows" 881),(.str "_law_end_here" 882),(.str "_law_row" 883),(.str "_law_due" 884),(.str "_law_found" 885),(.str "_law_operand_here" 886),(.str "_law_edge_here" 887),(.str "_law_with_result" 888)]
def o551:=H3 34 "_law_block_right"
def o552:=H4 "_law_block_right" 871 "_law_block_right" 372 3 547 889 890
def o553:=H5 34 "_law_block_right" "law_eachstepsame_k21_put_otherwise" 724 552
def o556:=H3 35 "law"
def o557:=H7 "law" 892 "law" 391 1 554 895
def o558:=H5 35 "law" "law_eachstepsame_k21_put_otherwise" 724 557
def ha(P:Params):Heap:=⟨⟨[(boot_o_0 P),(boot_o_1 P),(boot_o_2 P),(boot_o_3 P),(boot_o_4 P),(boot_o_5 P),(boot_o_6 P),(boot_o_7 P),(boot_o_8 P),(boot_o_9 P),(boot_o_10 P),t0,o12a,o13a,o14a]⟩,{}⟩
def tb1(P:Params):BT:=n7 (boot_o_1 P) (boot_o_3 P) (boot_o_7 P) t0 (boot_o_5 P) (boot_o_9 P) o13a
def tb2(P:Params):BT:=n7 (boot_o_2 P) (boot_o_4 P) (boot_o_8 P) o12a (boot_o_6 P) (boot_o_10 P) o14a
def tb(P:Params):BT:=(.node (boot_o_0 P) (tb1 P) (tb2 P))
def h0(P:Params)(r:List Obj):List Obj:=(boot_o_0 P)::(boot_o_1 P)::(boot_o_2 P)::(o3 P)::(boot_o_4 P)::(boot_o_5 P)::(boot_o_6 P)::(boot_o_7 P)::(boot_o_8 P)::(boot_o_9 P)::(boot_o_10 P)::t0::o12::o13a::o14a::t0::o12a::o17::t0::o19::o20::o21::t0::o12a::r
def h1(P:Params)(r:List Obj):List Obj:=o24::t0::o26::o27::o28::t0::o12a::o31::o32::o33::t0::o12a::o36::t0::o38::o39::o40::t0::o42::(o43 P)::t0::o45::o46::o47::r
def h2(P:Params)(r:List Obj):List Obj:=t0::o12a::o50::t0::o52::o53::o54::t0::o12a::o57::t0::o59::o60::o61::t0::o12a::o64::t0::o66::o67::o68::o69::(o70 P)::o71::r
def h3(P:Params)(r:List Obj):List Obj:=o72::o73::o74::o75::t0::o42::(o78 P)::t0::o80::o81::o82::t0::o12a::o85::t0::o87::o88::o89::t0::o12a::o92::t0::o94::o95::r
def h4(P:Params)(r:List Obj):List Obj:=o96::t0::o12a::o99::t0::o101::o102::o103::t0::o12a::o106::t0::o108::o109::o110::t0::(o112 P)::o113::o114::o115::o116::o117::o118::o42::r
def h5(P:Params)(r:List Obj):List Obj:=(o120 P)::t0::o122::o123::o124::t0::o12a::o127::t0::o129::o130::o131::t0::o12a::o134::t0::o136::o137::o138::t0::o12a::o141::t0::o143::r
def h6(P:Params)(r:List Obj):List Obj:=o144::o145::t0::o12a::o148::t0::o150::o151::o152::t0::o12a::o155::t0::o157::o158::o159::o160::(o161 P)::o162::o163::o164::o118::o42::(o167 P)::r
def h7(P:Params)(r:List Obj):List Obj:=t0::o169::o170::o171::t0::o12a::o174::t0::o176::o177::o178::t0::o12a::o181::t0::o183::o184::o185::t0::o12a::o188::t0::o190::o191::r
def h8(P:Params)(r:List Obj):List Obj:=o192::t0::o12a::o195::t0::o197::o198::o199::t0::o12a::o202::t0::o204::o205::o206::t0::o12a::o209::t0::o211::o212::o213::o214::(o215 P)::r
def h9(P:Params)(r:List Obj):List Obj:=o216::o217::o218::o118::o42::(o221 P)::t0::o223::o224::o225::t0::o12a::o228::t0::o230::o231::o232::t0::o12a::o235::t0::o237::o238::o239::r
def h10(P:Params)(r:List Obj):List Obj:=t0::o12a::o242::t0::o244::o245::o246::t0::o12a::o249::t0::o251::o252::o253::o254::(o255 P)::o256::o257::o258::o118::o42::(o261 P)::t0::o263::r
def h11(P:Params)(r:List Obj):List Obj:=o264::o265::t0::o12a::o268::t0::o270::o271::o272::t0::o12a::o275::t0::o277::o278::o279::t0::o12a::o282::t0::o284::o285::o286::o287::r
def h12(P:Params)(r:List Obj):List Obj:=(o288 P)::o289::o290::o291::o118::o42::(o294 P)::t0::o296::o297::o298::t0::o12a::o301::t0::o303::o304::o305::t0::o12a::o308::t0::o310::o311::r
def h13(P:Params)(r:List Obj):List Obj:=o312::t0::o12a::o315::o316::o317::t0::o12a::o320::o321::o322::t0::o12a::o325::t0::o327::o328::o329::t0::o12a::o332::t0::o334::o335::r
def h14(P:Params)(r:List Obj):List Obj:=o336::o337::(o338 P)::o339::o340::o341::t0::o42::(o344 P)::t0::o346::o347::o348::t0::o12a::o351::t0::o353::o354::o355::t0::o12a::o358::o359::r
def h15(P:Params)(r:List Obj):List Obj:=o360::t0::o12a::o363::o364::o365::t0::o12a::o368::t0::o370::o371::o372::o373::(o374 P)::o375::o376::o377::o378::o379::t0::o42::(o382 P)::t0::r
def h16(P:Params)(r:List Obj):List Obj:=o384::o385::o386::t0::o12a::o389::t0::o391::o392::o393::t0::o12a::o396::o397::o398::t0::o12a::o401::t0::o403::o404::o405::t0::o12a::r
def h17(P:Params)(r:List Obj):List Obj:=o408::t0::o410::o411::o412::t0::o12a::o415::t0::o417::o418::o419::t0::o12a::o422::t0::o424::o425::o426::o427::(o428 P)::o429::o430::o431::r
def h18(P:Params)(r:List Obj):List Obj:=o432::o433::t0::o12a::o436::t0::o438::o439::o440::t0::o12a::o443::t0::o445::o446::o447::t0::o12a::o450::t0::o452::o453::o454::t0::r
def h19(P:Params)(r:List Obj):List Obj:=o12a::o457::t0::o459::o460::o461::t0::o12a::o464::t0::o466::o467::o468::t0::o12a::o471::o472::o473::t0::o12a::o476::t0::o478::o479::r
def h20(P:Params)(r:List Obj):List Obj:=o480::t0::o12a::o483::o484::o485::t0::o12a::o488::o489::o490::t0::o12a::o493::o494::o495::t0::o12a::o498::o499::o500::t0::o12a::o503::r
def h21(P:Params)(r:List Obj):List Obj:=o504::o505::t0::o12a::o508::t0::o510::o511::o512::t0::o12a::o515::o516::o517::t0::o12a::o520::t0::o522::o523::o524::t0::o12a::o527::r
def h22(P:Params)(r:List Obj):List Obj:=o528::o529::t0::o12a::o532::o533::o534::t0::o12a::o537::o538::o539::t0::o12a::o542::t0::o544::o545::o546::t0::o12a::o549::t0::o551::r
def h23(P:Params)(r:List Obj):List Obj:=o552::o553::t0::o12a::o556::o557::o558::r
def hl(P:Params):List Obj:=h0 P (h1 P (h2 P (h3 P (h4 P (h5 P (h6 P (h7 P (h8 P (h9 P (h10 P (h11 P (h12 P (h13 P (h14 P (h15 P (h16 P (h17 P (h18 P (h19 P (h20 P (h21 P (h22 P (h23 P ([]))))))))))))))))))))))))
def hf(P:Params):Heap:=⟨⟨hl P⟩,{}⟩
noncomputable def ev:List Obj->List Obj
 |a::_::l=>a::ev l
 |l=>l
noncomputable def od:List Obj->List Obj
 |_::b::l=>b::od l
 |_=>[]
def mT:Nat->List Obj->BT
 |n+1,a::l=> .node a (mT n (ev l)) (mT n (od l))
 |_,_=> .nil
def tl(P:Params):BT:=mT 11 (hl P)
noncomputable def pk:Nat->List Addr->List Obj->Frag
 |n,a::r,o::l=>if Nat.beq n a then(a,o)::pk (n+1) r l else pk (n+1) (a::r) l
 |_,_,_=>[]
noncomputable def as:List Addr:=[2,3,15,17,18,20,21,22,24,25,27,28,29,32,33,34,36,37,39,40,48,50,51,53,54,55,57,58,60,61,62,64,65,67,68,69,70,71,72,73,83,85,86,88,89,90,92,93,95,96,97,99,100,102,103,104,106,107,109,110,111,112,113,114,115,118,125,127,128,130,131,132,134,135,137,138,139,141,142,144,145,146,148,149,151,152,153,155,156,158,159,160,161,162,165,172,174,175,177,178,179,181,182,184,185,186,188,189,191,192,193,195,196,198,199,200,202,203,205,206,207,209,210,212,213,214,215,216,219,226,228,229,231,232,233,235,236,238,239,240,242,243,245,246,247,249,250,252,253,254,255,256,259,266,268,269,271,272,273,275,276,278,279,280,282,283,285,286,287,288,289,292,299,301,302,304,305,306,308,309,311,312,313,316,317,318,321,322,323,325,326,328,329,330,332,333,335,336,337,338,339,349,351,352,354,355,356,359,360,361,364,365,366,368,369,371,372,373,374,375,376,377,387,389,390,392,393,394,397,398,399,401,402,404,405,406,408,409,411,412,413,415,416,418,419,420,422,423,425,426,427,428,429,430,431,441,443,444,446,447,448,450,451,453,454,455,457,458,460,461,462,464,465,467,468,469,472,473,474,476,477,479,480,481,484,485,486,489,490,491,494,495,496,499,500,501,504,505,506,508,509,511,512,513,516,517,518,520,521,523,524,525,528,529,530,533,534,535,538,539,540,542,543,545,546,547,549,550,552,553,554,557,558]
def K(P:Params):Frag:=pk 0 as (hl P)
def kc(P:Params):Frag:=K P
noncomputable def env:Env:={scope:=PySem.Challenge.pw_eachstepsame_k21_put_otherwise.main.scope,locals:=mainNs,globals:=mainNs,cells:=[],code:=(.ref 13),frame:=some 14}
def cE:Code:= .body (behindTheImports PySem.Challenge.pw_eachstepsame_k21_put_otherwise) env
theorem tws:((λ(_:Params->BT) (_:Params->BT) (_:Params->Heap) (_:Params->Heap) (_:Params->Frag) (_:Program) (_:Code)=>true) tb tl ha hf kc q cE)=true:=by k_qdec
theorem pre(w:World):(λos:OsState=>topGo treeTable PySem.Challenge.pw_eachstepsame_k21_put_otherwise w 11 (some (.ref 6)) 12 ⟨boot_heap w.params,⟨[]⟩,boot_drawn,boot_toks,os⟩ (topStub PySem.Challenge.pw_eachstepsame_k21_put_otherwise))=λos=>some (⟨ha w.params,⟨[]⟩,{},187,os⟩,⟨denote treeTable cE,cE,⟨0,0,0,0⟩,[topFrame ⟨0,0,0,0⟩]⟩):=by
 rewrite[PySem.W.Fast.te15667345088766844465,PySem.W.Fast.te14364793385576792824,PySem.W.Fast.te17623708996730563373,PySem.W.Fast.te12167769141508308155,PySem.W.Fast.te11892475500146522536,PySem.W.Fast.te2343313782933208130]
 kernel_rfl
theorem block(w:World):(λos:OsState=>segRun treeTable PySem.Challenge.pw_eachstepsame_k21_put_otherwise w 11 (some (.ref 6)) 1 1 ⟨ha w.params,⟨[]⟩,{},187,os⟩ (blockOf (behindTheImports PySem.Challenge.pw_eachstepsame_k21_put_otherwise) env cE ⟨0,0,0,0⟩ [topFrame ⟨0,0,0,0⟩]))=λos=>some (Flow.next,(⟨tb w.params,15,{},⟨[]⟩,{},187,os⟩:SharedT).abs,cE,⟨0,0,0,0⟩):=by
 rewrite[PySem.W.Fast.te14374325043358763698,PySem.W.Fast.te14364793385576792824,PySem.W.Fast.te17623708996730563373,PySem.W.Fast.te12167769141508308155,PySem.W.Fast.te17306263501064129316,PySem.W.Fast.te17150320874572105945,PySem.W.Fast.te2343313782933208130]
 kernel_rfl
theorem seg(w:World):(λos:OsState=>segRunT treeTable PySem.Challenge.pw_eachstepsame_k21_put_otherwise w 11 (some (.ref 6)) 1 3882 (⟨tb w.params,15,{},⟨[]⟩,{},187,os⟩:SharedT) (piecesOf (behindTheImports PySem.Challenge.pw_eachstepsame_k21_put_otherwise) env cE ⟨0,0,0,0⟩ [topFrame ⟨0,0,0,0⟩]))=λos=>some (Flow.next,(⟨tl w.params,559,{},⟨[]⟩,{},898,os⟩:SharedT),cE,⟨391,0,400,132⟩):=by
 rewrite[PySem.W.Fast.te10110043849684766642,PySem.W.Fast.te14364793385576792824,PySem.W.Fast.te17623708996730563373,PySem.W.Fast.te17306263501064129316,PySem.W.Fast.te7101502176447651324,PySem.W.Fast.te17150320874572105945,PySem.W.Fast.te2343313782933208130]
 kernel_rfl
theorem fin(w:World):(λos:OsState=>topRun treeTable PySem.Challenge.pw_eachstepsame_k21_put_otherwise w 11 (some (.ref 6)) 2 (⟨tl w.params,559,{},⟨[]⟩,{},898,os⟩:SharedT).abs ⟨doneF .next,cE,⟨391,0,400,132⟩,[topFrame ⟨0,0,0,0⟩]⟩)=λos=>some (⟨hf w.params,⟨[]⟩,{},898,os⟩:Shared):=by
 rewrite[PySem.W.Fast.te14082659384304107361,PySem.W.Fast.te14364793385576792824,PySem.W.Fast.te17623708996730563373,PySem.W.Fast.te7101502176447651324,PySem.W.Fast.te10544986032919753165,PySem.W.Fast.te2343313782933208130]
 kernel_rfl
theorem run(w:World)(os:OsState):topRun treeTable PySem.Challenge.pw_eachstepsame_k21_put_otherwise w 11 (some (.ref 6)) (12+(1+(3882+2))) ⟨boot_heap w.params,⟨[]⟩,boot_drawn,boot_toks,os⟩ (topStub PySem.Challenge.pw_eachstepsame_k21_put_otherwise)=some (⟨hf w.params,⟨[]⟩,{},898,os⟩:Shared):=by have a:=piece_app (rest:=[]) (segRun_of (congrFun (seg w) os)) (piece_nil (congrFun (fin w) os));rw[List.append_nil] at a;exact go_top (congrFun (pre w) os) (piece_block (congrFun (block w) os) a)
def Xt(s:Shared):Bool:=xlAt q [] s&&recOk [] s
theorem keys(P:Params):as=(K P).map (·.1):=by kernel_rfl
def hk:Hook:=kHook K as keys
theorem lk1(w:World):(λos:OsState=>staticsOk (importedModules PySem.Challenge.pw_eachstepsame_k21_put_otherwise.main.body) (boot_heap w.params) (hf w.params)&&namesBound PySem.Challenge.pw_eachstepsame_k21_put_otherwise (hf w.params)&&gensDone (⟨hf w.params,⟨[]⟩,{},898,os⟩:Shared)&&laidKept (boot_heap w.params) (hf w.params))=λos=>true:=by
 rewrite[PySem.W.Fast.te5923862056798008813,PySem.W.Fast.te17623708996730563373,PySem.W.Fast.te10544986032919753165]
 kernel_rfl
theorem lk2(w:World):(λos:OsState=>seen ((recsOf q).map (·.name)) (ownsOf q) [] {(⟨hf w.params,⟨[]⟩,{},898,os⟩:Shared) with gens:= #[]})=λos=>expectedOf q:=by
 rewrite[PySem.W.Fast.te5160383126252970620,PySem.W.Fast.te3399658132070893891,PySem.W.Fast.te5991557255702980513,PySem.W.Fast.te1768822226353211369,PySem.W.Fast.te10544986032919753165]
 kernel_rfl
theorem lk3(w:World):(λos:OsState=>(⟨hf w.params,⟨[]⟩,{},898,os⟩:Shared).heap.bltView)=λos=>bltViewBooted:=by
 rewrite[PySem.W.Fast.te10544986032919753165]
 kernel_rfl
theorem lk4(w:World):(λos:OsState=>(⟨hf w.params,⟨[]⟩,{},898,os⟩:Shared).heap.keysOk (looseW q []) ((recsOf q).map (·.name)) ((litsOf q).map (·.1)) ((clssOf q (looseW q [])).map (·.name))&&(⟨hf w.params,⟨[]⟩,{},898,os⟩:Shared).heap.accountedOkI (importedModules PySem.Challenge.pw_eachstepsame_k21_put_otherwise.main.body)&&(⟨hf w.params,⟨[]⟩,{},898,os⟩:Shared).heap.isNs mainGlobals&&(⟨hf w.params,⟨[]⟩,{},898,os⟩:Shared).heap.isNs builtinsNs&&tablesOk q (⟨hf w.params,⟨[]⟩,{},898,os⟩:Shared).heap&&Xt (⟨hf w.params,⟨[]⟩,{},898,os⟩:Shared)&&(if true then(⟨hf w.params,⟨[]⟩,{},898,os⟩:Shared).gens.size==0 else !leftWithCleanup (⟨hf w.params,⟨[]⟩,{},898,os⟩:Shared).gens))=λos=>true:=by
 rewrite[PySem.W.Fast.te821141287760084731,PySem.W.Fast.te3399658132070893891,PySem.W.Fast.te7409074990110511671,PySem.W.Fast.te13664370479719496447,PySem.W.Fast.te5923862056798008813,PySem.W.Fast.te10994771534591457954,PySem.W.Fast.te17623708996730563373,PySem.W.Fast.te1768822226353211369,PySem.W.Fast.te10544986032919753165]
 kernel_rfl
theorem lk5(w:World):(λos:OsState=>tabsOk q (⟨hf w.params,⟨[]⟩,{},898,os⟩:Shared))=λos=>true:=by
 rewrite[PySem.W.Fast.te479339242167458305,PySem.W.Fast.te1768822226353211369,PySem.W.Fast.te10544986032919753165]
 kernel_rfl
theorem lk6(w:World):(λos:OsState=>pinSeenD q (drecsOf q) (⟨hf w.params,⟨[]⟩,{},898,os⟩:Shared))=λos=>pinGoodD (drecsOf q):=by
 rewrite[PySem.W.Fast.te16090120013241838585,PySem.W.Fast.te3247288618530077131,PySem.W.Fast.te1768822226353211369,PySem.W.Fast.te10544986032919753165]
 kernel_rfl
theorem lk7(w:World):(λos:OsState=>plainSeenE q (looseW q []) (⟨hf w.params,⟨[]⟩,{},898,os⟩:Shared))=λos=>plainGoodE q (looseW q []):=by
 rewrite[PySem.W.Fast.te2386780881361962483,PySem.W.Fast.te821141287760084731,PySem.W.Fast.te1768822226353211369,PySem.W.Fast.te10544986032919753165]
 kernel_rfl
theorem lk8(w:World):(λos:OsState=>plainSeenD q [] (⟨hf w.params,⟨[]⟩,{},898,os⟩:Shared))=λos=>plainGoodD q []:=by
 rewrite[PySem.W.Fast.te11698064438423848299,PySem.W.Fast.te1768822226353211369,PySem.W.Fast.te10544986032919753165]
 kernel_rfl
theorem lk9(w:World):(λos:OsState=>wideSeen q (⟨hf w.params,⟨[]⟩,{},898,os⟩:Shared))=λos=>wideGood q:=by
 rewrite[PySem.W.Fast.te7317090234206586261,PySem.W.Fast.te1768822226353211369,PySem.W.Fast.te10544986032919753165]
 kernel_rfl
theorem lk10(w:World):(λos:OsState=>clsSeenW q [] (⟨hf w.params,⟨[]⟩,{},898,os⟩:Shared))=λos=>clsGoodW q []:=by
 rewrite[PySem.W.Fast.te7369524293546568484,PySem.W.Fast.te1768822226353211369,PySem.W.Fast.te10544986032919753165]
 kernel_rfl
theorem kkc:K=kc:=rfl
theorem lk11(w:World):(λos:OsState=>hk.obs (⟨hf w.params,⟨[]⟩,{},898,os⟩:Shared))=λos=>hk.val w:=by
 show(λos:OsState=>as.map (⟨hf w.params,⟨[]⟩,{},898,os⟩:Shared).heap.get?)=λos=>(K w.params).map λp=>some p.2
 rewrite[kkc,PySem.W.Fast.te10544986032919753165,PySem.W.Fast.te11339538413228328203]
 kernel_rfl
theorem looks(w:World):(λos:OsState=>((staticsOk (importedModules PySem.Challenge.pw_eachstepsame_k21_put_otherwise.main.body) (boot_heap w.params) (hf w.params)&&namesBound PySem.Challenge.pw_eachstepsame_k21_put_otherwise (hf w.params)&&gensDone (⟨hf w.params,⟨[]⟩,{},898,os⟩:Shared)&&laidKept (boot_heap w.params) (hf w.params)),
  openSeen q [] (importedModules PySem.Challenge.pw_eachstepsame_k21_put_otherwise.main.body) Xt true (⟨hf w.params,⟨[]⟩,{},898,os⟩:Shared),hk.obs (⟨hf w.params,⟨[]⟩,{},898,os⟩:Shared)))=λ_=>(true,openGood q [],hk.val w):=by
 funext os;refine looks_pair (congrFun (lk1 w) os) (looks_pair ?_ (congrFun (lk11 w) os));exact looks_pair (congrFun (lk2 w) os) (looks_pair (congrFun (lk3 w) os) (looks_pair (congrFun (lk4 w) os) (looks_pair (congrFun (lk5 w) os) (looks_pair (congrFun (lk6 w) os) (looks_pair (congrFun (lk7 w) os) (looks_pair (congrFun (lk8 w) os) (looks_pair (congrFun (lk9 w) os) (congrFun (lk10 w) os))))))))
theorem left:LeftO PySem.Challenge.pw_eachstepsame_k21_put_otherwise q [] Xt hk.obs hk.val 7888 true:=
 LeftO.of_pieces (boot_open (by kernel_rfl) (by kernel_rfl) (λs=>by kernel_rfl)) (λw=>by kernel_rfl) run (by kernel_rfl) looks
end
end Op
section
open PySem PySem.Spec PyProof.Rows
noncomputable def aa:= @wpAny_bind
noncomputable def ae:= @Heap.get?_push_of_some
noncomputable def aI:= @List.getElem?_set_ne
noncomputable def aF:= @Bool.false_ne_true
noncomputable def af:= @wpAny_pure
noncomputable def ai:= @Option.some.inj
noncomputable def ah:= @Nat.le_refl
noncomputable def al:= @Heap.lt_size
noncomputable def ao:= @Nat.ne_of_lt
noncomputable def ak:= @List.mem_of_getElem?
noncomputable def aw:= @Nat.lt_of_lt_of_le
noncomputable def am:= @Heap.get?_push_size
noncomputable def aC:= @List.getElem?_eq_getElem
noncomputable def aK:= @PySem.mem_of_lookup
noncomputable def aS:= @List.length_set
noncomputable def aO:= @Nat.lt_succ_self
noncomputable def aB:= @List.getElem?_map
noncomputable def aH:= @List.mem_append_right
noncomputable def aJ:= @List.getElem?_append_left
noncomputable def aR:= @List.getElem?_append_right
noncomputable def aA:= @List.length_append
noncomputable def aY:= @List.getElem?_set_self
noncomputable def az:= @Nat.le_trans
noncomputable def bC:= @Nat.ne_of_gt
noncomputable def bA:= @wpAny_setField_rec
noncomputable def bI:= @Int.emod_lt_of_pos
noncomputable def bF:= @Nat.lt_irrefl
noncomputable def aQ:= @wpAny_mono
noncomputable def aV:= @wpAny_field
noncomputable def bu:= @PyProof.Rows.callWith_type1
theorem au{α:Type _}{l:List α}{i:Nat}{a:α}(h:l[i]? =some a):∃h:i<l.length,l[i]=a:=List.getElem?_eq_some_iff.mp h
noncomputable abbrev av:=PySem.W.Frag
end
theorem jM{P:Prop}(h:false=true):P:=absurd h aF
namespace L2
open PySem PySem.Spec PyProof.Rows
variable{us:List Value}{u:Value}{C a b dx it:Addr}{base h:Heap}{w:World}{P:Program}{o:Obj}{ch fp:List Addr}{i j n t':Nat}{qual x:Str}{E Q:Value->Shared->Prop}{A:Around}{c e tg:Expr}{s:Shared}{p pos:Pos}{pins:List (Addr×Obj)}{f:Value->Value->Sem Value}{mA mg:Str->Option Value}{kw:List (Str×Value)}
noncomputable abbrev Key:=Sum Int Str
noncomputable def eU:Key->Value->Bool
 | .inl k,v=>Value.isInt k v
 | .inr x,v=>Value.isStrOf x v
noncomputable def zV(w:World):Key->Int
 | .inl k=>hashInt k
 | .inr x=>hashStr w x
theorem bx:∀{k:Key}{v:Value},eU k v=true->(∃i t,k=Sum.inl i/\v=Value.int i t)∨(∃x t,k=Sum.inr x/\v=Value.str x t)
 | .inl i,v,h=>by obtain⟨t,e⟩:=Value.isInt_shape (k:=i) (v:=v) h;exact .inl ⟨i,t,rfl,e⟩
 | .inr x,v,h=>by obtain⟨t,e⟩:=Value.isStrOf_shape (x:=x) (v:=v) h;exact .inr ⟨x,t,rfl,e⟩
theorem qN(i:Int)(t:Tok):eU (.inl i) (.int i t)=true:=by simp[eU,Value.isInt]
theorem qM(x:Str)(t:Tok):eU (.inr x) (.str x t)=true:=by simp[eU,Value.isStrOf]
theorem yc(a b:Int):decide ((Sum.inl a:Key)=Sum.inl b)=(a==b):=by
 by_cases e:a=b
 ·subst e;simp
 ·have h:¬(Sum.inl a:Key)=Sum.inl b:=λq=>e (Sum.inl.inj q);rw[decide_eq_false h];exact(beq_eq_false_iff_ne.mpr e).symm
theorem x_(a b:Str):decide ((Sum.inr a:Key)=Sum.inr b)=decide (a=b):=by
 by_cases e:a=b
 ·subst e;simp
 ·have h:¬(Sum.inr a:Key)=Sum.inr b:=λq=>e (Sum.inr.inj q);rw[decide_eq_false h,decide_eq_false e]
theorem yb(a:Int)(b:Str):decide ((Sum.inl a:Key)=Sum.inr b)=false:=decide_eq_false (λq=>nomatch q)
theorem ya(a:Str)(b:Int):decide ((Sum.inr a:Key)=Sum.inl b)=false:=decide_eq_false (λq=>nomatch q)
noncomputable def bf(prog:Program)(w:World):PySem.KeyKind prog w Key where
 is:=eU
 hash:=zV w
 inj:=λv a b ha hb=>by
  rcases bx ha with⟨i,t,rfl,rfl⟩|⟨x,t,rfl,rfl⟩
  ·rcases bx hb with⟨j,u,rfl,e⟩|⟨y,u,rfl,e⟩
   ·injection e with e1 _;rw[e1]
   ·exact nomatch e
  ·rcases bx hb with⟨j,u,rfl,e⟩|⟨y,u,rfl,e⟩
   ·exact nomatch e
   ·injection e with e1 _;rw[e1]
 byValue:=λk v h=>by rcases bx h with⟨i,t,rfl,rfl⟩|⟨x,t,rfl,rfl⟩<;>rfl
 pyHash:=λhv h=>by
  rcases bx hv with⟨i,t,rfl,rfl⟩|⟨x,t,rfl,rfl⟩
  ·exact wpAny_pyHash_int h
  ·exact wpAny_pyHash_str h
 eqBool:=λhu hv h=>by
  rcases bx hu with⟨i,t,rfl,rfl⟩|⟨x,t,rfl,rfl⟩
  ·rcases bx hv with⟨j,u,rfl,rfl⟩|⟨y,u,rfl,rfl⟩
   ·rw[yc] at h;exact wpAny_eqBool_int h
   ·rw[yb] at h;exact SeqAt.EqAt.int_str i t y u _ _ _ _ h
  ·rcases bx hv with⟨j,u,rfl,rfl⟩|⟨y,u,rfl,rfl⟩
   ·rw[ya] at h;exact SeqAt.EqAt.str_int x t j u _ _ _ _ h
   ·rw[x_] at h;exact wpAny_eqBool_str h
 «strs»:=λk x t v h=>by
  rcases bx h with⟨i,u,rfl,e⟩|⟨y,u,rfl,e⟩
  ·exact nomatch e
  ·injection e with e1 _;subst e1;cases v<;>rfl
theorem mR(prog:Program)(w:World)(i:Int)(t:Tok):(bf prog w).is (.inl i) (.int i t)=true:=qN i t
theorem mQ(prog:Program)(w:World)(x:Str)(t:Tok):(bf prog w).is (.inr x) (.str x t)=true:=qM x t
inductive V where
 |non|bl (b:Bool)|int (i:Int)|str (x:Str)|byt (b:Array UInt8)|flt (b:UInt64)|ref (a:Addr)|ty (n:String)
 deriving DecidableEq
noncomputable def RelV:V->Value->Prop
 | .non,u=>u=Value.none
 | .bl b,u=>u=Value.bool b
 | .int i,u=>∃t,u=Value.int i t
 | .str x,u=>∃t,u=Value.str x t
 | .byt b,u=>∃t,u=Value.bytes b t
 | .flt b,u=>∃t,u=Value.float b t
 | .ref a,u=>u=Value.ref a
 | .ty n,u=>u=Value.type n
noncomputable abbrev bm:List V->List Value->Prop:=Paired RelV
theorem bm.length{xs:List V}(r:bm xs us):xs.length=us.length:=Paired.length r
theorem bm.get:∀{xs:List V}{us:List Value}{i:Nat}{x:V},bm xs us->xs[i]? =some x->∃u,us[i]? =some u/\RelV x u
 |_,_,_,_,.nil,e=>by simp at e
 |_,_,0,_,.cons r _,e=>by simp at e;subst e;exact⟨_,rfl,r⟩
 |_,_,i+1,x,.cons _ t,e=>by
  obtain⟨u,h1,h2⟩:=bm.get (i:=i) (x:=x) t (by simpa using e)
  exact⟨u,by simpa using h1,h2⟩
theorem bm.set{x:V}(r:RelV x u):∀{xs:List V}{us:List Value}(i:Nat),bm xs us->bm (xs.set i x) (us.set i u)
 |_,_,_,.nil=>.nil
 |_,_,0,.cons _ t=>.cons r t
 |_,_,i+1,.cons q t=>.cons q (bm.set r i t)
theorem bm.append:∀{xs ys:List V}{us ws:List Value},bm xs us->bm ys ws->bm (xs++ys) (us++ws)
 |_,_,_,_,.nil,s=>s
 |_,_,_,_,.cons r t,s=>.cons r (bm.append t s)
theorem bm.take:∀{xs:List V}{us:List Value}(n:Nat),bm xs us->bm (xs.take n) (us.take n)
 |_,_,0,_=>.nil
 |_,_,_+1,.nil=>.nil
 |_,_,n+1,.cons r t=>.cons r (bm.take n t)
theorem bm.drop:∀{xs:List V}{us:List Value}(n:Nat),bm xs us->bm (xs.drop n) (us.drop n)
 |_,_,0,r=>r
 |_,_,_+1,.nil=>.nil
 |_,_,n+1,.cons _ t=>bm.drop n t
noncomputable def fe:Option V->Option Value->Prop
 |some v,some u=>RelV v u
 |none,none=>True
 |_,_=>False
noncomputable def KV{κ:Type}:List (κ×V)->List (κ×Value)->Prop:=Paired λ(p:κ×V)(q:κ×Value)=>p.1=q.1/\RelV p.2 q.2
noncomputable def kV:Key->V
 | .inl i=>.int i
 | .inr x=>.str x
inductive HO where
 |lst (xs:List V)
 |tup (xs:List V)
 |dK (kvs:List (Key×V))|dT (kvs:List (List Key×V))
 |set (S:Int->Bool)(n:Nat)
 |ins (C dx:Addr)(fs:List (Str×V))
 |own (x:Addr)
 |xd (fs:List (Str×V))
 |met (f x:Addr)
 |rng (lo hi:Int)
 |frz (o:Obj)(u:HO)
 |tbl (ps:Array Value)
 |ext (φ:Heap->Prop)
noncomputable abbrev Hp:=Addr->Option HO
noncomputable def bE(H:Hp)(a:Addr)(o:HO):Hp:=λb=>if b=a then some o else H b
theorem bi{H:Hp}{o:HO}:bE H a o a=some o:=by unfold bE;rw[if_pos rfl]
theorem aE{H:Hp}{o:HO}(h:b≠a):bE H a o b=H b:=by unfold bE;rw[if_neg h]
theorem cM{H:Hp}{o u:HO}(h:H a=some o)(h':H b=some u)(d:o≠u):a≠b:=by intro e;subst e;rw[h] at h';exact d (ai h')
theorem aG{H:Hp}{o:HO}(h:H a=some o)(h':H b=none):a≠b:=by intro e;subst e;rw[h] at h';cases h'
noncomputable def ki(h:Heap)(a:Addr)(its:Array Value):Prop:=∃o,h.get? a=some o/\(o.cls=.type "tuple" /\o.dict=none)/\∃n,o.data=.seq its n
theorem ki.tup{its:Array Value}(x:ki h a its):IsTup h a its:=let⟨o,e,c,d⟩:=x;⟨o,e,c.1,d⟩
theorem ki.lt{its:Array Value}(x:ki h a its):a<h.objs.size:=x.tup.lt
theorem ki.new(h:Heap)(its:Array Value):ki (h.push {cls:= .type "tuple",data:= .seq its}) h.objs.size its:=⟨_,am _ rfl,⟨rfl,rfl⟩,0,rfl⟩
section
variable(P:Program)(w:World)
noncomputable def bM(H:Hp)(h:Heap)(a:Addr):HO->Prop
 | .lst xs=>xs.length<=sizeLine/\∃(its:List Value)(n:Nat),bm xs its/\h.get? a=some {cls:= .type "list",data:= .seq its.toArray n}
 | .tup xs=>xs.length<=sizeLine/\∃its:List Value,bm xs its/\ki h a its.toArray
 | .dK kvs=>kvs.length<=sizeLine/\(a==sysModules)=false/\∃vs,KV kvs vs/\h.DictOf (bf P w) a vs
 | .dT kvs=>kvs.length<=sizeLine/\(a==sysModules)=false/\∃xs:List (List Key×Addr×Value),
   Paired (λ(p:List Key×V)(q:List Key×Addr×Value)=>p.1=q.1/\H q.2.1=some (.tup (p.1.map kV))/\RelV p.2 q.2.2) kvs xs/\
   ∃o es ep,h.get? a=some o/\o.ExactDict/\o.data=.dict es ep/\es.toList=xs.map (entryOfKey (tupleKind (bf P w)))/\(xs.map (·.1)).Nodup
 | .set S n=>h.SetOf (intKind P w) a S n
 | .ins C dx fs=>H dx=some (.own a)/\fs.length<=1000/\dx≠a/\h.get? a=some (PySem.W.instObj C dx)/\
   ∃mA,h.Ns1 dx mA/\(∀f,fe (fs.lookup f) (mA f))/\PySem.Within mA (fs.map (·.1))
 | .own _=>∃o,h.get? a=some o
 | .xd fs=>∃mA,h.Ns1 a mA/\∀f,fe (fs.lookup f) (mA f)
 | .rng lo hi=>∃t u v,h.get? a=some {cls:= .type "range",data:= .fields #[.int lo t,.int hi u,.int 1 v]}
 | .frz o u=>h.get? a=some o/\bM H h a u
 | .tbl ps=>h.get? a=some {cls:= .none,data:= .fields ps}
 | .met f x=>h.get? a=some (PySem.W.methodObj (.ref f) (.ref x))
 | .ext φ=>φ h/\(∃o,h.get? a=some o)/\∀h1 h2:Heap,φ h1->(∀o,h1.get? a=some o->h2.get? a=some o)->φ h2
noncomputable def gb(H:Hp)(h:Heap):Prop:=∀a o,H a=some o->bM P w H h a o
end
section
variable{P:Program}{w:World}{H H':Hp}{h h':Heap}{a:Addr}{o:HO}
theorem bM.lt(x:bM P w H h a o):a<h.objs.size:=by
 cases o with
 |lst xs=>obtain⟨_,_,_,_,e⟩:=x;exact al e
 |tup xs=>obtain⟨_,_,_,p⟩:=x;exact p.lt
 |dK kvs=>obtain⟨_,_,_,_,o,_,_,e,_⟩:=x;exact al e
 |dT kvs=>obtain⟨_,_,_,_,o,_,_,e,_⟩:=x;exact al e
 |set S n=>obtain⟨o,_,_,_,e,_⟩:=x;exact al e
 |ins C dx fs=>obtain⟨_,_,_,e,_⟩:=x;exact al e
 |own y=>obtain⟨_,e⟩:=x;exact al e
 |xd fs=>obtain⟨_,⟨_,_,_,e,_⟩,_⟩:=x;exact al e
 |rng lo hi=>obtain⟨_,_,_,e⟩:=x;exact al e
 |frz ob u=>obtain⟨e,_⟩:=x;exact al e
 |tbl ps=>exact al (show h.get? a=some _ from x)
 |met f y=>exact al (show h.get? a=some _ from x)
 |ext φ=>obtain⟨_,⟨_,e⟩,_⟩:=x;exact al e
theorem Paired.mapP{α β:Type}{F G:α->β->Prop}:∀{l₁:List α}{l₂:List β},Paired F l₁ l₂->(∀a b,F a b->G a b)->Paired G l₁ l₂
 |_,_,.nil,_=>.nil
 |_,_,.cons r t,f=>.cons (f _ _ r) (Paired.mapP t f)
theorem bM.stay(x:bM P w H h a o)(k:∀b u,(b=a∨H b=some (.own a))->h.get? b=some u->h'.get? b=some u)
  (ho:∀b,H b=some (.own a)->H' b=some (.own a))(ht:∀b xs,H b=some (.tup xs)->H' b=some (.tup xs)):bM P w H' h' a o:=by
 induction o with
 |lst xs=>obtain⟨z,its,n,r,e⟩:=x;exact⟨z,its,n,r,k _ _ (.inl rfl) e⟩
 |tup xs=>obtain⟨z,its,r,ob,e,c⟩:=x;exact⟨z,its,r,ob,k _ _ (.inl rfl) e,c⟩
 |dK kvs=>obtain⟨z,y,vs,r,ob,es,ep,e,c⟩:=x;exact⟨z,y,vs,r,ob,es,ep,k _ _ (.inl rfl) e,c⟩
 |dT kvs=>obtain⟨z,y,xs,r,ob,es,ep,e,c⟩:=x;exact⟨z,y,xs,Paired.mapP r λp q z=>⟨z.1,ht _ _ z.2.1,z.2.2⟩,ob,es,ep,k _ _ (.inl rfl) e,c⟩
 |set S n=>obtain⟨ob,es,ep,t,e,c⟩:=x;exact⟨ob,es,ep,t,k _ _ (.inl rfl) e,c⟩
 |ins C dx fs=>obtain⟨d,z,ne,e,mA,⟨od,es,ep,e2,c⟩,r⟩:=x;exact⟨ho _ d,z,ne,k _ _ (.inl rfl) e,mA,⟨od,es,ep,k _ _ (.inr d) e2,c⟩,r⟩
 |own y=>obtain⟨ob,e⟩:=x;exact⟨ob,k _ _ (.inl rfl) e⟩
 |xd fs=>obtain⟨mA,⟨od,es,ep,e,c⟩,r⟩:=x;exact⟨mA,⟨od,es,ep,k _ _ (.inl rfl) e,c⟩,r⟩
 |rng lo hi=>obtain⟨t,u,v,e⟩:=x;exact⟨t,u,v,k _ _ (.inl rfl) e⟩
 |frz ob u ih=>obtain⟨e,q⟩:=x;exact⟨k _ _ (.inl rfl) e,ih q⟩
 |tbl ps=>have e:h.get? a=some {cls:= .none,data:= .fields ps}:=x;show h'.get? a=some {cls:= .none,data:= .fields ps};exact k a _ (.inl rfl) e
 |met f y=>have e:h.get? a=some (PySem.W.methodObj (.ref f) (.ref y)):=x;show h'.get? a=some (PySem.W.methodObj (.ref f) (.ref y));exact k a _ (.inl rfl) e
 |ext φ=>obtain⟨p,⟨o,e⟩,st⟩:=x;exact⟨st _ _ p λo q=>k _ _ (.inl rfl) q,⟨o,k _ _ (.inl rfl) e⟩,st⟩
theorem gb.lt(x:gb P w H h)(e:H a=some o):a<h.objs.size:=(x a o e).lt
theorem gb.fresh(x:gb P w H h)(e:h.objs.size<=a):H a=none:=by
 cases q:H a with
 |none=>rfl
 |some u=>exact absurd (aw (x.lt q) e) (bF _)
theorem gb.kept(x:gb P w H h)(k:∀b u,h.get? b=some u->h'.get? b=some u):gb P w H h':=λa o e=>
 (x a o e).stay (λb u _ q=>k b u q) (λ_ q=>q) λ_ _ q=>q
theorem gb.laid(x:gb P w H h)(k:∀b u,h.get? b=some u->h'.get? b=some u)(hp:h.objs.size<=a)(new:bM P w (bE H a o) h' a o):gb P w (bE H a o) h':=λb u e=>by
 have hn:=x.fresh hp;by_cases hb:b=a
 ·subst hb;rw[bi] at e;cases e;exact new
 ·rw[aE hb] at e;exact(x b u e).stay (λc v _ q=>k c v q) (λc q=>by rw[aE (aG q hn)];exact q) λc xs q=>by rw[aE (aG q hn)];exact q
end
noncomputable def Rd(H:Hp)(a:Addr)(u:HO):Prop:=H a=some u∨∃o,H a=some (.frz o u)
theorem Rd.ok{H:Hp}{u:HO}(r:Rd H a u)(x:gb P w H h):bM P w H h a u:=by
 rcases r with r|⟨o,r⟩
 ·exact x a u r
 ·obtain⟨_,q⟩:=x a _ r;exact q
noncomputable def AI:Option HO->Prop
 |some (.lst _)=>True
 |some (.dK _)=>True
 |some (.dT _)=>True
 |some (.set _ _)=>True
 |some (.ins _ _ _)=>True
 |some (.ext _)=>True
 |_=>False
section
variable{P:Program}{w:World}{H:Hp}{h h':Heap}{x e:Addr}{o':HO}
theorem gb.write(ok:gb P w H h)(mu:AI (H x))(he:e=x∨H e=some (.own x))(k:∀b u,b≠e->h.get? b=some u->h'.get? b=some u)(heo:∃u,h'.get? e=some u)
  (new:bM P w (bE H x o') h' x o'):gb P w (bE H x o') h':=λb u q=>by
 have nown:∀c y,H c=some (.own y)->c≠x:=λc y r z=>by subst z;rw[r] at mu;exact mu
 have ntup:∀c xs,H c=some (.tup xs)->c≠x:=λc xs r z=>by subst z;rw[r] at mu;exact mu
 by_cases hb:b=x
 ·subst hb;rw[bi] at q;cases q;exact new
 ·rw[aE hb] at q;by_cases hbe:b=e
  ·have q':H b=some (.own x):=by
    rcases he with z|z
    ·exact absurd (hbe.trans z) hb
    ·rw[hbe];exact z
   rw[q] at q';cases q';obtain⟨v,hv⟩:=heo;exact⟨v,by rw[hbe];exact hv⟩
  ·refine(ok b u q).stay (λc v hc r=>k c v ?_ r) (λc r=>by rw[aE (nown c b r)];exact r) λc xs r=>by rw[aE (ntup c xs r)];exact r
   rcases hc with rfl|hc
   ·exact hbe
   ·rintro rfl;rcases he with z|z
    ·exact nown c b hc z
    ·rw[hc] at z;cases z;exact hb rfl
end
structure Un(fs ex:List Addr)(H H':Hp)(h h':Heap):Prop where
 keep:∀b o,h.get? b=some o->H b=none->b∉fs->b∉ex->h'.get? b=some o
 slot:∀b o,h.get? b=some o->H b=none->b∈fs->b∉ex->∃sl,h'.get? b=some {o with slots:=sl}
 free:∀b o,h.get? b=some o->H b=none->b∉ex->H' b=none
 there:∀b o,h.get? b=some o->b∉ex->∃o',h'.get? b=some o'
 tups:∀b xs,H b=some (.tup xs)->H' b=some (.tup xs)
 frzs:∀b o u,H b=some (.frz o u)->H' b=some (.frz o u)
 tbls:∀b ps,H b=some (.tbl ps)->∃more,H' b=some (.tbl (ps++more))
section
variable{fs ex:List Addr}{H H1:Hp}{h h1 h':Heap}{a x e:Addr}{o:HO}
theorem Un.any(u:Un fs ex H H1 h h1){ob:Obj}(q:h.get? b=some ob)(n:H b=none)(hx:b∉ex):∃sl,h1.get? b=some {ob with slots:=sl}:=by
 by_cases hb:b∈fs
 ·exact u.slot b ob q n hb hx
 ·exact⟨ob.slots,u.keep b ob q n hb hx⟩
theorem Un.kept(k:∀b u,h.get? b=some u->h'.get? b=some u):Un fs ex H H h h':=
 ⟨λb ob q _ _ _=>k b ob q,λb ob q _ _ _=>⟨ob.slots,k b ob q⟩,λ_ _ _ n _=>n,λb ob q _=>⟨ob,k b ob q⟩,λ_ _ q=>q,λ_ _ _ q=>q,λ_ ps q=>⟨#[],by rw[q];simp⟩⟩
theorem Un.refl:Un fs ex H H h h:=Un.kept λ_ _ q=>q
theorem Un.laid(k:∀b u,h.get? b=some u->h'.get? b=some u)(hp:h.objs.size<=a)(hn:H a=none):Un fs ex H (bE H a o) h h' where
 keep:=λb u q _ _ _=>k b u q
 slot:=λb u q _ _ _=>⟨u.slots,k b u q⟩
 free:=λb u q n _=>by rw[aE (ao (aw (al q) hp))];exact n
 there:=λb u q _=>⟨u,k b u q⟩
 tups:=λb xs q=>by rw[aE (aG q hn)];exact q
 frzs:=λb u xs q=>by rw[aE (aG q hn)];exact q
 tbls:=λb ps q=>⟨#[],by rw[aE (aG q hn),q];simp⟩
theorem Un.write(mu:AI (H x))(he:e=x∨H e=some (.own x))(k:∀b u,b≠e->h.get? b=some u->h'.get? b=some u)(heo:∃u,h'.get? e=some u):Un fs ex H (bE H x o) h h':=by
 have hx:∀b,H b=none->b≠x:=λb n z=>by subst z;rw[n] at mu;exact mu
 have hb:∀b,H b=none->b≠e:=λb n z=>by
  subst z;rcases he with r|r
  ·exact hx b n r
  ·rw[n] at r;cases r
 have hm:∀b u,H b=some u->¬AI (some u)->b≠x:=λb u q nm z=>by subst z;rw[q] at mu;exact nm mu
 refine⟨λb u q n _ _=>k b u (hb b n) q,λb u q n _ _=>⟨u.slots,k b u (hb b n) q⟩,λb u q n _=>by rw[aE (hx b n)];exact n,λb u q _=>?_,
  λb xs q=>by rw[aE (hm b _ q λz=>z)];exact q,λb u xs q=>by rw[aE (hm b _ q λz=>z)];exact q,λb ps q=>⟨#[],by rw[aE (hm b _ q λz=>z),q];simp⟩⟩
 by_cases hbe:b=e
 ·subst hbe;exact heo
 ·exact⟨u,k b u hbe q⟩
end
noncomputable def AN(h:Heap)(H:Hp):List Addr:=(List.range h.objs.size).filter λa=>(H a).isSome
noncomputable def l6(h:Heap)(H:Hp):Heap:=PySem.W.hideAll h (AN h H)
theorem qS(h:Heap)(H:Hp):(l6 h H).objs.size=h.objs.size:=PySem.W.hideAll_size _ _
theorem tP{H:Hp}(e:h.get? b=some o)(n:H b=none):(l6 h H).get? b=some o:=
 PySem.W.hideAll_get _ e λhm=>by have q:(H b).isSome=true:=(List.mem_filter.mp hm).2;rw[n] at q;simp at q
theorem vv{H:Hp}(e:(l6 h H).get? b=some o):h.get? b=some o/\H b=none:=by
 have e':h.get? b=some o:=PySem.W.of_hideAll (AN h H) e;refine⟨e',?_⟩;cases q:H b with
 |none=>rfl
 |some x=>
  have hm:b∈AN h H:=List.mem_filter.mpr ⟨List.mem_range.mpr (al e'),by simp[q]⟩
  have z:(l6 h H).get? b=none:=PySem.W.hideAll_none (AN h H) hm;rw[z] at e;cases e
noncomputable def wb(g h:Heap)(L:Addr):List (Addr×Obj):=(List.range h.objs.size).filterMap λa=>if a=L∨(g.get? a).isSome=true then none else(h.get? a).map λo=>(a,o)
noncomputable def rest(g h:Heap)(L d:Addr):List (Addr×Obj):=(wb g h L).filter λp=>decide (p.1≠d)
structure Mod(K:av)(mg:Str->Option Value)(base:Heap):Prop where
 kin:K.In base
 glob:base.Ns mainGlobals mg
 blt:∃mb,base.Ns builtinsNs mb/\∀x:Str,x≠ "__name__" ->mb x=bootBuiltins x
 nolimit:base.NoLimit
structure Cx where
 prog:Program
 w:World
 K:av
 mg:Str->Option Value
 base:Heap
 A:Around
 N:List Str
 s₀:Shared
 H₀:Hp
 env:Env
 outer:List Env
 stack:List Env
 ex:List Addr
 fn:Str->Bool
 calm:Bool
 pn:List (Addr×Obj)
 xe:Value->Shared->Prop
noncomputable def qV(l:List Env):List Addr:=l.filterMap (·.frame)
noncomputable abbrev Cx.fs(X:Cx):List Addr:=qV X.outer
noncomputable def uu(sc:Scope)(x:Str):Prop:=sc.names.lookup x=some .local∨sc.names.lookup x=some .cell∨sc.names.lookup x=some .free
noncomputable def Loc(sc:Scope)(x:Str):Prop:=sc.names.lookup x=some .local∨sc.names.lookup x=some .cell
noncomputable def Look(env:Env)(h:Heap)(m:Str->Option Value)(x:Str)(u:Value):Prop:=
 (env.kindOf x=some .local/\m x=some u)∨((env.kindOf x=some .cell∨env.kindOf x=some .free)/\∃c,env.cells.lookup x=some c/\h.IsCell c (some u))
structure Cx.Ok(X:Cx):Prop where
 mod:Mod X.K X.mg X.base
 kind:X.env.scope.kind=.function
 glob:X.env.globals=mainGlobals
 blt:X.env.builtins=builtinsNs
 above:X.s₀.heap.objs.size<=X.env.locals
 inj:∀x y c,X.env.cells.lookup x=some c->X.env.cells.lookup y=some c->x=y
 has:∀x,(X.env.kindOf x=some .cell∨X.env.kindOf x=some .free)->∃c,X.env.cells.lookup x=some c
 cab:∀x c,X.fn x=true->X.env.cells.lookup x=some c->X.s₀.heap.objs.size<=c
 hd:X.calm=true->X.A.handled=none
 frames:X.A.frames=some X.stack
 stk:X.stack=X.outer∨(X.stack=X.env::X.outer/\X.env.frame=some X.env.locals)
 exf:∀b∈X.ex,b≠X.env.locals/\∀x c,X.env.cells.lookup x=some c->c≠b
 bs:∀b o,X.base.get? b=some o->X.s₀.heap.get? b=some o/\X.H₀ b=none
 bsz:X.base.objs.size<=X.s₀.heap.objs.size
 noex:∀b o,X.base.get? b=some o->b∉X.ex
 exfs:∀b∈X.ex,b∉X.fs
 funs:X.s₀.heap.FunFrames X.base X.outer
 frf:∀b∈X.fs,X.H₀ b=none
structure Inv(X:Cx)(pins:List (Addr×Obj))(σ:List (Option V))(H:Hp)(s:Shared):Prop where
 ok:X.Ok
 os:s.os=X.s₀.os
 bare:AllBare s.gens
 base:Un X.fs X.ex X.H₀ H X.s₀.heap s.heap
 loc:∃m,s.heap.Ns X.env.locals m/\∀(i:Nat)(x:Str)(v:V),X.N[i]? =some x->σ[i]? =some (some v)->uu X.env.scope x->∃u,RelV v u/\Look X.env s.heap m x u
 cell:∀x c,X.env.cells.lookup x=some c->∃v,s.heap.IsCell c v
 free:H X.env.locals=none
 freeC:∀x c,X.env.cells.lookup x=some c->H c=none
 pin:∀p∈X.pn++pins,s.heap.get? p.1=some p.2/\H p.1=none/\p.1≠X.env.locals/\p.1∉X.fs/\∀v,p.2.data≠ .cell v
 hok:gb X.prog X.w H s.heap
 len:σ.length=X.N.length
section
variable{X:Cx}{pins:List (Addr×Obj)}{σ:List (Option V)}{H H':Hp}{s:Shared}{h':Heap}
theorem Cx.Ok.nofr(ok:X.Ok)(e:X.base.get? b=some o):b∉X.fs:=λhb=>by have:=(ok.funs.mem hb).1;rw[e] at this;cases this
theorem Inv.bs(I:Inv X pins σ H s):∀b o,X.base.get? b=some o->s.heap.get? b=some o/\H b=none:=λb o e=>
 ⟨I.base.keep b o (I.ok.bs b o e).1 (I.ok.bs b o e).2 (I.ok.nofr e) (I.ok.noex b o e),I.base.free b o (I.ok.bs b o e).1 (I.ok.bs b o e).2 (I.ok.noex b o e)⟩
theorem Inv.bk(I:Inv X pins σ H s):∀b o,X.base.get? b=some o->s.heap.get? b=some o:=λb o e=>(I.bs b o e).1
theorem Inv.mod(I:Inv X pins σ H s):Mod X.K X.mg X.base:=I.ok.mod
theorem Inv.kIn(I:Inv X pins σ H s):X.K.In s.heap:=I.ok.mod.kin.keeps I.bk
theorem Inv.lt(I:Inv X pins σ H s):X.env.locals<s.heap.objs.size:=let⟨_,hn,_⟩:=I.loc;hn.lt
theorem Inv.sz(I:Inv X pins σ H s):X.s₀.heap.objs.size<=s.heap.objs.size:=az I.ok.above (Nat.le_of_lt I.lt)
theorem Inv.nofs(I:Inv X pins σ H s)(h:s.heap.objs.size<=a):a∉X.fs:=λhb=>by obtain⟨_,o,ho,_⟩:=I.ok.funs.mem hb;exact absurd (aw (al ho) (az I.sz h)) (bF _)
theorem Inv.cne(I:Inv X pins σ H s):∀x c,X.env.cells.lookup x=some c->c≠X.env.locals:=λx c e z=>by obtain⟨v,o,ho,hd⟩:=I.cell x c e;obtain⟨m,⟨o',es,ep,ho',hd',_⟩,_⟩:=I.loc;rw[z,ho'] at ho;cases ho;rw[hd'] at hd;cases hd
theorem Inv.funs(I:Inv X pins σ H s):s.heap.FunFrames X.base X.outer:=by
 have all:∀(l:List Env),(∀b∈qV l,b∈X.fs)->X.s₀.heap.FunFrames X.base l->s.heap.FunFrames X.base l:=by
  intro l
  induction l with
  |nil=>intro _ _;trivial
  |cons env r ih=>
   intro hs hl;obtain⟨hk,⟨L,o,hf,hn,ho,hd⟩,hr⟩:=hl;have hL:L∈X.fs:=hs L (by unfold qV;rw[List.filterMap_cons,hf];exact List.mem_cons_self)
   obtain⟨sl,e⟩:=I.base.slot L o ho (I.ok.frf L hL) hL λz=>I.ok.exfs L z hL;exact⟨hk,⟨L,_,hf,hn,e,hd⟩,ih (λb hb=>hs b (by unfold qV;rw[List.filterMap_cons,hf];exact List.mem_cons_of_mem _ hb)) hr⟩
 exact all X.outer (λ_ hb=>hb) I.ok.funs
theorem Inv.stack(I:Inv X pins σ H s):s.heap.FunFrames X.base X.stack:=by
 rcases I.ok.stk with e|⟨e,hf⟩
 ·rw[e];exact I.funs
 ·rw[e];obtain⟨m,hn,_⟩:=I.loc;refine .cons (by rw[I.ok.kind];decide) hf hn ?_ I.funs
  exact Heap.get?_none_of_le (az I.ok.bsz I.ok.above)
theorem Inv.stkSub(I:Inv X pins σ H s):∀b∈qV X.stack,b∈X.env.locals::X.fs:=λb hb=>by
 rcases I.ok.stk with e|⟨e,hf⟩
 ·rw[e] at hb;exact List.mem_cons_of_mem _ hb
 ·rw[e] at hb;unfold qV at hb;rw[List.filterMap_cons,hf] at hb;exact hb
theorem Inv.stkFree(I:Inv X pins σ H s):∀b∈qV X.stack,H b=none:=λb hb=>by
 rcases List.mem_cons.mp (I.stkSub b hb) with e|hb
 ·rw[e];exact I.free
 ·obtain⟨_,o,ho,_⟩:=I.ok.funs.mem hb;exact I.base.free b o ho (I.ok.frf b hb) λz=>I.ok.exfs b z hb
theorem Inv.step{g':Array GenState}{d':Drawn}(I:Inv X pins σ H s)
  (hch:∀b∈ch,(b∈X.ex∨X.s₀.heap.objs.size<=b)/\b≠X.env.locals/\(∀x c,X.env.cells.lookup x=some c->c≠b)/\∀p∈X.pn++pins,p.1≠b)
  (keep:∀b o,b≠X.env.locals->b∉X.fs->b∉ch->s.heap.get? b=some o->H b=none->h'.get? b=some o)
  (slot:∀b o,b≠X.env.locals->b∈X.fs->b∉ch->s.heap.get? b=some o->H b=none->∃sl,h'.get? b=some {o with slots:=sl})(free:∀b o,b∉ch->s.heap.get? b=some o->H b=none->H' b=none)
  (there:∀b o,b∉ch->s.heap.get? b=some o->∃o',h'.get? b=some o')
  (tups:∀b xs,H b=some (.tup xs)->H' b=some (.tup xs))(frzs:∀b o u,H b=some (.frz o u)->H' b=some (.frz o u))(tbls:∀b ps,H b=some (.tbl ps)->∃more,H' b=some (.tbl (ps++more)))
  (ns:∀m,s.heap.Ns X.env.locals m->h'.Ns X.env.locals m)(hok:gb X.prog X.w H' h')(hg:AllBare g'):
  Inv X pins σ H' {s with heap:=h',gens:=g',drawn:=d',toks:=t'}:=by
 have neL:∀b o,X.s₀.heap.get? b=some o->b≠X.env.locals:=λb o e=>ao (aw (al e) I.ok.above)
 have neC:∀b o,X.s₀.heap.get? b=some o->b∉X.ex->b∉ch:=λb o e hx hb=>by
  rcases(hch b hb).1 with z|z
  ·exact hx z
  ·exact absurd (aw (al e) z) (bF _)
 have cellK:∀x c,X.env.cells.lookup x=some c->∀v,s.heap.IsCell c v->h'.IsCell c v:=λx c e v hp=>by
  obtain⟨o,ho,hd⟩:=hp;have nch:c∉ch:=λz=>(hch c z).2.2.1 x c e rfl;by_cases hc:c∈X.fs
  ·obtain⟨sl,q⟩:=slot c o (I.cne x c e) hc nch ho (I.freeC x c e);exact⟨_,q,hd⟩
  ·exact⟨o,keep c o (I.cne x c e) hc nch ho (I.freeC x c e),hd⟩
 refine⟨I.ok,I.os,hg,⟨λb o e n hb hx=>?_,λb o e n hb hx=>?_,λb o e n hx=>?_,λb o e hx=>?_,λb xs e=>tups b xs (I.base.tups b xs e),λb o xs e=>frzs b o xs (I.base.frzs b o xs e),λb ps e=>?_⟩,?_,λx c e=>?_,?_,λx c e=>?_,λp hp=>?_,hok,I.len⟩
 ·exact keep b o (neL b o e) hb (neC b o e hx) (I.base.keep b o e n hb hx) (I.base.free b o e n hx)
 ·obtain⟨sl,e1⟩:=I.base.slot b o e n hb hx;obtain⟨sl',e2⟩:=slot b _ (neL b o e) hb (neC b o e hx) e1 (I.base.free b o e n hx);exact⟨sl',e2⟩
 ·obtain⟨o',e1⟩:=I.base.there b o e hx;exact free b o' (neC b o e hx) e1 (I.base.free b o e n hx)
 ·obtain⟨o',e1⟩:=I.base.there b o e hx;exact there b o' (neC b o e hx) e1
 ·obtain⟨m1,e1⟩:=I.base.tbls b ps e;obtain⟨m2,e2⟩:=tbls b _ e1;exact⟨m1++m2,by rw[e2,Array.append_assoc]⟩
 ·obtain⟨m,hn,hl⟩:=I.loc;refine⟨m,ns m hn,λi x v e1 e2 e3=>?_⟩;obtain⟨u,r,l⟩:=hl i x v e1 e2 e3;refine⟨u,r,?_⟩;rcases l with l|⟨k,c,e,z⟩
  ·exact .inl l
  ·exact .inr ⟨k,c,e,cellK x c e _ z⟩
 ·obtain⟨v,z⟩:=I.cell x c e;exact⟨v,cellK x c e v z⟩
 ·obtain⟨m,⟨o,_,_,ho,_⟩,_⟩:=I.loc;exact free _ o (λz=>(hch _ z).2.1 rfl) ho I.free
 ·obtain⟨v,o,ho,hd⟩:=I.cell x c e;exact free c o (λz=>(hch c z).2.2.1 x c e rfl) ho (I.freeC x c e)
 ·obtain⟨e,n,ne,nf,d⟩:=I.pin p hp;have nch:p.1∉ch:=λz=>(hch p.1 z).2.2.2 p hp rfl;exact⟨keep p.1 p.2 ne nf nch e n,free p.1 p.2 nch e n,ne,nf,d⟩
theorem Inv.un(I:Inv X pins σ H s)(u:Un X.fs [] H H' s.heap h')(hok:gb X.prog X.w H' h'):Inv X pins σ H' {s with heap:=h',toks:=t'}:=by
 obtain⟨m,⟨o,es,ep,ho,r⟩,_⟩:=id I.loc;obtain⟨sl,hL⟩:=u.any ho I.free (by simp)
 exact I.step (g':=s.gens) (d':=s.drawn) (ch:=[]) (λ_ z=>nomatch z) (λb o _ hb _ e n=>u.keep b o e n hb (by simp)) (λb o _ hb _ e n=>u.slot b o e n hb (by simp)) (λb o _ e n=>u.free b o e n (by simp)) (λb o _ e=>u.there b o e (by simp)) u.tups u.frzs u.tbls (λm' hm=>by obtain⟨o',es',ep',ho',r'⟩:=hm;rw[ho] at ho';cases ho';exact⟨_,es',ep',hL,r'⟩) hok I.bare
theorem Inv.call{g':Array GenState}{d':Drawn}(I:Inv X pins σ H s)(u:Un (qV X.stack) ch H H' s.heap h')(hok:gb X.prog X.w H' h')(hg:AllBare g')
  (hch:∀b∈ch,(b∈X.ex∨X.s₀.heap.objs.size<=b)/\b≠X.env.locals/\(∀x c,X.env.cells.lookup x=some c->c≠b)/\∀p∈X.pn++pins,p.1≠b):
  Inv X pins σ H' {s with heap:=h',gens:=g',drawn:=d',toks:=t'}:=by
 obtain⟨m,⟨o,es,ep,ho,r⟩,_⟩:=id I.loc;obtain⟨sl,hL⟩:=u.any ho I.free λz=>(hch _ z).2.1 rfl
 exact I.step (ch:=ch) hch (λb o hL hb hc e n=>u.keep b o e n (λz=>(List.mem_cons.mp (I.stkSub b z)).elim hL hb) hc) (λb o _ _ hc e n=>u.any e n hc) (λb o hc e n=>u.free b o e n hc) (λb o hc e=>u.there b o e hc) u.tups u.frzs u.tbls (λm' hm=>by obtain⟨o',es',ep',ho',r'⟩:=hm;rw[ho] at ho';cases ho';exact⟨_,es',ep',hL,r'⟩) hok hg
theorem Inv.turned(I:Inv X pins σ H s)(k:∀b o,b≠it->s.heap.get? b=some o->h'.get? b=some o)(hn:H it=none)(hL:it≠X.env.locals)
  (h1:it∈X.ex∨X.s₀.heap.objs.size<=it)(h2:∀x c,X.env.cells.lookup x=some c->c≠it)(h3:∀p∈X.pn++pins,p.1≠it):Inv X pins σ H {s with heap:=h',toks:=t'}:=by
 have nit:∀b u,H b=some u->b≠it:=λb u e z=>by rw[z,hn] at e;cases e
 refine I.step (g':=s.gens) (d':=s.drawn) (ch:=[it]) (λb hb=>?_) (λb o _ _ hc e _=>k b o (λz=>hc (by simp[z])) e) (λb o _ _ hc e _=>⟨o.slots,k b o (λz=>hc (by simp[z])) e⟩) (λ_ _ _ _ n=>n)
  (λb o hc e=>⟨o,k b o (λz=>hc (by simp[z])) e⟩) (λ_ _ e=>e) (λ_ _ _ e=>e) (λb ps e=>⟨#[],by rw[e];simp⟩) (λm hm=>?_) (λb u e=>?_) I.bare
 ·have e:b=it:=by simpa using hb
  subst e;exact⟨h1,hL,h2,h3⟩
 ·obtain⟨o,es,ep,ho,r⟩:=hm;exact⟨o,es,ep,k _ o (Ne.symm hL) ho,r⟩
 ·refine(I.hok b u e).stay (λc v hc q=>k c v ?_ q) (λ_ q=>q) λ_ _ q=>q;rcases hc with z|z
  ·rw[z];exact nit b u e
  ·exact nit c _ z
theorem Inv.tok(I:Inv X pins σ H s)(t:Nat):Inv X pins σ H {s with toks:=t}:=I.un (h':=s.heap) (t':=t) Un.refl I.hok
theorem Inv.kept(I:Inv X pins σ H s)(k:∀b u,s.heap.get? b=some u->h'.get? b=some u):Inv X pins σ H {s with heap:=h',toks:=t'}:=I.un (Un.kept k) (I.hok.kept k)
theorem Inv.laid{o:HO}(I:Inv X pins σ H s)(k:∀b u,s.heap.get? b=some u->h'.get? b=some u)(hp:s.heap.objs.size<=a)(new:bM X.prog X.w (bE H a o) h' a o):
  Inv X pins σ (bE H a o) {s with heap:=h',toks:=t'}:=I.un (Un.laid k hp (I.hok.fresh hp)) (I.hok.laid k hp new)
theorem Inv.write{x e:Addr}{o:HO}(I:Inv X pins σ H s)(mu:AI (H x))(he:e=x∨H e=some (.own x))(k:∀b u,b≠e->s.heap.get? b=some u->h'.get? b=some u)(heo:∃u,h'.get? e=some u)
  (new:bM X.prog X.w (bE H x o) h' x o):Inv X pins σ (bE H x o) {s with heap:=h',toks:=t'}:=I.un (Un.write mu he k heo) (I.hok.write mu he k heo new)
theorem Inv.pins_of{pins':List (Addr×Obj)}(I:Inv X pins σ H s)(h:∀p∈pins',s.heap.get? p.1=some p.2/\H p.1=none/\p.1≠X.env.locals/\p.1∉X.fs/\∀v,p.2.data≠ .cell v):Inv X pins' σ H s:=
 ⟨I.ok,I.os,I.bare,I.base,I.loc,I.cell,I.free,I.freeC,λp hp=>(List.mem_append.mp hp).elim (λz=>I.pin p (List.mem_append_left _ z)) (h p),I.hok,I.len⟩
theorem mO{N:List Str}(hN:N.Nodup)(a:N[i]? =some x)(b:N[j]? =some x):i=j:=by obtain⟨h1,e1⟩:=au a;obtain⟨h2,e2⟩:=au b;exact(List.getElem_inj hN).mp (e1.trans e2.symm)
theorem h_{M:Model}{v:V}{Q:Unit->Shared->Prop}(I:Inv X pins σ H s)(hN:X.N.Nodup)(hi:X.N[i]? =some x)(hx:Loc X.env.scope x)(r:RelV v u)
  (h:∀s',Inv X pins (σ.set i (some v)) H s'->(∃a,Heap.SameBut a s.heap s'.heap/\(a=X.env.locals∨X.env.cells.lookup x=some a))->Q () s')(hf:X.fn x=true∨X.env.scope.names.lookup x=some .local:=by first|exact .inl rfl|exact .inr rfl|assumption):wpAny M A (storeName X.env x u) Q E s:=by
 obtain⟨m,hn,hl⟩:=id I.loc;have hcls:(X.env.scope.kind== .class||(X.env.scope.kind== .module&&X.env.locals !=X.env.globals))=false:=by rw[I.ok.kind];rfl
 have hiσ:i<σ.length:=by rw[I.len];exact(au hi).1
 have cne:=I.cne
 have tracked:∀{a:Addr}{h':Heap},(∃o,s.heap.get? a=some o/\H a=none)->Heap.SameBut a s.heap h'->gb X.prog X.w H h':=λ{a h'} ha hs b ob e=>by
  obtain⟨_,_,hfree⟩:=ha;refine(I.hok b ob e).stay (λc w' hc q=>(hs.2 c ?_).trans q) (λ_ q=>q) λ_ _ q=>q;rintro rfl;rcases hc with rfl|hc
  ·rw[hfree] at e;cases e
  ·rw[hfree] at hc;cases hc
 rcases hx with hk|hk
 ·refine wpAny_storeName_local hk hn (λh' hn' hs=>?_) hcls;obtain⟨oL,_,_,hoL,_⟩:=id hn;refine h _ ⟨I.ok,I.os,I.bare,⟨λb o e n hb hx=>?_,λb o e n hb hx=>?_,I.base.free,λb o e hx=>?_,I.base.tups,I.base.frzs,I.base.tbls⟩,⟨_,hn',λj y v' e1 e2 e3=>?_⟩,λy c e=>?_,I.free,I.freeC,λp hp=>?_,tracked ⟨oL,hoL,I.free⟩ hs,by simpa using I.len⟩ ⟨_,hs,.inl rfl⟩
  ·exact(hs.2 b (ao (aw (al e) I.ok.above))).trans (I.base.keep b o e n hb hx)
  ·obtain⟨sl,e1⟩:=I.base.slot b o e n hb hx;exact⟨sl,(hs.2 b (ao (aw (al e) I.ok.above))).trans e1⟩
  ·obtain⟨o',e1⟩:=I.base.there b o e hx;exact⟨o',(hs.2 b (ao (aw (al e) I.ok.above))).trans e1⟩
  ·by_cases hj:j=i
   ·subst hj;rw[hi] at e1;cases e1;rw[aY hiσ] at e2;cases e2;exact⟨u,r,.inl ⟨hk,by simp⟩⟩
   ·rw[aI (Ne.symm hj)] at e2;obtain⟨u',r',q⟩:=hl j y v' e1 e2 e3;refine⟨u',r',?_⟩;rcases q with⟨k,e⟩|⟨k,c,e,z⟩
    ·refine .inl ⟨k,?_⟩;have:y≠x:=λe=>hj (mO hN e1 (e▸hi));simp[this,e]
    ·exact .inr ⟨k,c,e,z.sameBut hs (cne y c e)⟩
  ·obtain⟨w',z⟩:=I.cell y c e;exact⟨w',z.sameBut hs (cne y c e)⟩
  ·obtain⟨e,n,ne,nf,d⟩:=I.pin p hp;exact⟨(hs.2 p.1 ne).trans e,n,ne,nf,d⟩
 ·have hfn:X.fn x=true:=by
   rcases hf with z|z
   ·exact z
   ·rw[z] at hk;cases hk
  obtain⟨c,hc⟩:=I.ok.has x (.inl hk);obtain⟨w',z⟩:=I.cell x c hc;refine wpAny_storeName_cell I.ok.kind hk hc z (λh' hc' hs=>?_);obtain⟨oc,hoc,hocd⟩:=id z;refine h {s with heap:=h'} ⟨I.ok,I.os,I.bare,⟨λb o e n hb hx=>?_,λb o e n hb hx=>?_,I.base.free,λb o e hx=>?_,I.base.tups,I.base.frzs,I.base.tbls⟩,⟨m,hn.sameBut hs (Ne.symm (cne x c hc)),λj y v' e1 e2 e3=>?_⟩,λy c' e=>?_,I.free,I.freeC,λp hp=>?_,tracked ⟨oc,hoc,I.freeC x c hc⟩ hs,by simpa using I.len⟩ ⟨c,hs,.inr hc⟩
  ·exact(hs.2 b (ao (aw (al e) (I.ok.cab x c hfn hc)))).trans (I.base.keep b o e n hb hx)
  ·obtain⟨sl,e1⟩:=I.base.slot b o e n hb hx;exact⟨sl,(hs.2 b (ao (aw (al e) (I.ok.cab x c hfn hc)))).trans e1⟩
  ·obtain⟨o',e1⟩:=I.base.there b o e hx;exact⟨o',(hs.2 b (ao (aw (al e) (I.ok.cab x c hfn hc)))).trans e1⟩
  ·by_cases hj:j=i
   ·subst hj;rw[hi] at e1;cases e1;rw[aY hiσ] at e2;cases e2;exact⟨u,r,.inr ⟨.inl hk,c,hc,hc'⟩⟩
   ·rw[aI (Ne.symm hj)] at e2;obtain⟨u',r',q⟩:=hl j y v' e1 e2 e3;refine⟨u',r',?_⟩;rcases q with q|⟨k,c',e,z'⟩
    ·exact .inl q
    ·refine .inr ⟨k,c',e,z'.sameBut hs ?_⟩;rintro rfl;exact hj (mO hN e1 (I.ok.inj _ _ _ e hc▸hi))
  ·by_cases hcc:c'=c
   ·subst hcc;exact⟨_,hc'⟩
   ·obtain⟨w2,z2⟩:=I.cell y c' e;exact⟨w2,z2.sameBut hs hcc⟩
  ·obtain⟨e,n,ne,nf,d⟩:=I.pin p hp;refine⟨(hs.2 p.1 ?_).trans e,n,ne,nf,d⟩;intro q;rw[q,hoc] at e;have q':oc=p.2:=ai e;exact d w' (by rw[<-q'];exact hocd)
theorem jo{M:Model}{v:V}{Q:Unit->Shared->Prop}(I:Inv X pins σ H s)(hN:X.N.Nodup)(hi:X.N[i]? =some x)(hx:Loc X.env.scope x)(r:RelV v u)
  (h:∀s',Inv X pins (σ.set i (some v)) H s'->Q () s')(hf:X.fn x=true∨X.env.scope.names.lookup x=some .local:=by first|exact .inl rfl|exact .inr rfl|assumption):wpAny M A (storeName X.env x u) Q E s:=
 h_ I hN hi hx r (λs' I' _=>h s' I') hf
theorem Inv.call'{s':Shared}(I:Inv X pins σ H s)(ho:s'.os=s.os)(u:Un (qV X.stack) ch H H' s.heap s'.heap)(hok:gb X.prog X.w H' s'.heap)(hg:AllBare s'.gens)
  (hch:∀b∈ch,(b∈X.ex∨X.s₀.heap.objs.size<=b)/\b≠X.env.locals/\(∀x c,X.env.cells.lookup x=some c->c≠b)/\∀p∈X.pn++pins,p.1≠b):Inv X pins σ H' s':=by
 obtain⟨h',g',d',t',o'⟩:=s';have e:o'=s.os:=ho;subst e;exact I.call (g':=g') (t':=t') (d':=d') u hok hg hch
end
noncomputable abbrev XK:=Value->Option Addr->Hp->Prop
noncomputable abbrev St:=List (Option V)
noncomputable abbrev VK:=V->Hp->Prop
noncomputable abbrev TE:=St->Hp->VK->Prop
noncomputable abbrev TT:=St->Hp->(Bool->Hp->Prop)->Prop
noncomputable abbrev TA:=St->Hp->(List V->Hp->Prop)->Prop
structure Ends where
 nx:St->Hp->Prop
 rt:VK
 bk:St->Hp->Prop:=λ_ _=>False
 ct:St->Hp->Prop:=λ_ _=>False
noncomputable abbrev TS:=Ends->St->Hp->Prop
noncomputable def EP(X:Cx)(pins:List (Addr×Obj))(σ:St)(Q:VK)(u:Value)(s':Shared):Prop:=∃v H',Inv X pins σ H' s'/\RelV v u/\Q v H'
noncomputable def TP(X:Cx)(pins:List (Addr×Obj))(σ:St)(Q:Bool->Hp->Prop)(b:Bool)(s':Shared):Prop:=∃H',Inv X pins σ H' s'/\Q b H'
noncomputable def AP(X:Cx)(pins:List (Addr×Obj))(σ:St)(Q:List V->Hp->Prop)(us:List Value)(s':Shared):Prop:=∃vs H',Inv X pins σ H' s'/\bm vs us/\Q vs H'
noncomputable def SP(X:Cx)(pins:List (Addr×Obj))(D:Ends)(f:Flow)(s':Shared):Prop:=
 match f with
 | .next=>∃σ' H',Inv X pins σ' H' s'/\D.nx σ' H'
 | .brk=>∃σ' H',Inv X pins σ' H' s'/\D.bk σ' H'
 | .cont=>∃σ' H',Inv X pins σ' H' s'/\D.ct σ' H'
 | .ret u=>∃v σ' H',Inv X pins σ' H' s'/\RelV v u/\D.rt v H'
noncomputable def PE(X:Cx)(e:Expr)(t:TE):Prop:=
 ∀(pins:List (Addr×Obj))(s:Shared)(σ:St)(H:Hp)(Q:VK),Inv X pins σ H s->t σ H Q->wpAny (model X.prog X.w) X.A (eval e X.env) (EP X pins σ Q) X.xe s
noncomputable def PT(X:Cx)(e:Expr)(t:TT):Prop:=
 ∀(pins:List (Addr×Obj))(s:Shared)(σ:St)(H:Hp)(Q:Bool->Hp->Prop),Inv X pins σ H s->t σ H Q->wpAny (model X.prog X.w) X.A (isTrue e X.env (eval e X.env)) (TP X pins σ Q) X.xe s
noncomputable def PW(X:Cx)(e:Expr)(t:TT):Prop:=
 ∀(whole:Sem Value)(pins:List (Addr×Obj))(s:Shared)(σ:St)(H:Hp)(Q:Bool->Hp->Prop),Inv X pins σ H s->t σ H Q->wpAny (model X.prog X.w) X.A (isTrue e X.env whole) (TP X pins σ Q) X.xe s
theorem PW.pt{X:Cx}{t:TT}(h:PW X e t):PT X e t:=h _
noncomputable def PA(X:Cx)(es:List Expr)(t:TA):Prop:=
 ∀(pos:Pos)(pins:List (Addr×Obj))(s:Shared)(σ:St)(H:Hp)(Q:List V->Hp->Prop),Inv X pins σ H s->t σ H Q->wpAny (model X.prog X.w) X.A (spliced (backTo pos (starEach es X.env))) (AP X pins σ Q) X.xe s
noncomputable def PS(X:Cx)(st:Stmt)(t:TS):Prop:=
 ∀(pins:List (Addr×Obj))(s:Shared)(σ:St)(H:Hp)(D:Ends),Inv X pins σ H s->t D σ H->wpAny (model X.prog X.w) X.A (exec st X.env) (SP X pins D) X.xe s
noncomputable def PSs(X:Cx)(st:List Stmt)(t:TS):Prop:=
 ∀(pins:List (Addr×Obj))(s:Shared)(σ:St)(H:Hp)(D:Ends),Inv X pins σ H s->t D σ H->wpAny (model X.prog X.w) X.A (execs st X.env) (SP X pins D) X.xe s
theorem bU{α:Type}{t:Sem α}{Q Q':α->Shared->Prop}{M:Model}(h:wpAny M A t Q E s)(hQ:∀a s,Q a s->Q' a s):wpAny M A t Q' E s:=aQ h hQ λ_ _ x=>x
section
variable{X:Cx}
noncomputable def nX(i:Nat):TE:=λσ H Q=>∃v,σ[i]? =some (some v)/\Q v H
noncomputable def tC(v:V):TE:=λ_ H Q=>Q v H
theorem oB(hN:X.N[i]? =some x)(hv:uu X.env.scope x)(hd:(x==("__debug__":Str))=false:=by decide)(hcd:(x==("__classdict__":Str))=false:=by decide):PE X (.Name x pos) (nX i):=by
 intro pins s σ H Q I h;obtain⟨v,e,h⟩:=h;obtain⟨m,hn,hl⟩:=I.loc;obtain⟨u,r,l⟩:=hl i x v hN e hv;have fin:EP X pins σ Q u s:=⟨v,H,I,r,h⟩;rcases l with⟨hk,hm⟩|⟨hk,c,hc,hcell⟩
 ·exact wpAny_Name (wpAny_loadName_local I.ok.kind hk hn hm fin) hd
 ·rcases hk with hk|hk
  ·exact wpAny_Name (wpAny_loadName_cell I.ok.kind hk hc hcell fin) hd
  ·exact wpAny_Name (wpAny_loadName_free I.ok.kind hk hc hcell fin hcd) hd
theorem sO{i j pos}:PE X (.Constant (.int i) j pos) (tC (.int i)):=λ_ _ _ H _ I h=>wpAny_Constant_int ⟨.int i,H,I.tok _,⟨_,rfl⟩,h⟩
theorem zO{b j pos}:PE X (.Constant (.bool b) j pos) (tC (.bl b)):=λ_ _ _ H _ I h=>Constant_bool ⟨.bl b,H,I,rfl,h⟩
theorem xI{j pos}:PE X (.Constant .none j pos) (tC .non):=λ_ _ _ H _ I h=>Constant_none ⟨.non,H,I,rfl,h⟩
theorem sL{x j pos}:PE X (.Constant (.str x) j pos) (tC (.str x)):=λ_ _ _ H _ I h=>Calls.Constant_str ⟨.str x,H,I.tok _,⟨_,rfl⟩,h⟩
noncomputable def Gl(X:Cx)(x:Str):Prop:=X.env.kindOf x=some .globalImplicit
theorem lH{σ:St}{H:Hp}(I:Inv X pins σ H s)(hg:Gl X x)(hm:X.mg x=some u)(h:Q u s)
  (hd:(x==("__debug__":Str))=false:=by decide):wpAny (model X.prog X.w) X.A (eval (.Name x pos) X.env) Q E s:=
 Calls.Name_function_global I.ok.kind hg (Calls.loadGlobal_global (by rw[I.ok.glob];exact I.mod.glob.keeps I.bk) hm h) hd
theorem iq{σ:St}{H:Hp}(I:Inv X pins σ H s)(hg:Gl X x)(hm:X.mg x=none)(hv:bootBuiltins x=some u)(h:Q u s)
  (hn:x≠ "__name__":=by decide) (hd:(x==("__debug__":Str))=false:=by decide):wpAny (model X.prog X.w) X.A (eval (.Name x pos) X.env) Q E s:=by
 obtain⟨mb,h1,h2⟩:=I.mod.blt;exact Calls.Name_function_global I.ok.kind hg (Calls.loadGlobal_builtin (by rw[I.ok.glob];exact I.mod.glob.keeps I.bk) hm (by rw[I.ok.blt];exact h1.keeps I.bk) ((h2 x hn).trans hv) h) hd
theorem pH{v:V}(hg:Gl X x)(hm:X.mg x=some u)(r:RelV v u)(hd:(x==("__debug__":Str))=false:=by decide):PE X (.Name x pos) (tC v):=
 λ_ _ _ H _ I h=>lH I hg hm ⟨v,H,I,r,h⟩ hd
variable{a b:Expr}{ta tb:TE}{pos:Pos}
noncomputable def PC(X:Cx)(op:CmpOp)(a b:Expr)(t:TE):Prop:=
 ∀(pins:List (Addr×Obj))(s:Shared)(σ:St)(H:Hp)(Q:VK),Inv X pins σ H s->t σ H Q->
  wpAny (model X.prog X.w) X.A (eval a X.env) (λv s₁=>wpAny (model X.prog X.w) X.A (eval b X.env) (λu s₂=>wpAny (model X.prog X.w) X.A (compareOp op v u) (EP X pins σ Q) X.xe s₂) X.xe s₁) X.xe s
noncomputable def tB(t:TE):TT:=λσ H Q=>t σ H λx H1=>∃c,x=.bl c/\Q c H1
theorem xL{op:CmpOp}{t:TE}(h:PC X op a b t)(h1:behindInMarks op b=false:=by first|exact nobehind _ (by decide) (by decide)|rfl):PE X (.Compare a [op] [b] pos) t:=λpins s σ H Q I hw=>wpAny_Compare1 (h pins s σ H Q I hw) h1
theorem xx{op:CmpOp}{t:TE}(h:PC X op a b t)(h1:behindInMarks op b=false:=by first|exact nobehind _ (by decide) (by decide)|rfl):PT X (.Compare a [op] [b] pos) (tB t):=by intro pins s σ H Q I hw;refine wpAny_isTrue_Compare1 (bU (h pins s σ H _ I hw) λv s1 h1=>bU h1 λu s2 h2=>bU h2 λc s3 ⟨x,H1,I1,r1,q1⟩=>?_) h1;obtain⟨d,rfl,q⟩:=q1;cases r1;exact wpAny_truthy_bool ⟨H1,I1,q⟩
theorem xu{t:TE}(h:PE X e t)(he:∀whole,isTrue e X.env whole=(do let v <-whole;standAt e.pos;holding [v] (truthy v)):=by intro _;rfl):PT X e (tB t):=by intro pins s σ H Q I hw;refine isTrue_plain (bU (h pins s σ H _ I hw) λv s1 ⟨x,H1,I1,r1,q1⟩=>?_) (he _);obtain⟨d,rfl,q⟩:=q1;cases r1;exact wpAny_truthy_bool ⟨H1,I1,q⟩
variable{tA tB':TT}{rest:List Expr}
noncomputable def A7(t u:TT):TT:=λσ H Q=>t σ H λc H1=>if c=true then u σ H1 Q else Q false H1
noncomputable def BX(t u:TT):TT:=λσ H Q=>t σ H λc H1=>if c=true then Q true H1 else u σ H1 Q
noncomputable def A1(t:TT):TT:=λσ H Q=>t σ H λc H1=>Q (!c) H1
theorem vd(ha:PT X a tA):PW X (.BoolOp .And [a] pos) tA:=by
 intro wh pins s σ H Q I h;refine isTrue_and (bU (ha pins s σ H Q I h) λc s1 e=>?_);cases c with
 |true=>exact isTrue_and_nil e
 |false=>exact e
theorem xr(ha:PT X a tA):PW X (.BoolOp .Or [a] pos) tA:=by
 intro wh pins s σ H Q I h;refine isTrue_or (bU (ha pins s σ H Q I h) λc s1 e=>?_);cases c with
 |false=>exact isTrue_or_nil e
 |true=>exact e
theorem xt(ha:PT X a tA)(hb:PW X (.BoolOp .And (b::rest) pos) tB'):PW X (.BoolOp .And (a::b::rest) pos) (A7 tA tB'):=by
 intro wh pins s σ H Q I h;refine isTrue_and (bU (ha pins s σ H _ I h) λc s1 ⟨H1,I1,q1⟩=>?_);cases c with
 |true=>exact hb wh pins s1 σ H1 Q I1 q1
 |false=>exact⟨H1,I1,q1⟩
theorem zK(ha:PT X a tA)(hb:PW X (.BoolOp .Or (b::rest) pos) tB'):PW X (.BoolOp .Or (a::b::rest) pos) (BX tA tB'):=by
 intro wh pins s σ H Q I h;refine isTrue_or (bU (ha pins s σ H _ I h) λc s1 ⟨H1,I1,q1⟩=>?_);cases c with
 |true=>exact⟨H1,I1,q1⟩
 |false=>exact hb wh pins s1 σ H1 Q I1 q1
theorem xw(ha:PT X a tA):PT X (.UnaryOp .Not a pos) (A1 tA):=by intro pins s σ H Q I h;exact isTrue_not (ha pins s σ H (λc H1=>Q (!c) H1) I h)
noncomputable def zr(ta tb:TE):TE:=λσ H Q=>ta σ H λx H1=>∃c,x=.bl c/\if c=true then tb σ H1 Q else Q (.bl false) H1
noncomputable def A0(ta tb:TE):TE:=λσ H Q=>ta σ H λx H1=>∃c,x=.bl c/\if c=true then Q (.bl true) H1 else tb σ H1 Q
noncomputable def zi(ta:TE):TE:=λσ H Q=>ta σ H λx H1=>∃c,x=.bl c/\Q (.bl (!c)) H1
theorem xG{op}{t:TE}(h:PE X a t):PE X (.BoolOp op [a] pos) t:=λpins s σ H Q I hw=>BoolOp_one (h pins s σ H Q I hw)
theorem xM(ha:PE X a ta)(hb:PE X (.BoolOp .And (b::rest) pos) tb):PE X (.BoolOp .And (a::b::rest) pos) (zr ta tb):=by
 intro pins s σ H Q I h;refine BoolOp_and (bU (ha pins s σ H _ I h) λv s1 hp=>?_);obtain⟨x,H1,I1,r1,q1⟩:=hp;obtain⟨c,rfl,q1⟩:=q1;cases r1;refine wpAny_truthy_bool ?_;cases c with
 |true=>exact hb pins s1 σ H1 Q I1 q1
 |false=>exact⟨.bl false,H1,I1,rfl,q1⟩
theorem zM(ha:PE X a ta)(hb:PE X (.BoolOp .Or (b::rest) pos) tb):PE X (.BoolOp .Or (a::b::rest) pos) (A0 ta tb):=by
 intro pins s σ H Q I h;refine BoolOp_or (bU (ha pins s σ H _ I h) λv s1 hp=>?_);obtain⟨x,H1,I1,r1,q1⟩:=hp;obtain⟨c,rfl,q1⟩:=q1;cases r1;refine wpAny_truthy_bool ?_;cases c with
 |false=>exact hb pins s1 σ H1 Q I1 q1
 |true=>exact⟨.bl true,H1,I1,rfl,q1⟩
theorem xH(ha:PE X a ta):PE X (.UnaryOp .Not a pos) (zi ta):=by intro pins s σ H Q I h;refine UnaryOp_ (bU (ha pins s σ H _ I h) λv s1 hp=>?_);obtain⟨x,H1,I1,r1,q1⟩:=hp;obtain⟨c,rfl,q1⟩:=q1;cases r1;exact not_of (wpAny_truthy_bool ⟨.bl (!c),H1,I1,rfl,q1⟩)
end
noncomputable def fW(K:av)(H:Hp)(a:Addr)(xs:List V):Prop:=
 Rd H a (.lst xs)∨
  ∃(o:Obj)(its:Array Value)(n:Nat),K.lookup a=some o/\o.cls=.type "list" /\o.dict=none/\o.data=.seq its n/\its.size<=sizeLine/\bm xs its.toList
noncomputable def f6(K:av)(H:Hp)(a:Addr)(xs:List V):Prop:=
 Rd H a (.tup xs)∨
  ∃(o:Obj)(its:Array Value)(n:Nat),K.lookup a=some o/\(o.cls=.type "tuple" /\o.dict=none)/\o.data=.seq its n/\its.size<=sizeLine/\bm xs its.toList
noncomputable def BB:Value->Option V
 | .none=>some .non
 | .bool b=>some (.bl b)
 | .int i _=>some (.int i)
 | .str x _=>some (.str x)
 | .bytes b _=>some (.byt b)
 | .float b _=>some (.flt b)
 | .ref a=>some (.ref a)
 | .type n=>some (.ty n)
 |_=>none
theorem RelV.abs{x:V}(r:RelV x u):BB u=some x:=by
 cases x with
 |non=>cases r;rfl
 |bl _=>cases r;rfl
 |int _=>obtain⟨t,rfl⟩:=r;rfl
 |str _=>obtain⟨t,rfl⟩:=r;rfl
 |byt _=>obtain⟨t,rfl⟩:=r;rfl
 |flt _=>obtain⟨t,rfl⟩:=r;rfl
 |ref _=>cases r;rfl
 |ty _=>cases r;rfl
theorem RelV.inj{x y:V}(r:RelV x u)(q:RelV y u):x=y:=ai (r.abs.symm.trans q.abs)
theorem bm.inj:∀{xs ys:List V}{us:List Value},bm xs us->bm ys us->xs=ys
 |_,_,_,.nil,.nil=>rfl
 |_,_,_,.cons r t,.cons r' t'=>by rw[r.inj r',bm.inj t t']
section
variable{X:Cx}{pins:List (Addr×Obj)}{σ:St}{H:Hp}{s:Shared}{a:Addr}{xs ys:List V}
theorem fW.of{K:av}(h:H a=some (.lst xs)):fW K H a xs:= .inl (.inl h)
theorem f6.of{K:av}(h:H a=some (.tup xs)):f6 K H a xs:= .inl (.inl h)
theorem Inv.list(I:Inv X pins σ H s)(h:fW X.K H a xs):∃its:List Value,bm xs its/\PlainL s.heap a its.toArray/\xs.length<=sizeLine:=by
 rcases h with h|⟨o,its,n,hk,hc,hd,hs,hz,r⟩
 ·obtain⟨z,its,n,r,e⟩:=h.ok I.hok;exact⟨its,r,⟨_,n,e,rfl,rfl,rfl⟩,z⟩
 ·refine⟨its.toList,r,⟨o,n,I.kIn a o hk,hc,hd,by simpa using hs⟩,?_⟩
  have e:=r.length;simp only[Array.length_toList] at e;omega
theorem Inv.tuple(I:Inv X pins σ H s)(h:f6 X.K H a xs):∃its:List Value,bm xs its/\IsTup s.heap a its.toArray/\xs.length<=sizeLine:=by
 rcases h with h|⟨o,its,n,hk,hc,hs,hz,r⟩
 ·obtain⟨z,its,r,p⟩:=h.ok I.hok;exact⟨its,r,p.tup,z⟩
 ·refine⟨its.toList,r,⟨o,I.kIn a o hk,hc.1,n,by simpa using hs⟩,?_⟩
  have e:=r.length;simp only[Array.length_toList] at e;omega
theorem Inv.list_inj(I:Inv X pins σ H s)(h:fW X.K H a xs)(h':fW X.K H a ys):xs=ys:=by
 obtain⟨its,r,⟨o,n,e,_,_,d⟩,_⟩:=I.list h;obtain⟨its',r',⟨o',n',e',_,_,d'⟩,_⟩:=I.list h';rw[e] at e';cases e';rw[d] at d';injection d' with d1 _;have:its=its':=by simpa using congrArg Array.toList d1
 subst this;exact r.inj r'
theorem Inv.tuple_inj(I:Inv X pins σ H s)(h:f6 X.K H a xs)(h':f6 X.K H a ys):xs=ys:=by
 obtain⟨its,r,⟨o,e,_,n,d⟩,_⟩:=I.tuple h;obtain⟨its',r',⟨o',e',_,n',d'⟩,_⟩:=I.tuple h';rw[e] at e';cases e';rw[d] at d';injection d' with d1 _;have:its=its':=by simpa using congrArg Array.toList d1
 subst this;exact r.inj r'
end
section
end
section
variable{X:Cx}{st:Stmt}{rest:List Stmt}{t u:TS}{e:Expr}{te:TE}{pos:Pos}
noncomputable def zj:TS:=λD σ H=>D.nx σ H
noncomputable def AY(t u:TS):TS:=λD σ H=>t {D with nx:=u D} σ H
theorem ve:PSs X [] zj:=λ_ _ σ H _ I h=>wpAny_execs_nil ⟨σ,H,I,h⟩
theorem sF(h1:PS X st t)(h2:PSs X rest u):PSs X (st::rest) (AY t u):=by
 intro pins s σ H D I h;refine wpAny_execs_cons (bU (h1 pins s σ H {D with nx:=u D} I h) λf s1 q=>?_);cases f with
 |next=>obtain⟨σ',H',I',q⟩:=q;exact h2 pins s1 σ' H' D I' q
 |ret v=>exact q
 |brk=>exact q
 |cont=>exact q
theorem Inv.quiet{σ:St}{H:Hp}(I:Inv X pins σ H s):interactive X.env=false:=by simp[interactive,I.ok.kind]
noncomputable def zn(te:TE):TS:=λD σ H=>te σ H λ_ H1=>D.nx σ H1
theorem vf(he:PE X e te)(hs:swapsWith e none pos.line X.env=pure false:=by rfl):PS X (.Expr e pos) (zn te):=by intro pins s σ H D I h;exact wpAny_Expr_any (bU (he pins s σ H _ I h) λv s1 ⟨x,H1,I1,r1,q1⟩=>⟨σ,H1,I1,q1⟩) I.quiet hs
noncomputable def AZ(te:TE):TS:=λD σ H=>te σ H D.rt
theorem xy(he:PE X e te):PS X (.Return (some e) pos) (AZ te):=by intro pins s σ H D I h;exact wpAny_Return_some (bU (he pins s σ H _ I h) λv s1 ⟨x,H1,I1,r1,q1⟩=>⟨x,σ,H1,I1,r1,q1⟩)
noncomputable def A3(c:TT)(t u:TS):TS:=λD σ H=>c σ H λb H1=>if b=true then t D σ H1 else u D σ H1
theorem zL{a b:List Stmt}{tc:TT}(hc:PT X c tc)(ha:PSs X a t)(hb:PSs X b u):PS X (.If c a b pos) (A3 tc t u):=by
 intro pins s σ H D I h;refine wpAny_If (bU (hc pins s σ H _ I h) λd s1 ⟨H1,I1,q1⟩=>?_);cases d with
 |true=>exact ha pins s1 σ H1 D I1 q1
 |false=>exact hb pins s1 σ H1 D I1 q1
end
noncomputable abbrev TG:=V->St->Hp->(St->Hp->Prop)->Prop
noncomputable abbrev uG:=List V->St->Hp->(St->Hp->Prop)->Prop
noncomputable def PG(X:Cx)(target:Expr)(t:TG):Prop:=
 ∀(pins:List (Addr×Obj))(s:Shared)(σ:St)(H:Hp)(v:V)(u:Value)(Q:St->Hp->Prop),Inv X pins σ H s->RelV v u->t v σ H Q->
  wpAny (model X.prog X.w) X.A (assign target X.env u) (λ_ s'=>∃σ' H',Inv X pins σ' H' s'/\Q σ' H') X.xe s
noncomputable def yW(X:Cx)(ts:List Expr)(t:uG):Prop:=
 ∀(pins:List (Addr×Obj))(s:Shared)(σ:St)(H:Hp)(vs:List V) (us:List Value)(Q:St->Hp->Prop),Inv X pins σ H s->bm vs us->t vs σ H Q->
  wpAny (model X.prog X.w) X.A (assignInOrder ((assignEach ts X.env).map (·.2)) us) (λ_ s'=>∃σ' H',Inv X pins σ' H' s'/\Q σ' H') X.xe s
noncomputable abbrev yN:=V->V->V->Hp->(Hp->Prop)->Prop
noncomputable def AG(X:Cx)(t:yN):Prop:=
 ∀(pins:List (Addr×Obj))(s:Shared)(σ:St)(H:Hp)(o i v:V)(ov iv u:Value)(Q:Hp->Prop),Inv X pins σ H s->RelV o ov->RelV i iv->RelV v u->t o i v H Q->
  wpAny (model X.prog X.w) X.A (setItem ov iv u) (λ_ s'=>∃H',Inv X pins σ H' s'/\Q H') X.xe s
section
variable{X:Cx}{pos:Pos}
noncomputable def d7(i:Nat):TG:=λv σ H Q=>Q (σ.set i (some v)) H
theorem fR(hN:X.N.Nodup)(hi:X.N[i]? =some x)(hx:Loc X.env.scope x)(hf:X.fn x=true∨X.env.scope.names.lookup x=some .local:=by first|exact .inl rfl|exact .inr rfl|assumption):PG X (.Name x pos) (d7 i):=by intro pins s σ H v u Q I r h;exact wpAny_assign_Name (jo I hN hi hx r (λs' I'=>⟨_,H,I',h⟩) hf)
noncomputable def vT:uG:=λvs σ H Q=>vs=[]/\Q σ H
noncomputable def kC(t:TG)(u:uG):uG:=λvs σ H Q=>∃v r,vs=v::r/\t v σ H λσ' H'=>u r σ' H' Q
theorem pG:yW X [] vT:=by intro pins s σ H vs us Q I r h;obtain⟨e,h⟩:=h;subst e;cases r;exact assignInOrder_nil ⟨σ,H,I,h⟩
theorem jw{es:List Expr}{t:TG}{u:uG}(h1:PG X e t)(h2:yW X es u)
  (hs:(assignEach (e::es) X.env).map (·.2)=assign e X.env::(assignEach es X.env).map (·.2):=by rfl):yW X (e::es) (kC t u):=by
 intro pins s σ H vs us Q I r h;obtain⟨v,vr,e1,h⟩:=h;subst e1;cases r with
 |cons r rr=>rw[hs];refine assignInOrder_cons (bU (h1 pins s σ H _ _ _ I r h) λ_ s1 hp=>?_);obtain⟨σ1,H1,I1,q1⟩:=hp;exact h2 pins s1 σ1 H1 _ _ Q I1 rr q1
noncomputable def yn(K:av)(n:Nat)(t:uG):TG:=λv σ H Q=>∃a xs,v=.ref a/\f6 K H a xs/\xs.length=n/\t xs σ H Q
theorem xC{es:List Expr}{k:Nat}{t:uG}(hc:X.calm=true)(h:yW X es t)
  (hn:(assignEach es X.env).length=n:=by rfl)(hst:(assignEach es X.env).findIdx? (·.1)=none:=by rfl):PG X (.Tuple es k pos) (yn X.K n t):=by
 intro pins s σ H v u Q I r hw;obtain⟨a,xs,e1,hq,hl,hw⟩:=hw;subst e1;cases r;obtain⟨its,rv,ht,hz⟩:=I.tuple hq;refine assign_Tuple_tuple (I.ok.hd hc) ht (by simp[hn,<-hl,rv.length]) hst λh' hx=>?_
 have I1:Inv X pins σ H {s with heap:=h'}:=I.kept (t':=s.toks) λb o e=>hx b o (ao (al e)) e;exact h pins _ σ H xs _ Q I1 (by simpa using rv) hw
noncomputable def Bu(to ti:TE)(t:yN):TG:=λv σ H Q=>to σ H λo H1=>ti σ H1 λi H2=>t o i v H2 λH3=>Q σ H3
theorem xD{o i:Expr}{to ti:TE}{t:yN}(ho:PE X o to)(hi:PE X i ti)(hs:AG X t)
  (ha:∀v,assign (.Subscript o i pos) X.env v=(do
   let ov <-holding [v] (eval o X.env)
   let iv <-holding [v,ov] (eval i X.env)
   standAt pos
   holding [v,ov,iv] (setItem ov iv v)
   release [v,ov,iv] []):=by intro _;rfl):PG X (.Subscript o i pos) (Bu to ti t):=by
 intro pins s σ H v u Q I r h;rw[ha];refine aa (wpAny_holding (bU (ho pins s σ H _ I h) λov s1 hp=>?_));obtain⟨x,H1,I1,r1,q1⟩:=hp;refine aa (wpAny_holding (bU (hi pins s1 σ H1 _ I1 q1) λiv s2 hp=>?_));obtain⟨y,H2,I2,r2,q2⟩:=hp;refine aa (wpAny_standAt (aa (wpAny_holding (bU (hs pins s2 σ H2 x y v ov iv u _ I2 r1 r2 r q2) λ_ s3 hp=>?_))));obtain⟨H3,I3,q3⟩:=hp;exact wpAny_release ⟨σ,H3,I3,q3⟩
noncomputable def nZ(te:TE)(g:TG):TS:=λD σ H=>te σ H λx H1=>g x σ H1 D.nx
theorem sH{te:TE}{g:TG}(he:PE X e te)(hg:PG X tg g)(hs:swapsWithSole [tg] e pos.line X.env=pure false:=by rfl)(hw:swappedStores [tg] e X.env=pure none:=by rfl)
  (h1:(assignEach [tg] X.env).map (·.2)=[assign tg X.env]:=by rfl):PS X (.Assign [tg] e pos) (nZ te g):=by
 intro pins s σ H D I h;refine wpAny_Assign_stores (bU (he pins s σ H _ I h) λv s1 ⟨x,H1,I1,r1,q1⟩=>?_) hs hw;rw[h1];exact bU (hg pins s1 σ H1 x v _ I1 r1 q1) λ_ s2 q=>q
theorem ow{te:TE}{pos':Pos}(hN:X.N.Nodup)(hi:X.N[i]? =some x)(hx:Loc X.env.scope x)(he:PE X e te)(hs:swapsWith e (some (.Name x pos')) pos.line X.env=pure false:=by rfl)(hf:X.fn x=true∨X.env.scope.names.lookup x=some .local:=by first|exact .inl rfl|exact .inr rfl|assumption):
  PS X (.Assign [.Name x pos'] e pos) (nZ te (d7 i)):=by
 intro pins s σ H D I h;refine wpAny_Assign_Name (bU (he pins s σ H _ I h) λv s1 ⟨y,H1,I1,r1,q1⟩=>?_) hs;exact jo I1 hN hi hx r1 (λs2 I2=>⟨_,H1,I2,q1⟩) hf
end
section
variable{X:Cx}{pos:Pos}
noncomputable def wU(c:TT)(tb:TS):TS:=λD σ H=>∃W:Nat->St->Hp->Prop,(∃m,W m σ H)/\∀m σ H,W m σ H->
 c σ H λb H1=>if b=true then ∃N:St->Hp->Prop,(∀σ' H',N σ' H'->∃m',m'<m/\W m' σ' H')/\tb {D with nx:=N,ct:=N,bk:=D.nx} σ H1 else D.nx σ H1
theorem sG{body:List Stmt}{tc:TT}{tb:TS}(hp:PassesOwn (model X.prog X.w) X.A X.env X.xe)(hc:PT X c tc)(hb:PSs X body tb):PS X (.While c body [] pos) (wU tc tb):=by
 intro pins s σ H D I h;obtain⟨W,⟨m0,w0⟩,turn⟩:=h;refine wpAny_While (codeAny_whileLoop (λn s'=>∃σ' H',Inv X pins σ' H' s'/\W n σ' H') ?_ m0 ⟨σ,H,I,w0⟩);rintro n s1 ⟨σ1,H1,I1,w1⟩;refine wpAny_passesOwn hp (bU (hc pins s1 σ1 H1 _ I1 (turn n σ1 H1 w1)) λb s2 ⟨H2,I2,q2⟩=>?_);cases b with
 |true=>
  obtain⟨N,hN,q2⟩:=q2;rw[if_pos rfl];refine wpAny_passesOwn hp (bU (hb pins s2 σ1 H2 _ I2 q2) λf s3 q3=>?_);cases f with
  |next=>obtain⟨σ3,H3,I3,n3⟩:=q3;obtain⟨m',hm,w3⟩:=hN σ3 H3 n3;exact⟨m',hm,σ3,H3,I3,w3⟩
  |cont=>obtain⟨σ3,H3,I3,n3⟩:=q3;obtain⟨m',hm,w3⟩:=hN σ3 H3 n3;exact⟨m',hm,σ3,H3,I3,w3⟩
  |brk=>exact q3
  |ret v=>exact q3
 |false=>rw[if_neg aF];exact wpAny_execs_nil ⟨σ1,H2,I2,q2⟩
end
structure It where
 go:Nat->Hp->Prop
 yld:Nat->Hp->V->Hp->Prop
 stop:Nat->Hp->Prop
noncomputable def ei(X:Cx)(pins:List (Addr×Obj))(H:Hp)(b:Addr):Prop:=
 H b=none/\b≠X.env.locals/\b∉X.fs/\(b∈X.ex∨X.s₀.heap.objs.size<=b)/\(∀x c,X.env.cells.lookup x=some c->c≠b)/\∀p∈X.pn++pins,p.1≠b
theorem Inv.fpOk{X:Cx}{σ:St}{H H':Hp}(I:Inv X pins σ H s)(hb:s.heap.objs.size<=b)(hn:H' b=none):ei X pins H' b:=by
 refine⟨hn,bC (aw I.lt hb),I.nofs hb,.inr (az I.sz hb),λx c e z=>?_,λp hp z=>?_⟩
 ·obtain⟨v,q⟩:=I.cell x c e;exact absurd (aw q.lt (by rw[z];exact hb)) (bF _)
 ·exact absurd (aw (al (I.pin p hp).1) (by rw[z];exact hb)) (bF _)
structure Turn(P:Program)(w:World)(K:av)(tg:Expr)(J:It)(fp:List Addr)(it:Addr)(tn:Nat->Heap->Prop):Prop where
 mem:it∈fp
 obj:∀i h,tn i h->∀b∈fp,∃o,h.get? b=some o/\∀v,o.data≠ .cell v
 keep:∀i h h',tn i h->(∀b∈fp,∀o,h.get? b=some o->h'.get? b=some o)->tn i h'
 item:∀(X:Cx),X.prog=P->X.w=w->X.K=K->X.calm=true->∀(i:Nat)(pins:List (Addr×Obj))(s:Shared)(σ:St)(H:Hp)(E:Value->Shared->Prop),Inv X pins σ H s->(∀b∈fp,ei X pins H b)->tn i s.heap->J.go i H->
  wpAny (model P w) X.A (pyNext (.ref it)) (λr s1=>∃u,r=some u/\
   wpAny (model P w) X.A (letOwnedTupleGo tg (.ref it) u) (λ_ s2=>∃x H',Inv X pins σ H' s2/\RelV x u/\J.yld i H x H'/\tn (i+1) s2.heap/\∀b∈fp,H' b=none) E s1) E s
 done:∀(X:Cx),X.prog=P->X.w=w->X.K=K->X.calm=true->∀(i:Nat)(pins:List (Addr×Obj))(s:Shared)(σ:St)(H:Hp)(E:Value->Shared->Prop),Inv X pins σ H s->(∀b∈fp,ei X pins H b)->tn i s.heap->J.stop i H->
  wpAny (model P w) X.A (pyNext (.ref it)) (λr s1=>r=none/\Inv X pins σ H s1) E s
 self:∀(A:Around)(i:Nat)(s:Shared)(Q:Value->Shared->Prop)(E:Value->Shared->Prop),tn i s.heap->Q (.ref it) s->wpAny (model P w) A (pyIter (.ref it)) Q E s
noncomputable abbrev TI:=St->Hp->(It->Hp->Prop)->Prop
noncomputable def BP(X:Cx)(pins:List (Addr×Obj))(σ:St)(tg:Expr)(R:It->Hp->Prop)(itv:Value)(s2:Shared):Prop:=
 ∃(it:Addr)(fp:List Addr)(tn:Nat->Heap->Prop)(J:It)(H':Hp),itv=.ref it/\Inv X pins σ H' s2/\Turn X.prog X.w X.K tg J fp it tn/\tn 0 s2.heap/\(∀b∈fp,ei X pins H' b)/\R J H'
noncomputable def PI(X:Cx)(tg iter:Expr)(wi:TI):Prop:=
 ∀(pins:List (Addr×Obj))(s:Shared)(σ:St)(H:Hp)(R:It->Hp->Prop),Inv X pins σ H s->wi σ H R->
  wpAny (model X.prog X.w) X.A (eval iter X.env) (λv s1=>wpAny (model X.prog X.w) X.A (pyIter v) (BP X pins σ tg R) X.xe s1) X.xe s
theorem p0{M:Model}{n:String}{vs:Array Value}{Q:Unit->Shared->Prop}(ho:s.heap.get? it=some o)(hc:o.cls=.type n)(hd:o.data=.fields vs)
  (hn:["enumerate","zip","dict_itemiterator","dict_reverseitemiterator","odict_iterator","itertools.zip_longest","itertools.pairwise"].contains n=false) (hQ:Q () s):wpAny M A (letOwnedTupleGo tg (.ref it) u) Q E s:=by
 unfold letOwnedTupleGo
 cases tg<;>first
  |exact af hQ
  |(cases u<;>first
    |exact af hQ
    |(refine aa (wpAny_load ho ?_)
      rw[hc,hd];show wpAny M A (if(["enumerate","zip","dict_itemiterator","dict_reverseitemiterator","odict_iterator","itertools.zip_longest","itertools.pairwise"].contains n&&vs[0]? ==some (rawInt _))=true then _ else _) Q E s
      rw[if_neg (by intro h;rw[hn,Bool.false_and] at h;cases h)]
      exact af hQ))
noncomputable def AU(K:av)(a:Addr):It:=
 ⟨λi H=>∃xs x,fW K H a xs/\xs[i]? =some x,λi H x H'=>H'=H/\∀xs,fW K H a xs->xs[i]? =some x,λi H=>∃xs,fW K H a xs/\xs.length<=i⟩
noncomputable def BF(K:av)(a:Addr):It:=
 ⟨λi H=>∃xs x,f6 K H a xs/\xs[i]? =some x,λi H x H'=>H'=H/\∀xs,f6 K H a xs->xs[i]? =some x,λi H=>∃xs,f6 K H a xs/\xs.length<=i⟩
noncomputable def yX(lo:Int)(n:Nat):It:=⟨λi _=>i<n,λi H x H'=>H'=H/\x=.int (lo+i),λi _=>n<=i⟩
theorem qp{K:av}(a it:Addr):Turn P w K tg (AU K a) [it] it (λi h=>h.IsListIter it a i) where
 mem:=by simp
 obj:=λi h st b hb=>by
  have e:b=it:=by simpa using hb
  subst e;obtain⟨o,e,c,d⟩:=st;exact⟨o,e,λv z=>by rw[d] at z;cases z⟩
 keep:=λi h h' st k=>st.at λo e=>k it (by simp) o e
 item:=by
  intro X hP hw hK hc i pins s σ H E I hf st hg;subst hP hw hK;obtain⟨xs,x,hq,hx⟩:=hg;obtain⟨its,rv,p,hz⟩:=I.list hq;obtain⟨u,hu,ru⟩:=rv.get hx;obtain⟨f0,f1,f2,f3,f4,f5⟩:=hf it (by simp)
  refine wpAny_pyNext_list_item st p.isList (x:=u) (by simpa using hu) λh' st' sb=>?_
  have I1:Inv X pins σ H {s with heap:=h'}:=I.turned (t':=s.toks) (λb o hb e=>(sb.2 b hb).trans e) f0 f1 f3 f4 f5;obtain⟨o,e,c,d⟩:=id st';exact⟨u,rfl,p0 (s:={s with heap:=h'}) e c d (by decide) ⟨x,H,I1,ru,⟨rfl,λys hy=>by rw[I.list_inj hy hq];exact hx⟩,st',λb hb=>(hf b hb).1⟩⟩
 done:=by
  intro X hP hw hK hc i pins s σ H E I hf st hg;subst hP hw hK;obtain⟨xs,hq,hx⟩:=hg;obtain⟨its,rv,p,hz⟩:=I.list hq;obtain⟨f0,f1,f2,f3,f4,f5⟩:=hf it (by simp)
  have hl:=rv.length;exact wpAny_pyNext_list_end (I.ok.hd hc) st p.isList (by simp;omega) λh' eb=>⟨rfl,I.turned (t':=s.toks) (λb o hb e=>eb b o hb e) f0 f1 f3 f4 f5⟩
 self:=λ_ _ _ _ _ st h=>wpAny_pyIter_listiter st h
theorem nT{K:av}(a it:Addr):Turn P w K tg (BF K a) [it] it (λi h=>h.IsTupleIter it a i) where
 mem:=by simp
 obj:=λi h st b hb=>by
  have e:b=it:=by simpa using hb
  subst e;obtain⟨o,e,c,d⟩:=st;exact⟨o,e,λv z=>by rw[d] at z;cases z⟩
 keep:=λi h h' st k=>st.at λo e=>k it (by simp) o e
 item:=by
  intro X hP hw hK hc i pins s σ H E I hf st hg;subst hP hw hK;obtain⟨xs,x,hq,hx⟩:=hg;obtain⟨its,rv,p,hz⟩:=I.tuple hq;obtain⟨u,hu,ru⟩:=rv.get hx;obtain⟨f0,f1,f2,f3,f4,f5⟩:=hf it (by simp)
  refine wpAny_pyNext_tuple_item st (show s.heap.IsTuple a its.toArray from p) (x:=u) (by simpa using hu) λh' st' sb=>?_
  have I1:Inv X pins σ H {s with heap:=h'}:=I.turned (t':=s.toks) (λb o hb e=>(sb.2 b hb).trans e) f0 f1 f3 f4 f5;obtain⟨o,e,c,d⟩:=id st';exact⟨u,rfl,p0 (s:={s with heap:=h'}) e c d (by decide) ⟨x,H,I1,ru,⟨rfl,λys hy=>by rw[I.tuple_inj hy hq];exact hx⟩,st',λb hb=>(hf b hb).1⟩⟩
 done:=by
  intro X hP hw hK hc i pins s σ H E I hf st hg;subst hP hw hK;obtain⟨xs,hq,hx⟩:=hg;obtain⟨its,rv,p,hz⟩:=I.tuple hq;obtain⟨f0,f1,f2,f3,f4,f5⟩:=hf it (by simp)
  have hl:=rv.length;exact wpAny_pyNext_tuple_end (I.ok.hd hc) st (show s.heap.IsTuple a its.toArray from p) (by simp;omega) λh' eb=>⟨rfl,I.turned (t':=s.toks) (λb o hb e=>eb b o hb e) f0 f1 f3 f4 f5⟩
 self:=λ_ _ _ _ _ st h=>wpAny_pyIter_tupleiter st h
theorem nU{K:av}(it:Addr)(lo:Int)(n:Nat):Turn P w K tg (yX lo n) [it] it (λi h=>IsRangeIter h it (lo+(i:Nat)*1) ((n:Int) - (i:Nat)) 1) where
 mem:=by simp
 obj:=λi h st b hb=>by
  have e:b=it:=by simpa using hb
  subst e
  exact⟨_,st,λv z=>by have z':Data.fields _=Data.cell v:=z;cases z'⟩
 keep:=λi h h' st k=>k it (by simp) _ st
 item:=by
  intro X hP hw hK hc i pins s σ H E I hf st hg;subst hP hw hK;obtain⟨f0,f1,f2,f3,f4,f5⟩:=hf it (by simp)
  have W:=Walks.range (prog:=X.prog) (w:=X.w) (I.ok.hd hc) it lo 1 n;refine W.item i s _ _ hg st λv h' tk hv st' kk=>?_;obtain⟨t,rfl⟩:=hv;have I1:Inv X pins σ H {s with heap:=h',toks:=tk}:=I.turned (λb o hb e=>kk b o (by simpa using hb) e) f0 f1 f3 f4 f5
  refine⟨_,rfl,p0 (s:={s with heap:=h',toks:=tk}) (n:= "range_iterator") st' rfl rfl (by decide) ⟨.int (lo+i),H,I1,⟨t,?_⟩,⟨rfl,rfl⟩,st',λb hb=>(hf b hb).1⟩⟩
  rw[Int.mul_one]
 done:=by
  intro X hP hw hK hc i pins s σ H E I hf st hg;subst hP hw hK;obtain⟨f0,f1,f2,f3,f4,f5⟩:=hf it (by simp)
  exact wpAny_pyNext_range_end (I.ok.hd hc) st (by have:n<=i:=hg;omega) λh' eb=>⟨rfl,I.turned (t':=s.toks) (λb o hb e=>eb b o hb e) f0 f1 f3 f4 f5⟩
 self:=λ_ _ _ _ _ st h=>wpAny_pyIter_rangeiter st h
section
variable{X:Cx}{tg:Expr}
theorem mK{σ:St}{H:Hp}{R:It->Hp->Prop}{lo hi:Int}{t u v:Tok}{tk:Nat}(I:Inv X pins σ H s)(h1: -(2^62)<=lo)(h2:lo<2^62)(h3: -(2^62)<=hi)(h4:hi<2^62)
  (q:R (yX lo (hi - lo).toNat) H):wpAny (model X.prog X.w) X.A (pyIter (.ref s.heap.objs.size)) (BP X pins σ tg R) E {s with heap:=s.heap.push {cls:= .type "range",data:= .fields #[.int lo t,.int hi u,.int 1 v]},toks:=tk}:=by
 refine wpAny_pyIter_range (IsRange.new ..) (small_one h1 h2 h3 h4) ?_;have I1:Inv X pins σ H {s with heap:=s.heap.push {cls:= .type "range",data:= .fields #[.int lo t,.int hi u,.int 1 v]},toks:=tk}:=I.kept λb o e=>ae _ e
 refine⟨(s.heap.push {cls:= .type "range",data:= .fields #[.int lo t,.int hi u,.int 1 v]}).objs.size,[(s.heap.push {cls:= .type "range",data:= .fields #[.int lo t,.int hi u,.int 1 v]}).objs.size],_,_,H,rfl,
  I1.kept (t':=tk) λb o e=>ae _ e,nU _ lo (hi - lo).toNat,?_,λb hb=>?_,q⟩
 ·have e1:lo+((0:Nat):Int)*1=lo:=by simp
  have e2:(((hi - lo).toNat:Nat):Int) - ((0:Nat):Int)=Builtin.Range.rangeSize lo hi 1:=by rw[rangeSize_one];split<;>omega
  show IsRangeIter _ _ (lo+((0:Nat):Int)*1) ((((hi - lo).toNat:Nat):Int) - ((0:Nat):Int)) 1;rw[e1,e2];exact am _ rfl
 ·have e:b=(s.heap.push {cls:= .type "range",data:= .fields #[.int lo t,.int hi u,.int 1 v]}).objs.size:=by simpa using hb
  subst e;exact I1.fpOk (ah _) (I1.hok.fresh (ah _))
noncomputable def wG(ta:TA):TI:=λσ H R=>ta σ H λvs H1=>∃j:Int,vs=[.int j]/\ -(2^62)<=j/\j<2^62/\R (yX 0 j.toNat) H1
noncomputable def Ad(ta:TA):TI:=λσ H R=>ta σ H λvs H1=>∃i j:Int,vs=[.int i,.int j]/\(-(2^62)<=i/\i<2^62/\ -(2^62)<=j/\j<2^62)/\R (yX i (j - i).toNat) H1
theorem kr{a:Expr}{ta:TA}(hg:Gl X "range")(hm:X.mg "range"=none)(ha:PA X [a] ta)(hs:starEach [a] X.env=[(false,eval a X.env)]:=by rfl):PI X tg (.Call (.Name "range" p) [a] [] pos) (wG ta):=by
 intro pins s σ H R I h;refine Call_ (iq I hg hm boot_range (bu (bU (ha pos pins s σ H _ I h) λus s1 ⟨vs,H1,I1,r1,q1⟩=>?_) hs rfl));obtain⟨j,e,q1,q2,q⟩:=q1;subst e;cases r1 with
 |cons r rr=>
  cases rr;obtain⟨t,rfl⟩:=r;exact call_range_1 (mK I1 (by omega) (by omega) q1 q2 (by simpa using q))
theorem qB{a b:Expr}{ta:TA}(hg:Gl X "range")(hm:X.mg "range"=none)(ha:PA X [a,b] ta)(hs:starEach [a,b] X.env=[(false,eval a X.env),(false,eval b X.env)]:=by rfl)(hs2:starEach [b] X.env=[(false,eval b X.env)]:=by rfl):
  PI X tg (.Call (.Name "range" p) [a,b] [] pos) (Ad ta):=by
 intro pins s σ H R I h;refine Call_ (iq I hg hm boot_range (bu (bU (ha pos pins s σ H _ I h) λus s1 ⟨vs,H1,I1,r1,q1⟩=>?_) (by rw[hs,hs2]) (by rw[hs2];rfl)))
 obtain⟨i,j,e,⟨q1,q2,q3,q4⟩,q⟩:=q1;subst e;cases r1 with
 |cons r rr=>
  cases rr with
  |cons r' rr=>cases rr;obtain⟨t,rfl⟩:=r;obtain⟨t',rfl⟩:=r';exact call_range_2 (mK I1 q1 q2 q3 q4 q)
noncomputable def A4(wi:TI)(g:TG)(tb:TS):TS:=λD σ H=>wi σ H λJ H1=>∃W:Nat->Nat->St->Hp->Prop,(∃m,W 0 m σ H1)/\∀i m σ H,W i m σ H->
 (J.stop i H/\D.nx σ H)∨(J.go i H/\∃N:St->Hp->Prop,(∀σ' H',N σ' H'->∃m',m'<m/\W (i+1) m' σ' H')/\∀x H',J.yld i H x H'->g x σ H' λσ2 H2=>tb {D with nx:=N,ct:=N,bk:=D.nx} σ2 H2)
noncomputable def ik(fp:List Addr)(h:Heap):List (Addr×Obj):=fp.filterMap λb=>(h.get? b).map λo=>(b,o)
theorem cQ(hb:b∈fp)(e:h.get? b=some o):(b,o)∈ik fp h:=List.mem_filterMap.mpr ⟨b,hb,by rw[e];rfl⟩
theorem qH{p:Addr×Obj}(hp:p∈ik fp h):p.1∈fp/\h.get? p.1=some p.2:=by
 obtain⟨b,hb,e⟩:=List.mem_filterMap.mp hp;cases q:h.get? b with
 |none=>rw[q] at e;cases e
 |some o=>rw[q] at e;have e':(b,o)=p:=ai e;subst e';exact⟨hb,q⟩
theorem Inv.pinned{σ:St}{H:Hp}(I:Inv X pins σ H s)(hf:∀b∈fp,ei X pins H b)(ho:∀b∈fp,∃o,s.heap.get? b=some o/\∀v,o.data≠ .cell v):Inv X (pins++ik fp s.heap) σ H s:=
 I.pins_of λp hp=>(List.mem_append.mp hp).elim (λz=>I.pin p (aH _ z)) λz=>by obtain⟨hb,e⟩:=qH z;obtain⟨f0,f1,f2,_⟩:=hf p.1 hb;obtain⟨o,e',d⟩:=ho p.1 hb;rw[e] at e';cases e';exact⟨e,f0,f1,f2,d⟩
theorem Inv.unpinned{pl:List (Addr×Obj)}{σ:St}{H:Hp}(I:Inv X (pins++pl) σ H s):Inv X pins σ H s:=I.pins_of λp hp=>I.pin p (aH _ (List.mem_append_left _ hp))
theorem ju{iter:Expr}{body:List Stmt}{wi:TI}{g:TG}{tb:TS}(hp:PassesOwn (model X.prog X.w) X.A X.env X.xe)(hc:X.calm=true)(hi:PI X tg iter wi)(hg:PG X tg g)(hb:PSs X body tb)
  (hs:∀x,foldedSetIterable iter X.env x=pure x:=by intro _;rfl):PS X (.For tg iter body [] pos) (A4 wi g tb):=by
 intro pins s σ H D I h;refine wpAny_For (bU (hi pins s σ H _ I h) λv s1 h1=>bU h1 λitv s2 h2=>?_) hs;obtain⟨it,fp,tn,J,H2,e,I2,T,st2,f2,W,⟨m0,w0⟩,turn⟩:=h2;subst e;have stat:∀{H':Hp},(∀b∈fp,H' b=none)->∀b∈fp,ei X pins H' b:=λhn b hb=>⟨hn b hb,(f2 b hb).2⟩;refine codeAny_forLoop_any (λn s'=>∃i σ' H',Inv X pins σ' H' s'/\tn i s'.heap/\(∀b∈fp,H' b=none)/\W i n σ' H') ?_ m0 ⟨0,σ,H2,I2,st2,λb hb=>(f2 b hb).1,w0⟩;rintro n s3 ⟨i,σ3,H3,I3,st3,fr3,w3⟩;rcases turn i n σ3 H3 w3 with⟨stop,qn⟩|⟨go,N,hN,step⟩
 ·refine wpAny_passesOwn hp (bU (T.done X rfl rfl rfl hc i pins s3 σ3 H3 X.xe I3 (stat fr3) st3 stop) λr s4 ⟨hr,I4⟩=>?_);subst hr;exact wpAny_execs_nil ⟨σ3,H3,I4,qn⟩
 ·refine wpAny_passesOwn hp (bU (T.item X rfl rfl rfl hc i pins s3 σ3 H3 X.xe I3 (stat fr3) st3 go) λr s4 hp=>?_);obtain⟨u,hr,h4⟩:=hp;subst hr;refine wpAny_passesOwn hp (bU h4 λ_ s5 hp=>?_);obtain⟨x,H5,I5,r5,y5,st5,fr5⟩:=hp;have I5':=I5.pinned (stat fr5) (T.obj _ _ st5);refine wpAny_passesOwn hp (bU (hg _ s5 σ3 H5 x u _ I5' r5 (step x H5 y5)) λ_ s6 hp=>?_);obtain⟨σ6,H6,I6,q6⟩:=hp;refine wpAny_passesOwn hp (bU (hb _ s6 σ6 H6 _ I6 q6) λf s7 q7=>?_)
  have again:∀{σ7:St}{H7:Hp},Inv X (pins++ik fp s5.heap) σ7 H7 s7->N σ7 H7->∃m,m<n/\∃i σ' H',Inv X pins σ' H' s7/\tn i s7.heap/\(∀b∈fp,H' b=none)/\W i m σ' H':=λ{σ7 H7} I7 n7=>by obtain⟨m',hm,w7⟩:=hN σ7 H7 n7;refine⟨m',hm,i+1,σ7,H7,I7.unpinned,T.keep _ _ _ st5 λb hb o e=>(I7.pin (b,o) (aH _ (aH _ (cQ hb e)))).1,λb hb=>?_,w7⟩;obtain⟨o,e,d⟩:=T.obj _ _ st5 b hb;exact(I7.pin (b,o) (aH _ (aH _ (cQ hb e)))).2.1
  cases f with
  |next=>obtain⟨σ7,H7,I7,n7⟩:=q7;exact again I7 n7
  |cont=>obtain⟨σ7,H7,I7,n7⟩:=q7;exact again I7 n7
  |brk=>obtain⟨σ7,H7,I7,q7⟩:=q7;exact⟨σ7,H7,I7.unpinned,q7⟩
  |ret v=>obtain⟨x7,σ7,H7,I7,r7,q7⟩:=q7;exact⟨x7,σ7,H7,I7.unpinned,r7,q7⟩
end
noncomputable abbrev R2:=V->V->Hp->VK->Prop
noncomputable def i5(X:Cx)(f:Value->Value->Sem Value)(r:R2):Prop:=
 ∀(pins:List (Addr×Obj))(s:Shared)(σ:St)(H:Hp)(x y:V)(v u:Value)(Q:VK),Inv X pins σ H s->RelV x v->RelV y u->r x y H Q->
  wpAny (model X.prog X.w) X.A (f v u) (EP X pins σ Q) X.xe s
noncomputable def eZ(X:Cx)(f:Value)(r:List V->Hp->VK->Prop):Prop:=
 ∀(pins:List (Addr×Obj))(s:Shared)(σ:St)(H:Hp)(xs:List V) (us:List Value)(Q:VK),Inv X pins σ H s->bm xs us->r xs H Q->
  wpAny (model X.prog X.w) X.A (call f us) (EP X pins σ Q) X.xe s
noncomputable def wV(r:R2)(ta tb:TE):TE:=λσ H Q=>ta σ H λx H1=>tb σ H1 λy H2=>r x y H2 Q
noncomputable def rI(C:Int->Int->Prop)(g:Int->Int->V):R2:=λx y H Q=>∃i j,x=.int i/\y=.int j/\C i j/\Q (g i j) H
noncomputable def xq(g:Int->Int->V):R2:=λx y H Q=>∃i j,x=.int i/\y=.int j/\Q (g i j) H
section
variable{X:Cx}{a b:Expr}{ta tb:TE}{pos:Pos}
theorem yK(ha:PE X a ta)(hb:PE X b tb){σ:St}{H:Hp}{R:V->V->Hp->Prop}(I:Inv X pins σ H s)
  (h:ta σ H λx H1=>tb σ H1 λy H2=>R x y H2)
  (hf:∀v u s2 x y H2,Inv X pins σ H2 s2->RelV x v->RelV y u->R x y H2->wpAny (model X.prog X.w) X.A (f v u) Q X.xe s2):
  wpAny (model X.prog X.w) X.A (eval a X.env) (λv s₁=>wpAny (model X.prog X.w) X.A (eval b X.env) (λu s₂=>wpAny (model X.prog X.w) X.A (f v u) Q X.xe s₂) X.xe s₁) X.xe s:=by
 refine bU (ha pins s σ H _ I h) λv s1 hp=>?_;obtain⟨x,H1,I1,r1,q1⟩:=hp;refine bU (hb pins s1 σ H1 _ I1 q1) λu s2 hp=>?_;obtain⟨y,H2,I2,r2,q2⟩:=hp;exact hf v u s2 x y H2 I2 r1 r2 q2
theorem zN{op:Operator}{r:R2}(ho:i5 X (binaryOp op) r)(ha:PE X a ta)(hb:PE X b tb):PE X (.BinOp a op b pos) (wV r ta tb):=by intro pins s σ H Q I h;exact wpAny_BinOp (yK ha hb I h λv u s2 x y H2 I2 rx ry q=>ho pins s2 σ H2 x y v u Q I2 rx ry q)
theorem AO{C:Int->Int->Prop}{g:Int->Int->Int}
  (rule:∀(i j:Int)(t u:Tok)(s:Shared)(Q:Value->Shared->Prop)(E:Value->Shared->Prop),C i j->Q (.int (g i j) s.toks) {s with toks:=s.toks+1}->wpAny (model X.prog X.w) X.A (f (.int i t) (.int j u)) Q E s):
  i5 X f (rI C λi j=>.int (g i j)):=by
 intro pins s σ H x y v u Q I rx ry h;obtain⟨i,j,rfl,rfl,hc,q⟩:=h;obtain⟨t,rfl⟩:=rx;obtain⟨t',rfl⟩:=ry;exact rule i j t t' s _ _ hc ⟨.int (g i j),H,I.tok _,⟨_,rfl⟩,q⟩
theorem zS{g:Int->Int->Int}
  (rule:∀(i j:Int)(t u:Tok)(s:Shared)(Q:Value->Shared->Prop)(E:Value->Shared->Prop),Q (.int (g i j) s.toks) {s with toks:=s.toks+1}->wpAny (model X.prog X.w) X.A (f (.int i t) (.int j u)) Q E s):
  i5 X f (xq λi j=>.int (g i j)):=by
 intro pins s σ H x y v u Q I rx ry h;obtain⟨i,j,rfl,rfl,q⟩:=h;obtain⟨t,rfl⟩:=rx;obtain⟨t',rfl⟩:=ry;exact rule i j t t' s _ _ ⟨.int (g i j),H,I.tok _,⟨_,rfl⟩,q⟩
theorem xW{g:Int->Int->Bool}
  (rule:∀(i j:Int)(t u:Tok)(s:Shared)(Q:Value->Shared->Prop)(E:Value->Shared->Prop),Q (.bool (g i j)) s->wpAny (model X.prog X.w) X.A (f (.int i t) (.int j u)) Q E s):
  i5 X f (xq λi j=>.bl (g i j)):=by
 intro pins s σ H x y v u Q I rx ry h;obtain⟨i,j,rfl,rfl,q⟩:=h;obtain⟨t,rfl⟩:=rx;obtain⟨t',rfl⟩:=ry;exact rule i j t t' s _ _ ⟨.bl (g i j),H,I,rfl,q⟩
noncomputable def BH(i j:Int):Prop:=0<=j/\j<=1000000/\i.natAbs<2^64
noncomputable def yQ(i j:Int):Prop:=(-(2^64)<i/\i<2^64)∨(-(2^64)<j/\j<2^64)
theorem yQ.ok{i j:Int}(h:yQ i j):IntMulOk i j:=by
 rcases h with⟨h1,h2⟩|⟨h1,h2⟩
 ·exact .of_left (intBits_le_64 h1 h2)
 ·exact .of_right (intBits_le_64 h1 h2)
theorem xV:i5 X (binaryOp .Add) (xq λi j=>.int (i+j)):=zS λ_ _ _ _ _ _ _ q=>add_int q
theorem xO:i5 X (binaryOp .Sub) (xq λi j=>.int (i - j)):=zS λ_ _ _ _ _ _ _ q=>sub_int q
theorem vp:i5 X (binaryOp .Mod) (rI (λ_ j=>j≠0) λi j=>.int (i.fmod j)):=AO λ_ _ _ _ _ _ _ hc q=>mod_int' hc q
theorem xQ:i5 X (binaryOp .Pow) (rI BH λi j=>.int (i^j.toNat)):=AO λ_ _ _ _ _ _ _ hc q=>pow_int_small hc.1 hc.2.1 hc.2.2 q
end
section
variable{X:Cx}{a b c:Expr}{ta tb tc:TE}{pos:Pos}
theorem zP:i5 X (compareOp .Lt) (xq λi j=>.bl (decide (i<j))):=xW λ_ _ _ _ _ _ _ q=>lt_int q
theorem zQ:i5 X (compareOp .LtE) (xq λi j=>.bl (decide (i<=j))):=xW λ_ _ _ _ _ _ _ q=>le_int q
theorem zR:i5 X (compareOp .Gt) (xq λi j=>.bl (decide (j<i))):=xW λ_ _ _ _ _ _ _ q=>gt_int q
theorem vm{op:CmpOp}{r:R2}(ho:i5 X (compareOp op) r)(ha:PE X a ta)(hb:PE X b tb)(hm:behindInMarks op b=false):PE X (.Compare a [op] [b] pos) (wV r ta tb):=by intro pins s σ H Q I h;exact wpAny_Compare1 (yK ha hb I h λv u s2 x y H2 I2 rx ry q=>ho pins s2 σ H2 x y v u Q I2 rx ry q) hm
noncomputable def o9(t:TE):TT:=λσ H Q=>t σ H λx H'=>∃k,x=.bl k/\Q k H'
theorem pD{op:CmpOp}{r:R2}(ho:i5 X (compareOp op) r)(ha:PE X a ta)(hb:PE X b tb)(hm:behindInMarks op b=false):PT X (.Compare a [op] [b] pos) (o9 (wV r ta tb)):=by
 intro pins s σ H Q I h
 refine wpAny_isTrue_Compare1 (bU (ha pins s σ H _ I h) λv s1 ⟨x,H1,I1,r1,q1⟩=>bU (hb pins s1 σ H1 _ I1 q1) λu s2 ⟨y,H2,I2,r2,q2⟩=>
  bU (ho pins s2 σ H2 x y v u _ I2 r1 r2 q2) λc s3 ⟨z,H3,I3,r3,k,e,q3⟩=>?_) hm
 subst e;cases r3;exact wpAny_truthy_bool ⟨H3,I3,q3⟩
noncomputable def nY(r r':R2)(ta tb tc:TE):TE:=λσ H Q=>ta σ H λx H1=>tb σ H1 λy H2=>r x y H2 λz H3=>∃k,z=.bl k/\
 (if k=true then tc σ H3 λw' H4=>r' y w' H4 Q else Q (.bl false) H3)
theorem sQ{op op':CmpOp}{r r':R2}(ho:i5 X (compareOp op) r)(ho':i5 X (compareOp op') r')(ha:PE X a ta)(hb:PE X b tb)(hc:PE X c tc)
  (hm:lastMarks [op,op'] [b,c]=false:=by with_unfolding_all rfl):PE X (.Compare a [op,op'] [b,c] pos) (nY r r' ta tb tc):=by
 intro pins s σ H Q I h
 refine Compare_chain (bU (ha pins s σ H _ I h) λv s1 ⟨x,H1,I1,r1,q1⟩=>chain_link (bU (hb pins s1 σ H1 _ I1 q1) λu s2 ⟨y,H2,I2,r2,q2⟩=>
  bU (ho pins s2 σ H2 x y v u _ I2 r1 r2 q2) λd s3 ⟨z,H3,I3,r3,k,e,q3⟩=>?_)) hm
 subst e;cases r3;refine wpAny_truthy_bool ?_;cases k with
 |false=>exact ite_ff ⟨.bl false,H3,I3,rfl,q3⟩
 |true=>exact ite_tt (chain_last (bU (hc pins s3 σ H3 _ I3 q3) λw' s4 ⟨z',H4,I4,r4,q4⟩=>ho' pins s4 σ H4 y z' u w' Q I4 r2 r4 q4))
theorem sE{op op':CmpOp}{r r':R2}(ho:i5 X (compareOp op) r)(ho':i5 X (compareOp op') r')(ha:PE X a ta)(hb:PE X b tb)(hc:PE X c tc)
  (hm:lastMarks [op,op'] [b,c]=false:=by with_unfolding_all rfl):PT X (.Compare a [op,op'] [b,c] pos) (o9 (nY r r' ta tb tc)):=by
 intro pins s σ H Q I h
 refine isTrue_chain (bU (ha pins s σ H _ I h) λv s1 ⟨x,H1,I1,r1,q1⟩=>test_link (bU (hb pins s1 σ H1 _ I1 q1) λu s2 ⟨y,H2,I2,r2,q2⟩=>
  bU (ho pins s2 σ H2 x y v u _ I2 r1 r2 q2) λd s3 ⟨z,H3,I3,r3,k,e,q3⟩=>?_)) hm
 subst e;cases r3;refine wpAny_truthy_bool ?_;cases k with
 |false=>obtain⟨k',e',q'⟩:=q3;cases e';exact ite_ff ⟨H3,I3,q'⟩
 |true=>refine ite_tt (test_last (bU (hc pins s3 σ H3 _ I3 q3) λw' s4 ⟨z',H4,I4,r4,q4⟩=>bU (ho' pins s4 σ H4 y z' u w' _ I4 r2 r4 q4) λd' s5 hp=>?_));obtain⟨z2,H5,I5,r5,k2,e2,q5⟩:=hp;subst e2;cases r5;exact wpAny_truthy_bool ⟨H5,I5,q5⟩
theorem lG:(sizeLine:Nat)<2^63:=by rw[sizeLine_eq];decide
theorem vals1{x:V}(r:bm [x] us):∃u,us=[u]/\RelV x u:=by
 cases r with
 |cons r1 r2=>cases r2;exact⟨_,rfl,r1⟩
theorem vals2{x y:V}(r:bm [x,y] us):∃u w',us=[u,w']/\RelV x u/\RelV y w':=by
 cases r with
 |cons r1 r2=>
  cases r2 with
  |cons r3 r4=>cases r4;exact⟨_,_,rfl,r1,r3⟩
theorem rg(hc:X.calm=true):eZ X (.builtin "max") (λxs H Q=>∃i j,xs=[.int i,.int j]/\Q (.int (if j>i then j else i)) H):=by
 intro pins s σ H xs us Q I r h;obtain⟨i,j,rfl,q⟩:=h;obtain⟨u,w',rfl,⟨t,rfl⟩,⟨t',rfl⟩⟩:=vals2 r;refine max_two_ints (I.ok.hd hc) λh' tk k=>⟨_,H,I.kept k,?_,q⟩;by_cases hj:j>i
 ·rw[if_pos hj,if_pos hj];exact⟨_,rfl⟩
 ·rw[if_neg hj,if_neg hj];exact⟨_,rfl⟩
theorem rf(hc:X.calm=true):eZ X (.builtin "min") (λxs H Q=>∃i j,xs=[.int i,.int j]/\Q (.int (if j<i then j else i)) H):=by
 intro pins s σ H xs us Q I r h;obtain⟨i,j,rfl,q⟩:=h;obtain⟨u,w',rfl,⟨t,rfl⟩,⟨t',rfl⟩⟩:=vals2 r;refine min_two_ints (I.ok.hd hc) λh' tk k=>⟨_,H,I.kept k,?_,q⟩;by_cases hj:j<i
 ·rw[if_pos hj,if_pos hj];exact⟨_,rfl⟩
 ·rw[if_neg hj,if_neg hj];exact⟨_,rfl⟩
theorem rh:eZ X (.type "int") (λxs H Q=>(∃i,xs=[.int i]/\Q (.int i) H)∨∃k,xs=[.bl k]/\Q (.int (if k then 1 else 0)) H):=by
 intro pins s σ H xs us Q I r h;rcases h with⟨i,rfl,q⟩|⟨k,rfl,q⟩
 ·obtain⟨u,rfl,t,rfl⟩:=vals1 r;exact call_int_int ⟨.int i,H,I,⟨_,rfl⟩,q⟩
 ·obtain⟨u,rfl,r1⟩:=vals1 r;cases r1;exact call_int_bool ⟨.int (if k then 1 else 0),H,I.tok _,⟨_,rfl⟩,q⟩
end
structure ObjM(h:Heap)(x dx C:Addr)(mA:Str->Option Value):Prop where
 obj:h.get? x=some (PySem.W.instObj C dx)
 ns:h.Ns1 dx mA
 ne:dx≠x
theorem qL(n:h.Ns1 dx mA):∃od,h.get? dx=some od/\∀name,PySem.W.lookIn name od=some (mA name):=by
 obtain⟨o,es,ep,ho,hd,hk,_,hm⟩:=n;refine⟨o,ho,λname=>?_⟩;have e:=hm name;unfold nsFind findBy at e;rw[<-Array.find?_toList] at e;unfold PySem.W.lookIn;rw[hd];dsimp only;split
 ·rename_i y q;rw[q] at e;exact congrArg some e
 ·rename_i q;rw[q] at e
  have a:es.toList.any (·.refKey)=false:=by rw[List.any_eq_false];intro y hy;obtain⟨z,t,hkey⟩:=hk y (Array.mem_toList_iff.mp hy);simp[DictEntry.refKey,hkey]
  have a':¬es.toList.any (·.refKey)=true:=by rw[a];exact aF
  rw[if_neg a'];exact congrArg some e
theorem ObjM.look{x:Addr}(I:ObjM h x dx C mA):∃od,PySem.W.InstAt h x (PySem.W.instObj C dx) C (some od)/\∀name,PySem.W.lookIn name od=some (mA name):=
 let⟨od,ho,hl⟩:=qL I.ns
 ⟨od,⟨I.obj,rfl,rfl,ho⟩,hl⟩
section
variable{prog:Program}{w:World}{A:Around}{E:Value->Shared->Prop}{s:Shared}{K:av}{x dx C f:Addr}{mA:Str->Option Value}{name:Str}{v:Value}
theorem vS{expr:Bool}(X:K.In s.heap)(I:ObjM s.heap x dx C mA)(hg:PySem.W.plainGet K C name=true)(hh:PySem.W.hasDictIn K C=true)
  (ha:PySem.W.findIn K (.ref C) name=some none)(hv:mA name=some v)(hv':PySem.W.handedIn v=true)(h:Q v {s with toks:=s.toks+1}):
  wpAny (model prog w) A (getAttr (.ref x) name expr) Q E s:=by
 obtain⟨od,J,hl⟩:=I.look;exact PySem.W.get_value X J (PySem.W.plainGet_of hg).1 (PySem.W.findObj_own hh ha rfl (by rw[hl,hv])) hv' h
theorem tQ{pl:Sem Bool}{Q:Value×List Value->Shared->Prop}(X:K.In s.heap)(I:ObjM s.heap x dx C mA)(hg:PySem.W.plainGet K C name=true)
  (hf:PySem.W.findIn K (.ref C) name=some (some (.ref f)))(ht:PySem.W.isFn K (.ref f)=true)(hv:mA name=none)(h:Q (.ref f,[.ref x]) s):
  wpAny (model prog w) A (getMethod (.ref x) name pl) Q E s:=by
 obtain⟨od,J,hl⟩:=I.look;exact PySem.W.method_fn X J (PySem.W.plainGet_of hg).1 (PySem.W.plainGet_of hg).2 hf (beq_iff_eq.mp ht) (by show(PySem.W.lookIn name od).map (·.isSome)=some false;rw[hl,hv];rfl) h
theorem uY{ns:List Str}{Q:Unit->Shared->Prop}(X:K.In s.heap)(I:ObjM s.heap x dx C mA)
  (hs:PySem.W.findIn K (.ref C) "__setattr__"=some (some (.builtin "object.__setattr__"))) (hp:PySem.W.plainOver K C=true)(ht:PySem.W.takerIn K C name=some none)(hh:PySem.W.hasDictIn K C=true)
  (hw:PySem.Within mA ns)(hsz:ns.length<=sizeLine)
  (h:∀h',ObjM h' x dx C (λy=>if y=name then some v else mA y)->Heap.SameBut dx s.heap h'->Q () {s with heap:=h',toks:=s.toks+2}):
  wpAny (model prog w) A (setAttr (.ref x) name v) Q E s:=by
 obtain⟨od,J,hl⟩:=I.look;refine PySem.W.set_plain X J hs (PySem.W.osa_open (s:={s with toks:=s.toks+1}) (r:=none) X J hp ht λb=>?_);obtain⟨cd,hc,hd'⟩:=PySem.W.any_some hh;have hx:s.heap.get? x=some ⟨.ref C,some dx,.plain,#[]⟩:=I.obj;refine aa (af (aa (aa (wpAny_loadPart hx (aa (PySem.W.Looks.here (s:={s with toks:=s.toks+1}) (PySem.W.looks_clsIn X hc) ?_))))));rw[hd'];refine af (a:=some dx) (aa (af (aa ?_)));refine wpAny_nsSet1 (s:={s with toks:=s.toks+1}) I.ns λh' hn2 hs2=>?_;obtain⟨oD,esD,epD,hoD,hdD,hcD⟩:=hn2.count (PySem.Within.cons name v hw);refine aa (wpAny_lookBehind hoD (by rw[hdD];exact pastItsLine_dict (az hcD (by rw[List.length_cons];omega))) ?_)
 exact af (h _ ⟨(hs2.2 _ (Ne.symm I.ne)).trans I.obj,hn2,I.ne⟩ hs2)
theorem s_{R:Result->Shared->Prop}{vs:List Value}(X:K.In s.heap)(hm:PySem.W.makesIn K C=true)
  (hi:PySem.W.findIn K (.ref C) "__init__"=some (some (.ref f))) (hf:PySem.W.typeIn K (.ref f)=some (.type "function"))
  (h:codeAny (model prog w) (A.under (.builtin "type.__call__" ⟨.ref C::vs,kw⟩)) (.call (.ref f) ⟨.ref (s.heap.objs.size+1)::vs,kw⟩) (PySem.W.InitBack (s.heap.objs.size+1) R)
   {s with heap:=(s.heap.push PySem.W.emptyDict).push (PySem.W.instObj C s.heap.objs.size)}):
  codeAny (model prog w) A (.call (.ref C) ⟨vs,kw⟩) R s:=by
 obtain⟨hh,g,d,t,os⟩:=s;exact PySem.W.make_core (PySem.W.makes_of X hm) (PySem.W.looks_findIn X hi) (λself=>PySem.W.bind_fn X self hf) (.inl rfl) h
end
noncomputable def dz(f:Str)(v:V):List (Str×V)->List (Str×V)
 |[]=>[(f,v)]
 |(g,x)::r=>if g=f then(g,v)::r else(g,x)::dz f v r
theorem iK(f g:Str)(v:V):∀fs:List (Str×V),(dz f v fs).lookup g=if g=f then some v else fs.lookup g
 |[]=>by
  show List.lookup g [(f,v)]=_;by_cases h:g=f
  ·have hb:(g==f)=true:=beq_iff_eq.mpr h;simp only[List.lookup,hb,if_pos h]
  ·have hb:(g==f)=false:=beq_eq_false_iff_ne.mpr h;simp only[List.lookup,hb,if_neg h]
 |(k,x)::r=>by
  have ih:=iK f g v r;rw[show dz f v ((k,x)::r)=(if k=f then(k,v)::r else(k,x)::dz f v r) from rfl]
  by_cases hk:k=f
  ·rw[if_pos hk];by_cases h:g=k
   ·have hb:(g==k)=true:=beq_iff_eq.mpr h;simp only[List.lookup,hb,if_pos (h.trans hk)]
   ·have hb:(g==k)=false:=beq_eq_false_iff_ne.mpr h;simp only[List.lookup,hb,if_neg (λe:g=f=>h (e.trans hk.symm))]
  ·rw[if_neg hk];by_cases h:g=k
   ·have hb:(g==k)=true:=beq_iff_eq.mpr h;simp only[List.lookup,hb,if_neg (λe:g=f=>hk (h.symm.trans e))]
   ·have hb:(g==k)=false:=beq_eq_false_iff_ne.mpr h;simp only[List.lookup,hb];exact ih
theorem ir(f:Str)(v:V):∀fs:List (Str×V),f∈(dz f v fs).map (·.1)/\∀g,g∈fs.map (·.1)->g∈(dz f v fs).map (·.1)
 |[]=>⟨by simp[dz],λg h=>by simp at h⟩
 |(k,x)::r=>by
  obtain⟨i1,i2⟩:=ir f v r;rw[show dz f v ((k,x)::r)=(if k=f then(k,v)::r else(k,x)::dz f v r) from rfl]
  by_cases hk:k=f
  ·rw[if_pos hk];subst hk;exact⟨by simp,λg h=>by simpa using h⟩
  ·rw[if_neg hk];refine⟨?_,λg h=>?_⟩
   ·rw[List.map_cons];exact List.mem_cons_of_mem _ i1
   ·rw[List.map_cons] at h ⊢;rcases List.mem_cons.mp h with e|e
    ·exact List.mem_cons.mpr (.inl e)
    ·exact List.mem_cons_of_mem _ (i2 g e)
theorem ft(f:Str)(v:V):∀fs:List (Str×V),(dz f v fs).length<=fs.length+1
 |[]=>by simp[dz]
 |(k,x)::r=>by
  have ih:=ft f v r;rw[show dz f v ((k,x)::r)=(if k=f then(k,v)::r else(k,x)::dz f v r) from rfl]
  by_cases hk:k=f
  ·rw[if_pos hk,List.length_cons,List.length_cons];omega
  ·rw[if_neg hk,List.length_cons,List.length_cons];omega
theorem fe.some_of{v:V}{o:Option Value}(r:fe (some v) o):∃u,o=some u/\RelV v u:=by
 cases o with
 |none=>exact(show False from r).elim
 |some u=>exact⟨u,rfl,r⟩
theorem fe.none_of{o:Option Value}(r:fe none o):o=none:=by
 cases o with
 |none=>rfl
 |some u=>exact(show False from r).elim
theorem qU{v:V}(r:RelV v u):PySem.W.handedIn u=true:=by
 cases v with
 |non=>cases(show u=Value.none from r);rfl
 |bl b=>cases(show u=Value.bool b from r);rfl
 |int i=>obtain⟨t,e⟩:=(show ∃t,u=Value.int i t from r);cases e;rfl
 |str x=>obtain⟨t,e⟩:=(show ∃t,u=Value.str x t from r);cases e;rfl
 |byt b=>obtain⟨t,e⟩:=(show ∃t,u=Value.bytes b t from r);cases e;rfl
 |flt b=>obtain⟨t,e⟩:=(show ∃t,u=Value.float b t from r);cases e;rfl
 |ref a=>cases(show u=Value.ref a from r);rfl
 |ty n=>cases(show u=Value.type n from r);rfl
section
variable{P:Program}{w:World}{H:Hp}{h:Heap}{a C dx:Addr}{fs:List (Str×V)}
theorem ja(hok:gb P w H h)(e:H a=some (.ins C dx fs)):∃mA,ObjM h a dx C mA/\(∀f,fe (fs.lookup f) (mA f))/\PySem.Within mA (fs.map (·.1))/\fs.length<=1000/\H dx=some (.own a):=by obtain⟨d,z,ne,ob,mA,n,r,q⟩:=(show bM P w H h a (.ins C dx fs) from hok a _ e);exact⟨mA,⟨ob,n,ne⟩,r,q,z,d⟩
end
structure Cls(K:av)(C:Addr):Prop where
 pg:PySem.W.plainGet K C Str.empty=true
 hd:PySem.W.hasDictIn K C=true
 po:PySem.W.plainOver K C=true
 sa:PySem.W.findIn K (.ref C) "__setattr__"=some (some (.builtin "object.__setattr__"))
theorem Cls.get{K:av}(c:Cls K C)(f:Str):PySem.W.plainGet K C f=true:=c.pg
noncomputable def eT(K:av)(C:Addr)(f:Str):Prop:=PySem.W.findIn K (.ref C) f=some none
theorem eT.taker{K:av}{f:Str}(n:eT K C f):PySem.W.takerIn K C f=some none:=by unfold PySem.W.takerIn;rw[show PySem.W.findIn K (.ref C) f=some none from n];rfl
structure Meth(K:av)(C:Addr)(m:Str)(f:Addr):Prop where
 at_:PySem.W.findIn K (.ref C) m=some (some (.ref f))
 fn:PySem.W.isFn K (.ref f)=true
 kp:PySem.W.keepIn K (.ref f)=true
section
variable{X:Cx}{pins:List (Addr×Obj)}{σ:St}{H:Hp}{s:Shared}{a C dx:Addr}{fs:List (Str×V)}{f:Str}{v:V}{A:Around}{E:Value->Shared->Prop}
theorem oR{b:Bool}(I:Inv X pins σ H s)(e:H a=some (.ins C dx fs))(c:Cls X.K C)(n:eT X.K C f)(l:fs.lookup f=some v)
  (h:∀u s',Inv X pins σ H s'->RelV v u->Q u s'):wpAny (model X.prog X.w) A (getAttr (.ref a) f b) Q E s:=by
 obtain⟨mA,O,r,_,_,_⟩:=ja I.hok e;obtain⟨u,hu,ru⟩:=fe.some_of (v:=v) (o:=mA f) (by rw[<-l];exact r f)
 exact vS I.kIn O (c.get f) c.hd n hu (qU ru) (h u _ (I.tok _) ru)
theorem jI{m:Str}{g:Addr}{pl:Sem Bool}{Q:Value×List Value->Shared->Prop}(I:Inv X pins σ H s)(e:H a=some (.ins C dx fs))(c:Cls X.K C)(k:Meth X.K C m g)(l:fs.lookup m=none)
  (h:Q (.ref g,[.ref a]) s):wpAny (model X.prog X.w) A (getMethod (.ref a) m pl) Q E s:=by
 obtain⟨mA,O,r,_,_,_⟩:=ja I.hok e;have hn:mA m=none:=fe.none_of (by rw[<-l];exact r m)
 exact tQ I.kIn O (c.get m) k.at_ k.fn hn h
theorem n6{y:V}{Q:Unit->Shared->Prop}(I:Inv X pins σ H s)(e:H a=some (.ins C dx fs))(c:Cls X.K C)(n:eT X.K C f)(hl:fs.length<1000)(ry:RelV y u)
  (h:∀s',Inv X pins σ (bE H a (.ins C dx (dz f y fs))) s'->Q () s'):wpAny (model X.prog X.w) A (setAttr (.ref a) f u) Q E s:=by
 obtain⟨mA,O,r,wi,_,ho⟩:=ja I.hok e;have hz:(fs.map (·.1)).length<=sizeLine:=by rw[List.length_map,sizeLine_eq];omega
 refine uY I.kIn O c.sa c.po n.taker c.hd wi hz λh' O' sb=>h _ ?_;have hd:∃o,h'.get? dx=some o:=let⟨o,_,_,e',_⟩:=O'.ns;⟨o,e'⟩;refine I.write (x:=a) (e:=dx) (by rw[e];exact True.intro) (.inr ho) (λb q hb z=>(sb.2 b hb).trans z) hd ?_
 refine⟨by rw[aE O.ne];exact ho,?_,O.ne,O'.obj,_,O'.ns,λg=>?_,λg hg=>?_⟩
 ·have:=ft f y fs;omega
 ·show fe ((dz f y fs).lookup g) (if g=f then some u else mA g)
  rw[iK];by_cases q:g=f
  ·rw[if_pos q,if_pos q];exact ry
  ·rw[if_neg q,if_neg q];exact r g
 ·by_cases q:g=f
  ·rw[q];exact(ir f y fs).1
  ·refine(ir f y fs).2 g (wi g λz=>hg ?_);show(if g=f then some u else mA g)=none
   rw[if_neg q];exact z
theorem Inv.made(I:Inv X pins σ H s):Inv X pins σ (bE (bE H s.heap.objs.size (.own (s.heap.objs.size+1))) (s.heap.objs.size+1) (.ins C s.heap.objs.size []))
  {s with heap:=(s.heap.push PySem.W.emptyDict).push (PySem.W.instObj C s.heap.objs.size)}:=by
 have e1:(s.heap.push PySem.W.emptyDict).get? s.heap.objs.size=some PySem.W.emptyDict:=am s.heap rfl
 have e2:((s.heap.push PySem.W.emptyDict).push (PySem.W.instObj C s.heap.objs.size)).get? (s.heap.objs.size+1)=some (PySem.W.instObj C s.heap.objs.size):=by have:=am (s.heap.push PySem.W.emptyDict) (o:=PySem.W.instObj C s.heap.objs.size) rfl;rwa [Heap.size_push] at this
 have e3:(s.heap.push PySem.W.emptyDict).Ns s.heap.objs.size (λ_=>none):=⟨PySem.W.emptyDict,#[],_,e1,rfl,(λe he=>absurd he (by simp)),λ_=>rfl⟩
 have I1:=I.laid (a:=s.heap.objs.size) (o:= .own (s.heap.objs.size+1)) (h':=s.heap.push PySem.W.emptyDict) (t':=s.toks) (λb u q=>ae _ q) (ah _) ⟨_,e1⟩;refine I1.laid (a:=s.heap.objs.size+1) (o:= .ins C s.heap.objs.size []) (t':=s.toks) (λb u q=>ae _ q) (Nat.le_of_eq (Heap.size_push _ _)) ?_;have ne:s.heap.objs.size≠s.heap.objs.size+1:=ao (aO _);refine⟨by rw[aE ne,bi],Nat.zero_le _,ne,e2,λ_=>none,(Heap.Ns1.of_empty e3).at λo q=>ae _ q,λ_=>True.intro,λy hy=>absurd rfl hy⟩
theorem v_{prog:Program}{env:Env}{f:Str}{s:Shared}(hb:attributeBase e f env (eval e env)=eval e env)
  (h:wpAny (model prog w) A (eval e env) (λo s₁=>wpAny (model prog w) A (getAttr o f true) Q E s₁) E s):wpAny (model prog w) A (eval (.Attribute e f pos) env) Q E s:=
 Attribute_any_ h (by rw[arm_eval_Attribute,hb])
end
noncomputable def A5(K:av)(ta:TE)(f:Str):TE:=λσ H Q=>ta σ H λx H1=>∃a C dx fs v,x=.ref a/\H1 a=some (.ins C dx fs)/\Cls K C/\eT K C f/\fs.lookup f=some v/\Q v H1
noncomputable def Bb(K:av)(ta tv:TE)(f:Str):TS:=λD σ H=>tv σ H λy H1=>ta σ H1 λx H2=>∃a C dx fs,x=.ref a/\H2 a=some (.ins C dx fs)/\Cls K C/\eT K C f/\fs.length<1000/\
 D.nx σ (bE H2 a (.ins C dx (dz f y fs)))
section
variable{X:Cx}{o e value:Expr}{f:Str}{pos pos':Pos}{ta tv:TE}
theorem xK(he:PE X e ta)(hb:attributeBase e f X.env (eval e X.env)=eval e X.env):PE X (.Attribute e f pos) (A5 X.K ta f):=by intro pins s σ H Q I h;refine v_ hb (bU (he pins s σ H _ I h) λu s1 hp=>?_);obtain⟨x,H1,I1,rx,a,C,dx,fs,v,ex,ea,c,n,l,q⟩:=hp;subst ex;obtain rfl:u=Value.ref a:=rx;exact oR I1 ea c n l λu' s2 I2 ru=>⟨v,H1,I2,ru,q⟩
theorem xz(ha:PE X o ta)(hv:PE X value tv)(hs:swapsWith value (some (.Attribute o f pos')) pos.line X.env=pure false):PS X (.Assign [.Attribute o f pos'] value pos) (Bb X.K ta tv f):=by intro pins s σ H D I h;refine plainObj_wpAny_Assign_Attribute (bU (hv pins s σ H _ I h) λu s1 ⟨y,H1,I1,ry,q⟩=>bU (ha pins s1 σ H1 _ I1 q) λov s2 ⟨x,H2,I2,rx,a,C,dx,fs,ex,ea,c,n,l,q2⟩=>?_) hs;subst ex;obtain rfl:ov=Value.ref a:=rx;exact n6 I2 ea c n l ry λs3 I3=>⟨σ,_,I3,q2⟩
end
section
variable{X:Cx}{pins:List (Addr×Obj)}{σ:St}{H:Hp}{s:Shared}{A:Around}{E:Value->Shared->Prop}{Q:Value->Shared->Prop}{c:Value}{b:Bool}
inductive TyOf(K:av)(H:Hp):V->Value->Prop where
 |non:TyOf K H .non (.type "NoneType")
 |bl (x:Bool):TyOf K H (.bl x) (.type "bool")
 |int (i:Int):TyOf K H (.int i) (.type "int")
 |str (x:Str):TyOf K H (.str x) (.type "str")
 |flt (x:UInt64):TyOf K H (.flt x) (.type "float")
 |lst {a:Addr}{xs:List V}(e:H a=some (.lst xs)):TyOf K H (.ref a) (.type "list")
 |frz {a:Addr}{o:Obj}{xs:List V}(e:H a=some (.frz o (.lst xs))):TyOf K H (.ref a) (.type "list")
 |tup {a:Addr}{xs:List V}(e:H a=some (.tup xs)):TyOf K H (.ref a) (.type "tuple")
 |dK {a:Addr}{kvs:List (Key×V)}(e:H a=some (.dK kvs)):TyOf K H (.ref a) (.type "dict")
 |dT {a:Addr}{kvs:List (List Key×V)}(e:H a=some (.dT kvs)):TyOf K H (.ref a) (.type "dict")
 |ins {a C dx:Addr}{fs:List (Str×V)}(e:H a=some (.ins C dx fs))(cl:Cls K C)(ha:PySem.W.findIn K (.ref C) "__class__"=some (some (.builtin "object.__class__")))
   (hn:PySem.W.specialIn K (.builtin "object.__class__") "__get__"=some (some (.builtin "getset_descriptor.__get__"))) (htk:PySem.W.takesIn K (.builtin "object.__class__")=some true)
   (hm:PySem.W.mroIn K C (.type "object")=some true):TyOf K H (.ref a) (.ref C)
theorem qO{x:V}{t:Value}(I:Inv X pins σ H s)(rx:RelV x u)(ty:TyOf X.K H x t)(e:PySem.W.kitOne X.K t c=some b)(h:∀tk,Q (.bool b) {s with toks:=tk}):
  wpAny (model X.prog X.w) A (call (.builtin "isinstance") [u,c]) Q E s:=by
 cases ty with
 |non=>cases(show u=Value.none from rx);exact PySem.W.kia_one PySem.W.kitx_none I.kIn True.intro e (λz=>nomatch z) h
 |bl y=>cases(show u=Value.bool y from rx);exact PySem.W.kia_one PySem.W.kitx_bool I.kIn True.intro e (λz=>nomatch z) h
 |int i=>obtain⟨t,q⟩:=(show ∃t,u=Value.int i t from rx);cases q;exact PySem.W.kia_one PySem.W.kitx_int I.kIn True.intro e (λz=>nomatch z) h
 |str y=>obtain⟨t,q⟩:=(show ∃t,u=Value.str y t from rx);cases q;exact PySem.W.kia_one PySem.W.kitx_str I.kIn True.intro e (λz=>nomatch z) h
 |flt y=>obtain⟨t,q⟩:=(show ∃t,u=Value.float y t from rx);cases q;exact PySem.W.kia_one PySem.W.kitx_float I.kIn True.intro e (λz=>nomatch z) h
 | @lst a xs ea=>cases(show u=Value.ref a from rx);obtain⟨_,_,n,_,h1⟩:=(show bM X.prog X.w H s.heap a (.lst xs) from I.hok a _ ea);exact PySem.W.kia_one PySem.W.kitx_list I.kIn ⟨_,h1,rfl⟩ e (λz=>nomatch z) h
 | @frz a ob xs ea=>cases(show u=Value.ref a from rx);obtain⟨_,_,_,n,_,h1⟩:=(show bM X.prog X.w H s.heap a (.frz ob (.lst xs)) from I.hok a _ ea);exact PySem.W.kia_one PySem.W.kitx_list I.kIn ⟨_,h1,rfl⟩ e (λz=>nomatch z) h
 | @tup a xs ea=>cases(show u=Value.ref a from rx);obtain⟨_,_,_,p⟩:=(show bM X.prog X.w H s.heap a (.tup xs) from I.hok a _ ea);obtain⟨o,h1,h2,_⟩:=p;exact PySem.W.kia_one PySem.W.kitx_tuple I.kIn ⟨o,h1,h2.1⟩ e (λz=>nomatch z) h
 | @dK a kvs ea=>cases(show u=Value.ref a from rx);obtain⟨_,_,vs,_,p⟩:=(show bM X.prog X.w H s.heap a (.dK kvs) from I.hok a _ ea);obtain⟨o,es,ep,h1,h2,_⟩:=p;exact PySem.W.kia_one PySem.W.kitx_dict I.kIn ⟨o,h1,h2.1⟩ e (λz=>nomatch z) h
 | @dT a kvs ea=>cases(show u=Value.ref a from rx);obtain⟨_,_,xs,_,o,es,ep,h1,h2,_⟩:=(show bM X.prog X.w H s.heap a (.dT kvs) from I.hok a _ ea);exact PySem.W.kia_one PySem.W.kitx_dict I.kIn ⟨o,h1,h2.1⟩ e (λz=>nomatch z) h
 | @ins a C dx fs ea cl ha hn htk hm=>cases(show u=Value.ref a from rx);obtain⟨mA,O,_⟩:=ja I.hok ea;obtain⟨od,J,_⟩:=O.look;exact PySem.W.kia_one (PySem.W.kitx_own (cl.get _) cl.hd ha hn htk hm) I.kIn J e (λz=>nomatch z) h
end
structure Room(k:Nat)(A:Around):Prop where
 hd:A.handled=none
 dp:A.depth+3*k+5<recursionLimit
 un:A.units+16*k+200<cLine
theorem Room.mono{k:Nat}(r:Room k A)(h:j<=k):Room j A:=⟨r.hd,by have:=r.dp;omega,by have:=r.un;omega⟩
theorem Room.deeper{k:Nat}(r:Room (k+1) A)(env:Env):Room k (A.deeper env):=
 ⟨r.hd,by have:=r.dp;show A.depth+1+3*k+5<_;omega,by have:=r.un;show A.units+3+16*k+200<_;omega⟩
theorem oG:(A.under (.builtin "type.__call__" ⟨.ref C::us,kw⟩)).depth=A.depth+1:=by
 first|rfl|simp[Around.under,Code.weight,Code.isCreation,Code.isGuard,Code.isCaller,Code.frames,Code.isFrame,guardIds]
theorem oF:(A.under (.builtin "type.__call__" ⟨.ref C::us,kw⟩)).units=A.units+1:=by
 first|rfl|simp[Around.under,Code.cUnits,Code.frames,Code.isFrame]
theorem Room.make{k:Nat}(r:Room (k+1) A)(C:Addr)(us:List Value)(kw:List (Str×Value)):Room k (A.under (.builtin "type.__call__" ⟨.ref C::us,kw⟩)):=
 ⟨r.hd,by have:=r.dp;rw[oG];omega,by have:=r.un;rw[oF];omega⟩
theorem Room.depth{k:Nat}(r:Room k A):A.depth<recursionLimit:=by have:=r.dp;omega
noncomputable def wW:TA:=λ_ H Q=>Q [] H
noncomputable def wq(ta:TE)(tr:TA):TA:=λσ H Q=>ta σ H λx H1=>tr σ H1 λxs H2=>Q (x::xs) H2
section
variable{X:Cx}{e:Expr}{es:List Expr}{te:TE}{t:TA}{pos:Pos}
theorem fo:PA X [] wW:=λ_ _ _ _ H Q I h=>Calls.spliced_nil ⟨[],H,I,.nil,h⟩
theorem cJ(ha:PE X e te)(hr:PA X es t)(hs:starEach (e::es) X.env=(false,eval e X.env)::starEach es X.env:=by rfl):PA X (e::es) (wq te t):=by intro pos pins s σ H Q I h;rw[hs];show wpAny _ _ (spliced ((false,eval e X.env)::backTo pos (starEach es X.env))) _ _ s;refine Calls.spliced_cons (bU (ha pins s σ H _ I h) λu s1 hp=>?_);obtain⟨x,H1,I1,r1,q1⟩:=hp;exact bU (hr pos pins s1 σ H1 _ I1 q1) λus s2 ⟨xs,H2,I2,r2,q2⟩=>⟨x::xs,H2,I2,.cons r1 r2,q2⟩
noncomputable def AW(t:TA):TE:=λσ H Q=>t σ H λxs H1=>xs.length<=sizeLine/\∀p,H1 p=none->Q (.ref p) (bE H1 p (.tup xs))
noncomputable def A2(t:TA):TE:=λσ H Q=>t σ H λxs H1=>xs.length<=sizeLine/\∀p,H1 p=none->Q (.ref p) (bE H1 p (.lst xs))
theorem xE{x1}(h:PA X es t):PE X (.Tuple es x1 pos) (AW t):=by
 intro pins s σ H Q I hq;refine wpAny_Tuple_spliced (bU (h pos pins s σ H _ I hq) λus s1 ⟨xs,H1,I1,r,z,q⟩=>⟨by rw[<-r.length];exact z,?_⟩)
 have hf:H1 s1.heap.objs.size=none:=I1.hok.fresh (ah _);refine⟨.ref s1.heap.objs.size,bE H1 s1.heap.objs.size (.tup xs),I1.laid (t':=s1.toks) (λb u e=>ae _ e) (ah _) ?_,rfl,q _ hf⟩;exact⟨z,us,r,⟨_,am _ rfl,⟨rfl,rfl⟩,_,rfl⟩⟩
theorem xJ(h:PA X es t):PE X (.List es pos) (A2 t):=by
 intro pins s σ H Q I hq;refine wpAny_List_spliced (bU (h pos pins s σ H _ I hq) λus s1 ⟨xs,H1,I1,r,z,q⟩=>⟨by rw[<-r.length];exact z,?_⟩)
 have hf:H1 s1.heap.objs.size=none:=I1.hok.fresh (ah _);refine⟨.ref s1.heap.objs.size,bE H1 s1.heap.objs.size (.lst xs),I1.laid (t':=s1.toks) (λb u e=>ae _ e) (ah _) ?_,rfl,q _ hf⟩;exact⟨z,us,0,r,am _ rfl⟩
end
noncomputable abbrev Sp:=List V->Hp->VK->XK->Prop
noncomputable abbrev uD:=List Env->Hp->Shared->XK->Value->Shared->Prop
structure Env0(P:Program)(w:World)(K:av)(mg:Str->Option Value)(base:Heap)(A:Around)(outer:List Env)(s:Shared)(H:Hp):Prop where
 frames:A.frames=some outer
 mod:Mod K mg base
 bs:∀b o,base.get? b=some o->s.heap.get? b=some o/\H b=none
 bsz:base.objs.size<=s.heap.objs.size
 funs:s.heap.FunFrames base outer
 frf:∀b∈qV outer,H b=none
 hok:gb P w H s.heap
 bare:AllBare s.gens
noncomputable def CE(outer:List Env)(P:Program)(w:World)(H:Hp)(s:Shared)(Q:VK)(u:Value)(s':Shared):Prop:=
 ∃v H',s'.os=s.os/\AllBare s'.gens/\Un (qV outer) [] H H' s.heap s'.heap/\gb P w H' s'.heap/\RelV v u/\Q v H'
noncomputable def CR(CX:uD)(outer:List Env)(P:Program)(w:World)(H:Hp)(s:Shared)(Q:VK)(E:XK)(r:Result)(s':Shared):Prop:=
 match r with
 | .ok (.ret u)=>CE outer P w H s Q u s'
 | .ok _=>False
 | .error e=>CX outer H s E e s'
structure FnOk(P:Program)(w:World)(K:av)(mg:Str->Option Value)(base:Heap)(CX:uD)(k:Nat)(f:Addr)(fd:FuncData)(ps:List Str)(sp:Sp):Prop where
 len:∀vs H Q E,sp vs H Q E->vs.length=ps.length
 run:∀(A:Around)(outer:List Env)(s:Shared)(H:Hp)(args:Args)(us:List Value) (vs:List V)(Q:VK)(E:XK),Room k A->Env0 P w K mg base A outer s H->BindsTo s fd args (ps.zip us)->bm vs us->sp vs H Q E->
  codeAny (model P w) A (.call (.ref f) args) (CR CX outer P w H s Q E) s
theorem FnOk.imp{K:av}{CX:uD}{k:Nat}{f:Addr}{fd:FuncData}{ps:List Str}{sp sp':Sp}(F:FnOk P w K mg base CX k f fd ps sp)
  (h:∀vs H Q E,sp' vs H Q E->sp vs H Q E):FnOk P w K mg base CX k f fd ps sp':=
 ⟨λvs H Q E q=>F.len vs H Q E (h _ _ _ _ q),λA outer s H args us vs Q E hr he hb hv hs=>F.run A outer s H args us vs Q E hr he hb hv (h _ _ _ _ hs)⟩
theorem Env0.make{K:av}{outer:List Env}{H:Hp}(e:Env0 P w K mg base A outer s H)(C:Addr)(us:List Value)(kw:List (Str×Value)):
  Env0 P w K mg base (A.under (.builtin "type.__call__" ⟨.ref C::us,kw⟩)) outer s H:=⟨by first|exact e.frames|(simpa[Around.under,Code.envs,Code.isFrame,pushEnvs] using e.frames),e.mod,e.bs,e.bsz,e.funs,e.frf,e.hok,e.bare⟩
section
variable{X:Cx}{pins:List (Addr×Obj)}{σ:St}{H:Hp}{s s':Shared}
theorem Inv.env0(I:Inv X pins σ H s):Env0 X.prog X.w X.K X.mg X.base X.A X.stack s H:=
 ⟨I.ok.frames,I.ok.mod,I.bs,az I.ok.bsz I.sz,I.stack,I.stkFree,I.hok,I.bare⟩
theorem Inv.after{Q:VK}(I:Inv X pins σ H s)(h:CE X.stack X.prog X.w H s Q u s'):EP X pins σ Q u s':=by
 obtain⟨v,H',os,bare,un,hok,r,q⟩:=h;obtain⟨hh,g,d,t,os'⟩:=s';obtain rfl:os'=s.os:=os;exact⟨v,H',I.call (h':=hh) (g':=g) (d':=d) (t':=t) (ch:=[]) un hok bare (λb z=>absurd z (by simp)),r,q⟩
end
noncomputable def zq(sp:Sp)(dvs:List V)(E:XK)(t:TA):TE:=λσ H Q=>t σ H λvs H1=>sp (vs++dvs) H1 Q E
noncomputable def zk(C:Addr)(sp:Sp)(dvs:List V)(E:XK)(t:TA):TE:=λσ H Q=>t σ H λvs H1=>∀x dx,H1 x=none->H1 dx=none->dx≠x->
 sp (.ref x::(vs++dvs)) (bE (bE H1 dx (.own x)) x (.ins C dx [])) (λv H2=>v=.non/\Q (.ref x) H2) E
noncomputable def Binds(K:av)(fd:FuncData)(ps:List Str)(ds:List Value):Prop:=
 ∀(s:Shared)(us:List Value),K.In s.heap->(us++ds).length=ps.length->BindsTo s fd ⟨us,[]⟩ (ps.zip (us++ds))
theorem Binds.all{K:av}{fd:FuncData}{ps:List Str}(h:∀us:List Value,us.length=ps.length->bindArgs fd ⟨us,[]⟩=pure (ps.zip us)):Binds K fd ps []:=λs us _ hl=>by rw[List.append_nil] at hl ⊢;exact .of_eq (h us hl)
noncomputable def jZ(CX:uD)(X:Cx)(E:XK):Prop:=∀(pins:List (Addr×Obj))(σ:St)(H:Hp)(s:Shared)(e:Value)(s':Shared),Inv X pins σ H s->CX X.stack H s E e s'->X.xe e s'
section
variable{X:Cx}{CX:uD}{k:Nat}{f C:Addr}{fd:FuncData}{ps:List Str}{sp:Sp}{dvs:List V}{ds:List Value}{E:XK}{x:Str}{p pos:Pos}{e:Expr}{es:List Expr}{t:TA}
theorem xo{σ:St}{H:Hp}{Q:VK}{vs:List V}(F:FnOk X.prog X.w X.K X.mg X.base CX k f fd ps sp)(hr:Room k X.A)(hb:Binds X.K fd ps ds)(hd:bm dvs ds)(hx:jZ CX X E)
  (I:Inv X pins σ H s)(r:bm vs us)(h:sp (vs++dvs) H Q E):wpAny (model X.prog X.w) X.A (call (.ref f) us) (EP X pins σ Q) X.xe s:=by
 have r2:bm (vs++dvs) (us++ds):=r.append hd;have hl:(us++ds).length=ps.length:=by rw[<-r2.length];exact F.len _ _ _ _ h
 refine wpAny_call (codeAny_mono (F.run X.A X.stack s H ⟨us,[]⟩ (us++ds) (vs++dvs) Q E hr I.env0 (hb s us I.kIn hl) r2 h) λr s' hq=>?_);cases r with
 |error e=>exact hx pins σ H s e s' I hq
 |ok fl=>
  cases fl with
  |ret u=>exact I.after hq
  |next=>exact False.elim hq
  |brk=>exact False.elim hq
  |cont=>exact False.elim hq
theorem vn(F:FnOk X.prog X.w X.K X.mg X.base CX k f fd ps sp)(hr:Room k X.A)(hg:Gl X x)(hm:X.mg x=some (.ref f))(hk:PySem.W.keepIn X.K (.ref f)=true)(hb:Binds X.K fd ps ds)(hd:bm dvs ds)(hx:jZ CX X E)
  (ha:PA X (e::es) t)(hdb:(x==("__debug__":Str))=false:=by decide) (he:starEach (e::es) X.env=(false,eval e X.env)::starEach es X.env:=by rfl)(hpl:(backTo pos (starEach es X.env)).any (·.1)=false:=by rfl):
  PE X (.Call (.Name x p) (e::es) [] pos) (zq sp dvs E t):=by
 intro pins s σ H Q I h;refine wpAny_Call_Name_kw (lH I hg hm ?_ hdb);refine PySem.W.callWith_K (h₀:=X.base) I.ok.mod.kin hk (bU (ha pos pins s σ H _ I h) λus s1 ⟨vs,H1,I1,r,q⟩=>⟨I1.kIn,?_⟩) he hpl;exact xo F hr hb hd hx I1 r q
structure Mk(K:av)(C f:Addr):Prop where
 makes:PySem.W.makesIn K C=true
 init:PySem.W.findIn K (.ref C) "__init__"=some (some (.ref f))
 fn:PySem.W.isFn K (.ref f)=true
 kp:PySem.W.keepIn K (.ref C)=true
theorem su{σ:St}{H:Hp}{Q:VK}{vs:List V}(M:Mk X.K C f)(F:FnOk X.prog X.w X.K X.mg X.base CX k f fd ps sp)(hr:Room (k+1) X.A)(hb:Binds X.K fd ps ds)(hd:bm dvs ds)
  (hx:jZ CX X E)(I:Inv X pins σ H s)(r:bm vs us)
  (h:∀x dx,H x=none->H dx=none->dx≠x->sp (.ref x::(vs++dvs)) (bE (bE H dx (.own x)) x (.ins C dx [])) (λv H2=>v=.non/\Q (.ref x) H2) E):
  wpAny (model X.prog X.w) X.A (call (.ref C) us) (EP X pins σ Q) X.xe s:=by
 have hq:=h (s.heap.objs.size+1) s.heap.objs.size (I.hok.fresh (Nat.le_succ _)) (I.hok.fresh (ah _)) (ao (aO _));have I2:=Inv.made (C:=C) I;have r2:bm (V.ref (s.heap.objs.size+1)::(vs++dvs)) (Value.ref (s.heap.objs.size+1)::(us++ds)):= .cons rfl (r.append hd)
 have hl:(Value.ref (s.heap.objs.size+1)::us++ds).length=ps.length:=by have e:=r2.length;rw[F.len _ _ _ _ hq] at e;exact e.symm
 refine wpAny_call (s_ (f:=f) I.kIn M.makes M.init (beq_iff_eq.mp M.fn) (codeAny_mono (F.run _ X.stack _ _ ⟨Value.ref (s.heap.objs.size+1)::us,[]⟩ (Value.ref (s.heap.objs.size+1)::(us++ds)) _ _ E (hr.make C us [])
  (I2.env0.make C us []) (hb _ (Value.ref (s.heap.objs.size+1)::us) I2.kIn hl) r2 hq) λr s' hq'=>?_))
 cases r with
 |error e=>exact hx pins σ _ _ e s' I2 hq'
 |ok fl=>
  cases fl with
  |ret u=>obtain⟨v,H',I3,rv,ev,q3⟩:=I2.after hq';subst ev;exact⟨rv,⟨V.ref (s.heap.objs.size+1),H',I3,rfl,q3⟩⟩
  |next=>exact False.elim hq'
  |brk=>exact False.elim hq'
  |cont=>exact False.elim hq'
theorem vi(M:Mk X.K C f)(F:FnOk X.prog X.w X.K X.mg X.base CX k f fd ps sp)(hr:Room (k+1) X.A)(hg:Gl X x)(hm:X.mg x=some (.ref C))(hb:Binds X.K fd ps ds)(hd:bm dvs ds)(hx:jZ CX X E)
  (ha:PA X (e::es) t)(hdb:(x==("__debug__":Str))=false:=by decide) (he:starEach (e::es) X.env=(false,eval e X.env)::starEach es X.env:=by rfl)(hpl:(backTo pos (starEach es X.env)).any (·.1)=false:=by rfl):
  PE X (.Call (.Name x p) (e::es) [] pos) (zk C sp dvs E t):=by
 intro pins s σ H Q I h;refine wpAny_Call_Name_kw (lH I hg hm ?_ hdb);refine PySem.W.callWith_K (h₀:=X.base) I.ok.mod.kin M.kp (bU (ha pos pins s σ H _ I h) λus s1 ⟨vs,H1,I1,r,q⟩=>⟨I1.kIn,?_⟩) he hpl;exact su M F hr hb hd hx I1 r q
end
section
end
structure FnScope(N P:List Str)(sc:Scope):Prop where
 kind:sc.kind=.function
 co:sc.isCoroutine=false
 gen:sc.isGenerator=false
 nd:N.Nodup
 pre:N.take P.length=P
 par:∀x∈P,sc.names.lookup x=some .local∨sc.names.lookup x=some .cell
 nofree:∀y∈sc.names,y.2≠ .free
theorem kP{kindOf:Str->Option NameKind}{x:Str}:∀{binds:List (Str×Value)}{m:Str->Option Value},(∀v,(x,v)∉binds)->bindL kindOf binds m x=m x
 |[],_,_=>rfl
 |(n,v)::r,m,h=>by
  unfold bindL;rw[kP λw hw=>h w (List.mem_cons_of_mem _ hw)];split
  ·have:x≠n:=by rintro rfl;exact h v List.mem_cons_self
   simp[this]
  ·rfl
theorem kS{kindOf:Str->Option NameKind}{x:Str}:∀{binds:List (Str×Value)}{m:Str->Option Value},(∀v,(x,v)∉binds)->bindC kindOf binds m x=m x
 |[],_,_=>rfl
 |(n,v)::r,m,h=>by
  unfold bindC;rw[kS λw hw=>h w (List.mem_cons_of_mem _ hw)];split
  ·rfl
  ·have:x≠n:=by rintro rfl;exact h v List.mem_cons_self
   simp[this]
theorem kQ{kindOf:Str->Option NameKind}{x:Str}{v:Value}:∀{P:List Str}{vs:List Value}{i:Nat}{m:Str->Option Value},P.Nodup->P[i]? =some x->vs[i]? =some v->kindOf x=some .local->
  bindL kindOf (P.zip vs) m x=some v
 |[],_,_,_,_,h,_,_=>by simp at h
 |_::_,[],_,_,_,_,h,_=>by simp at h
 |p::P,w::vs,0,m,nd,h1,h2,hk=>by simp at h1 h2;subst h1;subst h2;show bindL kindOf ((p,w)::P.zip vs) m p=_;unfold bindL;rw[kP λv hv=>(List.nodup_cons.mp nd).1 (List.of_mem_zip hv).1,if_pos hk];simp
 |p::P,w::vs,i+1,m,nd,h1,h2,hk=>by
  show bindL kindOf ((p,w)::P.zip vs) m x=_;unfold bindL;exact kQ (i:=i) (List.nodup_cons.mp nd).2 (by simpa using h1) (by simpa using h2) hk
theorem kU{kindOf:Str->Option NameKind}{x:Str}{v:Value}:∀{P:List Str}{vs:List Value}{i:Nat}{m:Str->Option Value},P.Nodup->P[i]? =some x->vs[i]? =some v->kindOf x≠some .local->
  bindC kindOf (P.zip vs) m x=some v
 |[],_,_,_,_,h,_,_=>by simp at h
 |_::_,[],_,_,_,_,h,_=>by simp at h
 |p::P,w::vs,0,m,nd,h1,h2,hk=>by simp at h1 h2;subst h1;subst h2;show bindC kindOf ((p,w)::P.zip vs) m p=_;unfold bindC;rw[kS λv hv=>(List.nodup_cons.mp nd).1 (List.of_mem_zip hv).1,if_neg hk];simp
 |p::P,w::vs,i+1,m,nd,h1,h2,hk=>by
  show bindC kindOf ((p,w)::P.zip vs) m x=_;unfold bindC;exact kU (i:=i) (List.nodup_cons.mp nd).2 (by simpa using h1) (by simpa using h2) hk
noncomputable def start(N:List Str)(vs:List V):St:=vs.map some++List.replicate (N.length - vs.length) none
noncomputable def oU(CX:uD)(P:Program)(w:World)(K:av)(mg:Str->Option Value)(base:Heap)(N:List Str)(qual:Str)(scope:Scope)(f:Addr)(cd:Value)(A:Around)(outer:List Env)(s:Shared)(H:Hp)(E:XK):Cx where
 prog:=P
 w:=w
 K:=K
 mg:=mg
 base:=base
 A:=A.deeper (envOfC qual scope s.heap.objs.size f cd)
 N:=N
 s₀:=s
 H₀:=H
 env:=envOfC qual scope s.heap.objs.size f cd
 outer:=outer
 stack:=envOfC qual scope s.heap.objs.size f cd::outer
 ex:=[]
 calm:=true
 fn:=λ_=>true
 pn:=[]
 xe:=λe s'=>wpAny (model P w) (A.deeper (envOfC qual scope s.heap.objs.size f cd)) (leaving (envOfC qual scope s.heap.objs.size f cd) e) (λ_ s''=>CX outer H s E e s'') (λe' s''=>CX outer H s E e' s'') s'
theorem nH{sc:Scope}(h:sc.names.lookup x=some .cell):∃c,(cellsFrom n sc.names []).lookup x=some c:=by have q:=PySem.W.cellsFrom_some sc.names n [] (.inl h);exact Option.isSome_iff_exists.mp q
theorem qQ{CX:uD}{K:av}{N ps:List Str}{scope:Scope}{f:Addr}{cd:Value}{outer:List Env}{s1:Shared}{H:Hp}{E:XK}{vs:List V}
  (S:FnScope N ps scope)(hd:A.handled=none)(e0:Env0 P w K mg base A outer s H)(hl:vs.length=ps.length)(r:bm vs us)
  (x:InCallC s s.heap.objs.size (bindL (envOfC qual scope s.heap.objs.size f cd).kindOf (ps.zip us) λ_=>none) (cellsFrom (s.heap.objs.size+1) scope.names []) (bindC (envOfC qual scope s.heap.objs.size f cd).kindOf (ps.zip us) λ_=>none) s1):
  Inv (oU CX P w K mg base N qual scope f cd A outer s H E) [] (start N vs) H s1:=by
 have hpl:ps.length<=N.length:=by have:=congrArg List.length S.pre;rw[List.length_take] at this;omega
 obtain⟨h1,tk,rfl,hk⟩:=x.done;have noA:∀b:Addr,b∉(oU CX P w K mg base N qual scope f cd A outer s H E).ex:=λb z=>absurd (show b∈([]:List Addr) from z) (by simp)
 refine⟨⟨e0.mod,S.kind,rfl,rfl,ah _,λy z c h1 h2=>?_,λy hy=>?_,λy c _ h=>?_,λ_=>hd,Around.frames_deeper e0.frames,.inr ⟨rfl,rfl⟩,λb z=>absurd z (noA b),e0.bs,e0.bsz,λb _ _=>noA b,λb z=>absurd z (noA b),e0.funs,e0.frf⟩,
  rfl,e0.bare,Un.kept hk,⟨_,x.toInCall.ns,λi y v h1 h2 h3=>?_⟩,λy c h=>⟨_,x.cell y c h⟩,e0.hok.fresh (ah _),λy c h=>?_,λp hp=>absurd (show p∈([]:List (Addr×Obj)) from hp) (by simp),e0.hok.kept hk,?_⟩
 ·exact name_of_addr x.apart (aK h1) (aK h2)
 ·have hy:scope.names.lookup y=some .cell∨scope.names.lookup y=some .free:=hy;rcases hy with hy|hy
  ·exact nH hy
  ·exact absurd rfl (S.nofree _ (aK hy))
 ·exact Nat.le_of_lt (x.above y c (aK h))
 ·have hi:i<vs.length:=by
   unfold start at h2;by_cases hi:i<vs.length
   ·exact hi
   ·rw[aR (by simpa using hi)] at h2
    rw[List.getElem?_replicate] at h2;split at h2<;>cases h2
  have ha:vs[i]? =some v:=by
   unfold start at h2;rw[aJ (by simpa using hi),aB] at h2
   cases e:vs[i]? with
   |none=>rw[e] at h2;cases h2
   |some a=>rw[e] at h2;cases h2;rfl
  obtain⟨u,hu,rv⟩:=r.get ha
  have hp:ps[i]? =some y:=by
   rw[<-S.pre,List.getElem?_take_of_lt (by omega)];exact h1
  have ndP:ps.Nodup:=by rw[<-S.pre];exact S.nd.sublist (List.take_sublist _ _)
  refine⟨u,rv,?_⟩;rcases S.par y (ak hp) with k|k
  ·exact .inl ⟨k,kQ ndP hp hu k⟩
  ·obtain⟨c,e⟩:=nH (n:=s.heap.objs.size+1) k;refine .inr ⟨.inl k,c,e,?_⟩;have q:=x.cell y c e;rw[kU ndP hp hu (by show scope.names.lookup y≠_;rw[k];decide)] at q
   exact q
 ·exact e0.hok.fresh (Nat.le_of_lt (x.above y c (aK h)))
 ·unfold start;show _=N.length;rw[aA,List.length_map,List.length_replicate];omega
theorem Ag{CX:uD}{K:av}{k:Nat}{f:Addr}{name:Str}{params:Arguments}{body:List Stmt}{scope:Scope}{dV kV doc pm cdv ct oc:Value}{an od:Option Addr}
  {osl:Array (Option Value)}{N ps:List Str}{sp:Sp}(lk:K.lookup f=some ⟨oc,od,.func (PySem.W.fnOf name qual params body scope dV kV doc pm an cdv ct),osl⟩)(hcd:PySem.W.codeIn K cdv qual=true)(S:FnScope N ps scope)
  (len:∀vs H Q E,sp vs H Q E->vs.length=ps.length)
  (hbody:∀(A:Around)(outer:List Env)(s:Shared)(H:Hp)(vs:List V)(Q:VK)(E:XK),Room k (A.deeper (envOfC qual scope s.heap.objs.size f cdv))->sp vs H Q E->
   ∃t,PSs (oU CX P w K mg base N qual scope f cdv A outer s H E) body t/\t {nx:=λ_ H'=>Q .non H',rt:=Q} (start N vs) H):
  FnOk P w K mg base CX (k+1) f (PySem.W.fnOf name qual params body scope dV kV doc pm an cdv ct) ps sp:=by
 refine⟨len,λA outer s H args us vs Q E hr e0 hb r hsp=>?_⟩;have hl:=len _ _ _ _ hsp;have KX:K.In s.heap:=e0.mod.kin.keeps λb o e=>(e0.bs b o e).1;have lim:s.heap.NoLimit:=e0.mod.nolimit.keeps λb o e=>(e0.bs b o e).1
 have hkind:∀y∈ps.zip us,scope.names.lookup y.1=some .local∨(scope.names.lookup y.1=some .cell/\((cellsFrom (s.heap.objs.size+1) scope.names []).lookup y.1).isSome=true):=λ⟨n,v⟩ hy=>by
  rcases S.par n (List.of_mem_zip hy).1 with q|q
  ·exact .inl q
  ·exact .inr ⟨q,PySem.W.cellsFrom_some _ _ _ (.inl q)⟩
 refine codeAny_call_function hr.depth (KX _ _ lk) rfl S.co S.gen rfl (PySem.W.codeRec_of KX hcd) (hb _ _ _ _ ?_);refine wpAny_newFunctionEnv_cells S.kind hkind λenv he s1 x=>?_;subst he;refine⟨lim.keeps x.toInCall.keep,codeAny_func ?_⟩;obtain⟨t,ht,hq⟩:=hbody A outer s H vs Q E (hr.deeper _) hsp;have I:Inv (oU CX P w K mg base N qual scope f cdv A outer s H E) [] (start N vs) H s1:=qQ S hr.hd e0 hl r x;refine aQ (ht [] s1 (start N vs) H _ I hq) (λfl s' hs=>?_) λe s' hs=>hs
 have fin:∀{σ':St}{H':Hp}{v:V}{u:Value},Inv (oU CX P w K mg base N qual scope f cdv A outer s H E) [] σ' H' s'->RelV v u->Q v H'->CE outer P w H s Q u s':=
  λ{σ' H' v u} J rv q=>⟨v,H',J.os,J.bare,J.base,J.hok,rv,q⟩
 cases fl with
 |ret u=>obtain⟨v,σ',H',J,rv,q⟩:=hs;exact fin J rv q
 |next=>obtain⟨σ',H',J,q⟩:=hs;exact fin (v:=V.non) (u:=Value.none) J rfl q
 |brk=>obtain⟨_,_,_,q⟩:=hs;exact False.elim q
 |cont=>obtain⟨_,_,_,q⟩:=hs;exact False.elim q
section
variable{X:Cx}{x:Str}{p pos:Pos}{e:Expr}{es:List Expr}{t:TA}{id T:String}{r:List V->Hp->VK->Prop}
noncomputable def A6(r:List V->Hp->VK->Prop)(t:TA):TE:=λσ H Q=>t σ H λvs H1=>r vs H1 Q
theorem jx(hc:eZ X (.builtin id) r)(hg:Gl X x)(hm:X.mg x=none)(hv:bootBuiltins x=some (.builtin id))(ha:PA X (e::es) t)(hn:x≠ "__name__":=by decide)(hdb:(x==("__debug__":Str))=false:=by decide)
  (he:starEach (e::es) X.env=(false,eval e X.env)::starEach es X.env:=by rfl)(hpl:(backTo pos (starEach es X.env)).any (·.1)=false:=by rfl):PE X (.Call (.Name x p) (e::es) [] pos) (A6 r t):=by
 intro pins s σ H Q I h;refine wpAny_Call_Name_kw (iq I hg hm hv ?_ hn hdb);exact PyProof.Rows.callWith_builtin1 (bU (ha pos pins s σ H _ I h) λus s1 ⟨vs,H1,I1,r1,q1⟩=>hc pins s1 σ H1 vs us Q I1 r1 q1) he hpl
theorem qE(hc:eZ X (.type T) r)(hg:Gl X x)(hm:X.mg x=none)(hv:bootBuiltins x=some (.type T))(ha:PA X (e::es) t)(hn:x≠ "__name__":=by decide)(hdb:(x==("__debug__":Str))=false:=by decide)
  (he:starEach (e::es) X.env=(false,eval e X.env)::starEach es X.env:=by rfl)(hpl:(backTo pos (starEach es X.env)).any (·.1)=false:=by rfl):PE X (.Call (.Name x p) (e::es) [] pos) (A6 r t):=by
 intro pins s σ H Q I h;refine wpAny_Call_Name_kw (iq I hg hm hv ?_ hn hdb);exact bu (bU (ha pos pins s σ H _ I h) λus s1 ⟨vs,H1,I1,r1,q1⟩=>hc pins s1 σ H1 vs us Q I1 r1 q1) he hpl
end
end L2
namespace HT
open PySem PyProof.Rows
variable{sl t:Addr}{hi lo:Option Int}{vl vu:Value}
section
open PySem.SeqAt
open PySem.AutoSeq1 (wpAny_loadPart')
open PySem.MeetsSeq PySem.MeetsSeq2 PySem.MeetsSeq3
end
section
variable{prog:Program}{w:World}{A:Around}{E:Value->Shared->Prop}{s:Shared}
theorem v7{b:Addr}{vs ws:List Value}{Q:Value->Shared->Prop}(ht:IsTup s.heap t vs.toArray)(hb:IsTup s.heap b ws.toArray)(hv:vs≠[])
  (h1:ws=[]->Q (.ref t) s)(h2:ws≠[]->Q (.ref s.heap.objs.size) {s with heap:=s.heap.push {cls:= .type "tuple",data:= .seq (vs++ws).toArray}})
  (hsz:vs.length+ws.length<=sizeLine):wpAny (model prog w) A (binaryOp .Add (.ref t) (.ref b)) Q E s:=by
 obtain⟨⟨cls,dd,data,sl⟩,ho,hc,n,hd⟩:=id ht;obtain⟨⟨cls2,dd2,data2,sl2⟩,ho2,hc2,n2,hd2⟩:=id hb;simp only at hc hd hc2 hd2;subst hc hd hc2 hd2;have e:vs.toArray++ws.toArray=(vs++ws).toArray:=by simp
 by_cases hw:ws=[]
 ·exact concat_meets ⟨_,ho,rfl⟩ ⟨_,ho2,rfl⟩ noFill_tuple_add seq_tuple_add PySem.F.slot_tuple_add PySem.F.entry_tuple_add (PySem.F.args_tuple_add_2 _ _)
   (tuple_addW1 t b vs.toArray ws.toArray n n2 dd dd2 sl sl2 (by simpa using hv) (by simp[hw])) ⟨ho,ho2,h1 hw⟩
 ·refine concat_meets ⟨_,ho,rfl⟩ ⟨_,ho2,rfl⟩ noFill_tuple_add seq_tuple_add PySem.F.slot_tuple_add PySem.F.entry_tuple_add (PySem.F.args_tuple_add_2 _ _)
   (tuple_addW2 t b vs.toArray ws.toArray n n2 dd dd2 sl sl2 (by simpa using hv) (by simpa using hw) (by rw[List.size_toArray,List.size_toArray];exact hsz)) ⟨ho,ho2,?_⟩
  rw[e];exact h2 hw
noncomputable def cu(n d:Nat):Option Int->Nat
 |none=>d
 |some v=>if v<0 then(v+(n:Int)).toNat else min v.toNat n
theorem xn(n d:Nat)(hd:d<=n)(o:Option Int):cu n d o<=n:=by
 cases o with
 |none=>exact hd
 |some v=>
  show(if v<0 then(v+(n:Int)).toNat else min v.toNat n)<=n
  by_cases hv:v<0
  ·rw[if_pos hv];omega
  ·rw[if_neg hv];exact Nat.min_le_right _ _
theorem qj(v:Int)(n d:Nat):(if v<0 then max (v+(n:Int)) 0 else min v (n:Int))=((cu n d (some v):Nat):Int):=by
 show(if v<0 then max (v+(n:Int)) 0 else min v (n:Int))=(((if v<0 then(v+(n:Int)).toNat else min v.toNat n):Nat):Int)
 by_cases hv:v<0
 ·simp only[if_pos hv];omega
 ·simp only[if_neg hv];omega
theorem oX(lo hi:Option Int)(n:Nat):Builtin.Slice.sliceAdjust lo hi 1 (n:Int)=(((cu n 0 lo:Nat):Int),((cu n n hi:Nat):Int)):=by
 have h1:¬((1:Int)<0):=by omega
 unfold Builtin.Slice.sliceAdjust;simp only[h1,if_false];refine Prod.ext ?_ ?_
 ·cases lo with
  |none=>rfl
  |some v=>exact qj v n 0
 ·cases hi with
  |none=>rfl
  |some v=>exact qj v n n
theorem oz(i j:Nat):Builtin.Slice.slicePlaces (i:Int) (j:Int) 1=j - i:=by
 unfold Builtin.Slice.slicePlaces;have h1:(1:Int)>0:=by omega
 simp only[h1,if_true,Int.ediv_one];split<;>omega
theorem jp{v:Value}{o:Option Int}{Q:Option Int->Shared->Prop}(p:IsPart v o)(h:Q o s):wpAny (model prog w) A (Builtin.Slice.slicePartIndex v) Q E s:=by
 cases p with
 |none=>exact slicePart_none h
 |int i t=>exact slicePart_int h
theorem ia{n:Nat}{Q:Int×Int×Nat->Shared->Prop}(hs:s.heap.IsSliceOf sl vl vu .none)(pl:IsPart vl lo)(pu:IsPart vu hi)
  (h:Q (((cu n 0 lo:Nat):Int),1,cu n n hi - cu n 0 lo) s):wpAny (model prog w) A (Builtin.Slice.sliceApplied (.ref sl) (pure (n:Int))) Q E s:=by
 obtain⟨os,hos,hcs,hds⟩:=id hs;unfold Builtin.Slice.sliceApplied Builtin.Slice.sliceFields;refine aa (aa (aV hos hds (x:=vl) rfl (aa (aV hos hds (x:=vu) rfl (aa (aV hos hds (x:= .none) rfl (af ?_)))))));refine aa (slicePart_none ?_);show wpAny _ _ (if((1:Int)==0)=true then _ else _) _ _ s
 rw[if_neg (by decide)]
 refine aa (jp pl (aa (jp pu (aa (af ?_)))));show wpAny _ _ (match Builtin.Slice.sliceAdjust lo hi 1 (n:Int) with|(lo,hi)=>pure (lo,(1:Int),Builtin.Slice.slicePlaces lo hi 1)) _ _ s
 rw[oX lo hi n];show wpAny _ _ (pure (((cu n 0 lo:Nat):Int),(1:Int),Builtin.Slice.slicePlaces ((cu n 0 lo:Nat):Int) ((cu n n hi:Nat):Int) 1)) _ _ s;rw[oz];exact af h
theorem sK(xs:Array Value)(i k:Nat):((List.range k).filterMap λ(m:Nat)=>xs[((i:Int)+(m:Int)*1).toNat]?).toArray=((xs.toList.drop i).take k).toArray:=by
 have e:(λ(m:Nat)=>xs[((i:Int)+(m:Int)*1).toNat]?)=λm=>xs[i+m]?:=by
  funext m;have:((i:Int)+(m:Int)*1).toNat=i+m:=by omega
  rw[this]
 rw[e];have:=pick_run xs i k;rw[List.filterMap_map] at this;have e2:((λx=>xs[x]?) ∘ λx=>i+x)=λm=>xs[i+m]?:=rfl;rw[e2] at this;rw[this]
theorem gV{items:Array Value}{Q:Value->Shared->Prop}(ht:IsTup s.heap t items)(hs:s.heap.IsSliceOf sl vl vu .none)(pl:IsPart vl lo)(pu:IsPart vu hi)
  (hw:¬(cu items.size 0 lo=0/\cu items.size items.size hi=items.size))
  (h:Q (.ref s.heap.objs.size) {s with heap:=s.heap.push {cls:= .type "tuple",data:= .seq ((items.toList.drop (cu items.size 0 lo)).take (cu items.size items.size hi - cu items.size 0 lo)).toArray}})
  (hsz:items.size<=sizeLine):wpAny (model prog w) A (getItem (.ref t) (.ref sl)) Q E s:=by
 have htake:sizeOk (.seq ((items.toList.drop (cu items.size 0 lo)).take (cu items.size items.size hi - cu items.size 0 lo)).toArray):=by show((items.toList.drop (cu items.size 0 lo)).take (cu items.size items.size hi - cu items.size 0 lo)).toArray.size<=sizeLine;rw[List.size_toArray,List.length_take,List.length_drop,Array.length_toList];omega
 have hj:cu items.size items.size hi<=items.size:=xn _ _ (ah _) hi;obtain⟨os,hos,hcs,hds⟩:=id hs;have hTs:s.TypeIs (.ref sl) "slice":=⟨os,hos,hcs⟩;unfold getItem
 try with_reducible refine wpAny_holding ?_
 first|refine aa (af ?_)|skip
 refine aa (wpAny_sequenceKey ht.typeIs (by decide) ?_)
 refine aa (wpAny_callSpecial?_slot (name:=Str.ofString "__getitem__") ht.typeIs PyProof.Rows.slot_tuple_getitem
  (wpAny_call_entry PyProof.Rows.slot_tuple_getitem ht.typeIs entry_tuple_getitem ?_ (args_tuple_getitem _ _)))
 show wpAny _ _ (Builtin.Tuple.tupleItemsOf (.ref t)>>=_) _ _ s;refine aa (tupleItemsOf_ ht ?_);refine aa (wpAny_typeOf hTs ?_);rw[if_pos (by decide)]
 refine aa (ia hs pl pu ?_)
 have hno:¬((((cu items.size 0 lo:Nat):Int)==0&&(1:Int)==1&&(cu items.size items.size hi - cu items.size 0 lo)==items.size)=true):=by
  intro q;rw[Bool.and_eq_true,Bool.and_eq_true] at q;have q1:((cu items.size 0 lo:Nat):Int)=0:=eq_of_beq q.1.1;have q2:cu items.size items.size hi - cu items.size 0 lo=items.size:=eq_of_beq q.2;exact hw ⟨by omega,by omega⟩
 show wpAny _ _ (if(((cu items.size 0 lo:Nat):Int)==0&&(1:Int)==1&&(cu items.size items.size hi - cu items.size 0 lo)==items.size)=true then _ else _) _ _ s
 rw[if_neg hno,sK]
 first
  |exact aa (m:=Builtin.Tuple.tupleExact _) (wpAny_newObj_type (af ⟨_,rfl,af h⟩) htake)
  |exact aa (m:=Builtin.Tuple.tupleExact _) (wpAny_newObj_type (aa (af (af ⟨_,rfl,af h⟩))) htake)
  |exact aa (aa (m:=Builtin.Tuple.tupleExact _) (wpAny_newObj_type (af (af ⟨_,rfl,af h⟩)) htake))
  |exact aa (aa (m:=Builtin.Tuple.tupleExact _) (wpAny_newObj_type (af ⟨_,rfl,af h⟩) htake))
end
end HT
namespace L2
open PySem PySem.Spec PyProof.Rows
variable{its its' us:List Value}{xs:List V}{n t':Nat}{s:Shared}{pins:List (Addr×Obj)}
noncomputable abbrev TO:=St->Hp->(Option Int->Hp->Prop)->Prop
noncomputable def PO(X:Cx)(e:Option Expr)(t:TO):Prop:=
 ∀(pins:List (Addr×Obj))(s:Shared)(σ:St)(H:Hp)(Q:Option Int->Hp->Prop),Inv X pins σ H s->t σ H Q->
  wpAny (model X.prog X.w) X.A (evalPart e X.env) (λu s'=>∃o H',Inv X pins σ H' s'/\IsPart u o/\Q o H') X.xe s
noncomputable def o_:TO:=λ_ H Q=>Q none H
noncomputable def wo(t:TE):TO:=λσ H Q=>t σ H λx H1=>∃i,x=.int i/\Q (some i) H1
section
variable{X:Cx}{e:Expr}{te:TE}{lo hi:Option Expr}{tl th:TO}{pos p2:Pos}
theorem pF:PO X none o_:=by intro pins s σ H Q I h;rw[evalPart_none];exact af ⟨none,H,I,.none,h⟩
theorem i7(h:PE X e te):PO X (some e) (wo te):=by intro pins s σ H Q I hw;rw[evalPart_some];refine bU (h pins s σ H _ I hw) λu s1 hp=>?_;obtain⟨x,H1,I1,r1,q1⟩:=hp;obtain⟨i,rfl,q⟩:=q1;obtain⟨t,rfl⟩:=r1;exact⟨some i,H1,I1,.int i t,q⟩
noncomputable def AR(X:Cx)(r:V->Option Int->Option Int->Hp->VK->Prop):Prop:=
 ∀(pins:List (Addr×Obj))(s:Shared)(σ:St)(H:Hp)(x:V)(v vl vu:Value)(lo hi:Option Int)(sl:Addr)(Q:VK),Inv X pins σ H s->RelV x v->s.heap.IsSliceOf sl vl vu .none->IsPart vl lo->IsPart vu hi->r x lo hi H Q->
  ∃T id,typeLookup (.type T) "__getitem__"=pure (some (.builtin id))/\s.TypeIs v T/\wpAny (model X.prog X.w) X.A (getItem v (.ref sl)) (EP X pins σ Q) X.xe s
noncomputable def BW(r:V->Option Int->Option Int->Hp->VK->Prop)(te:TE)(tl th:TO):TE:=λσ H Q=>te σ H λx H1=>tl σ H1 λl H2=>th σ H2 λu H3=>r x l u H3 Q
theorem sM{r:V->Option Int->Option Int->Hp->VK->Prop}(hr:AR X r)(he:PE X e te)(hl:PO X lo tl)(hu:PO X hi th):PE X (.Subscript e (.Slice lo hi none p2) pos) (BW r te tl th):=by
 intro pins s σ H Q I h;refine Subscript_ (bU (he pins s σ H _ I h) λv s1 hp=>?_);obtain⟨x,H1,I1,r1,q1⟩:=hp;refine wpAny_Slice (bU (hl pins s1 σ H1 _ I1 q1) λvl s2 ⟨l,H2,I2,pl,q2⟩=>bU (hu pins s2 σ H2 _ I2 q2) λvu s3 hp=>?_);obtain⟨u,H3,I3,pu,q3⟩:=hp;rw[evalPart_none];refine af ?_;have I4:Inv X pins σ H3 {s3 with heap:=s3.heap.push {cls:= .type "slice",data:= .fields #[vl,vu,.none]}}:=I3.kept (t':=s3.toks) λb ob q=>ae _ q;obtain⟨T,id,hT,ht,hg⟩:=hr pins {s3 with heap:=s3.heap.push {cls:= .type "slice",data:= .fields #[vl,vu,.none]}} σ H3 x v vl vu l u s3.heap.objs.size Q I4 r1 (Heap.IsSliceOf.new ..) pl pu q3;show wpAny (model X.prog X.w) X.A (subscriptTail e (.Slice lo hi none p2) v (.ref s3.heap.objs.size)) (EP X pins σ Q) X.xe {s3 with heap:=s3.heap.push {cls:= .type "slice",data:= .fields #[vl,vu,.none]}};exact tail_any (ops:=[.ref s3.heap.objs.size,v]) ht hT hg (by with_unfolding_all rfl)
noncomputable def nD(xs:List V)(lo hi:Option Int):List V:=(xs.drop (HT.cu xs.length 0 lo)).take (HT.cu xs.length xs.length hi - HT.cu xs.length 0 lo)
theorem iN(xs:List V)(lo hi:Option Int):(nD xs lo hi).length<=xs.length:=by unfold nD;rw[List.length_take,List.length_drop];omega
noncomputable def Bc(K:av):V->Option Int->Option Int->Hp->VK->Prop:=λx lo hi H Q=>∃a xs,x=.ref a/\f6 K H a xs/\
 ¬(HT.cu xs.length 0 lo=0/\HT.cu xs.length xs.length hi=xs.length)/\∀p,H p=none->Q (.ref p) (bE H p (.tup (nD xs lo hi)))
theorem wZ:AR X (Bc X.K):=by
 intro pins s σ H x v vl vu lo hi sl Q I rx hs pl pu h;obtain⟨a,xs,rfl,hx,hw,q⟩:=h;cases rx;obtain⟨its,r,ht,hz⟩:=I.tuple hx;have hlen:its.toArray.size=xs.length:=by rw[List.size_toArray];exact r.length.symm
 refine⟨"tuple",_,PyProof.Rows.slot_tuple_getitem.lookup,ht.typeIs,?_⟩;refine HT.gV ht hs pl pu (by rw[hlen];exact hw) ?_ (by rw[hlen];exact hz)
 rw[hlen];refine⟨.ref s.heap.objs.size,_,I.laid (t':=s.toks) (o:= .tup (nD xs lo hi)) (λb ob q=>ae _ q) (ah _) ?_,rfl,q _ (I.hok.fresh (ah _))⟩;exact⟨az (iN xs lo hi) hz,_,(r.drop (HT.cu xs.length 0 lo)).take (HT.cu xs.length xs.length hi - HT.cu xs.length 0 lo),ki.new _ _⟩
noncomputable def zJ(K:av):R2:=λx y H Q=>∃a b xs ys,x=.ref a/\y=.ref b/\f6 K H a xs/\f6 K H b ys/\xs≠[]/\xs.length+ys.length<=sizeLine/\
 (ys=[]->Q (.ref a) H)/\(ys≠[]->∀p,H p=none->Q (.ref p) (bE H p (.tup (xs++ys))))
theorem bm.nil_iff(r:bm xs us):us=[]↔xs=[]:=by
 cases r with
 |nil=>simp
 |cons _ _=>simp
theorem vq:i5 X (binaryOp .Add) (zJ X.K):=by
 intro pins s σ H x y v u Q I rx ry h;obtain⟨a,b,xs,ys,rfl,rfl,ha,hb,hx,hz,q1,q2⟩:=h;cases rx;cases ry;obtain⟨its,r1,p1,_⟩:=I.tuple ha;obtain⟨its2,r2,p2,_⟩:=I.tuple hb;refine HT.v7 p1 p2 (λz=>hx (r1.nil_iff.mp z)) (λz=>⟨.ref a,H,I,rfl,q1 (r2.nil_iff.mp z)⟩) (λz=>?_) (by rw[<-r1.length,<-r2.length];exact hz)
 refine⟨.ref s.heap.objs.size,_,I.laid (t':=s.toks) (o:= .tup (xs++ys)) (λb ob q=>ae _ q) (ah _) ?_,rfl,q2 (λw=>z (r2.nil_iff.mpr w)) _ (I.hok.fresh (ah _))⟩;exact⟨by rw[aA];exact hz,_,r1.append r2,ki.new _ _⟩
end
noncomputable def wD(n:Nat)(i:Int):Option Nat:=if 0<=i then(if i<n then some i.toNat else none) else if -(n:Int)<=i then some (i+n).toNat else none
noncomputable def qm{α:Type}(xs:List α)(i:Int):Option α:=(wD xs.length i).bind λj=>xs[j]?
theorem pW{i:Int}{j:Nat}(h:wD n i=some j):seqIndex? i n=some j/\j<n/\ -(n:Int)<=i/\i<n:=by
 unfold wD at h;by_cases h0:0<=i
 ·rw[if_pos h0] at h;by_cases h1:i<n
  ·rw[if_pos h1] at h;have e:i.toNat=j:=ai h;exact⟨by rw[seqIndex_of h0 h1,e],by omega,by omega,h1⟩
  ·rw[if_neg h1] at h;cases h
 ·rw[if_neg h0] at h;by_cases h1: -(n:Int)<=i
  ·rw[if_pos h1] at h;have e:(i+n).toNat=j:=ai h;exact⟨by rw[seqIndex_neg (by omega) h1,e],by omega,h1,by omega⟩
  ·rw[if_neg h1] at h;cases h
theorem jd{α:Type}{xs:List α}{i:Int}{v:α}(h:qm xs i=some v):∃j,seqIndex? i xs.length=some j/\xs[j]? =some v/\j<xs.length/\ -(xs.length:Int)<=i/\i<xs.length:=by
 unfold qm at h;cases e:wD xs.length i with
 |none=>rw[e] at h;cases h
 |some j=>rw[e] at h;obtain⟨h1,h2,h3,h4⟩:=pW e;exact⟨j,h1,h,h2,h3,h4⟩
noncomputable def wc(b:Expr):Prop:=∀o i,subscripted b false o i=operate [o,i] (getItem o i)
noncomputable def AK(X:Cx)(r:R2):Prop:=
 ∀(value slice:Expr)(pins:List (Addr×Obj))(s:Shared)(σ:St)(H:Hp)(x y:V)(v u:Value)(Q:VK),Inv X pins σ H s->RelV x v->RelV y u->r x y H Q->
  subscripted slice false v u=operate [v,u] (getItem v u)->wpAny (model X.prog X.w) X.A (subscriptTail value slice v u) (EP X pins σ Q) X.xe s
noncomputable def B2(X:Cx)(id:String)(r:V->List V->Hp->VK->Prop):Prop:=
 ∀(pins:List (Addr×Obj))(s:Shared)(σ:St)(H:Hp)(x:V)(xs:List V) (v:Value) (us:List Value)(Q:VK),Inv X pins σ H s->RelV x v->bm xs us->r x xs H Q->
  wpAny (model X.prog X.w) X.A (call (.builtin id) (v::us)) (EP X pins σ Q) X.xe s
section
variable{X:Cx}{a b:Expr}{ta tb:TE}{pos:Pos}
theorem wv{r:R2}(hr:AK X r)(ha:PE X a ta)(hb:PE X b tb)(hs:wc b):PE X (.Subscript a b pos) (wV r ta tb):=by intro pins s σ H Q I h;exact Subscript_ (yK ha hb I h λv u s2 x y H2 I2 rx ry q=>hr a b pins s2 σ H2 x y v u Q I2 rx ry q (hs _ _))
noncomputable def Bg(K:av):R2:=λx y H Q=>∃p xs i v,x=.ref p/\y=.int i/\fW K H p xs/\qm xs i=some v/\Q v H
noncomputable def Bf(K:av):R2:=λx y H Q=>∃p xs i v,x=.ref p/\y=.int i/\f6 K H p xs/\qm xs i=some v/\Q v H
theorem vH:AK X (Bg X.K):=by
 intro value slice pins s σ H x y v u Q I rx ry h hs;obtain⟨p,xs,i,z,rfl,rfl,hq,he,q⟩:=h;cases rx;obtain⟨t,rfl⟩:=ry;obtain⟨its,r,pl,hz⟩:=I.list hq;obtain⟨j,h1,h2,h3,h4,h5⟩:=jd he;obtain⟨w,ew,rw'⟩:=r.get h2;have hl:=r.length;have hn:=lG;have fin:EP X pins σ Q w s:=⟨z,H,I,rw',q⟩;by_cases h0:0<=i
 ·have hj:i.toNat=j:=by rw[seqIndex_of h0 h5] at h1;exact ai h1
  exact item_listR pl.isList h0 (by omega) (by rw[hj];simpa using ew) fin hs
 ·have hj:(i+(its.toArray.size:Int)).toNat=j:=by
   rw[seqIndex_neg (by omega) h4] at h1
   rw[List.size_toArray,<-hl];exact ai h1
  exact subscriptTail_builtinR (x:=w) pl.isList.typeIs slot_list_getitem.lookup
   (wpAny_getItem_list_neg (Q:=λr s'=>r=w/\EP X pins σ Q r s') pl.isList (by omega) (by rw[List.size_toArray]<;>omega) (by omega) (by rw[hj];simpa using ew) ⟨rfl,fin⟩) hs
theorem yh:AK X (Bf X.K):=by
 intro value slice pins s σ H x y v u Q I rx ry h hs;obtain⟨p,xs,i,z,rfl,rfl,hq,he,q⟩:=h;cases rx;obtain⟨t,rfl⟩:=ry;obtain⟨its,r,pl,hz⟩:=I.tuple hq;obtain⟨j,h1,h2,h3,h4,h5⟩:=jd he;obtain⟨w,ew,rw'⟩:=r.get h2;have hl:=r.length;have hn:=lG;have fin:EP X pins σ Q w s:=⟨z,H,I,rw',q⟩
 exact subscriptTail_builtinR (x:=w) pl.typeIs slot_tuple_getitem.lookup
  (getItem_tuple (j:=j) (Q:=λr s'=>r=w/\EP X pins σ Q r s') pl (by omega) (by omega) (by rw[List.size_toArray,<-hl];exact h1) (by simpa using ew) ⟨rfl,fin⟩) hs
theorem oE(its:List Value)(n j:Nat)(u:Value):Obj.mapSeq (·.setIfInBounds j u) {cls:= .type "list",data:= .seq its.toArray n}={cls:= .type "list",data:= .seq (its.set j u).toArray n}:=by simp[Obj.mapSeq]
theorem Inv.lst{σ:St}{H:Hp}{p:Addr}(I:Inv X pins σ H s)(h:H p=some (.lst xs)):
  ∃(its:List Value)(n:Nat),bm xs its/\s.heap.get? p=some {cls:= .type "list",data:= .seq its.toArray n}/\xs.length<=sizeLine:=by
 obtain⟨z,its,n,r,e⟩:=I.hok p _ h;exact⟨its,n,r,e,z⟩
theorem Inv.lstUpd{σ:St}{H:Hp}{p:Addr}{ys:List V}{n':Nat}{f:Obj->Obj}(I:Inv X pins σ H s)(h:H p=some (.lst xs))
  (ho:s.heap.get? p=some {cls:= .type "list",data:= .seq its.toArray n}) (hf:f {cls:= .type "list",data:= .seq its.toArray n}={cls:= .type "list",data:= .seq its'.toArray n'}) (r:bm ys its')(hz:ys.length<=sizeLine)(t:Nat):
  Inv X pins σ (bE H p (.lst ys)) {s with heap:=s.heap.update p f,toks:=t}:=by
 have e:(s.heap.update p f).get? p=some {cls:= .type "list",data:= .seq its'.toArray n'}:=by
  rw[Heap.get?_update_self f ho (by rw[hf]<;>rfl),hf]
 refine I.write (x:=p) (e:=p) (by rw[h];trivial) (.inl rfl) (λb u hb q=>(Heap.get?_update_other _ _ (Ne.symm hb)).trans q) ⟨_,e⟩ ?_
 exact⟨hz,its',n',r,e⟩
noncomputable def zI:V->V->V->Hp->(Hp->Prop)->Prop:=λo i v H Q=>∃p xs k j,o=.ref p/\i=.int k/\H p=some (.lst xs)/\wD xs.length k=some j/\Q (bE H p (.lst (xs.set j v)))
theorem set_list:AG X zI:=by
 intro pins s σ H o i v ov iv u Q I ro ri rv h;obtain⟨p,xs,k,j,rfl,rfl,hp,hj,q⟩:=h;cases ro;obtain⟨t,rfl⟩:=ri;obtain⟨its,n,r,ho,hz⟩:=I.lst hp;obtain⟨h1,h2,h3,h4⟩:=pW hj;have hl:=r.length;have hn:=lG
 have I':Inv X pins σ (bE H p (.lst (xs.set j v))) {s with heap:=s.heap.update p (Obj.mapSeq (·.setIfInBounds j u))}:=
  I.lstUpd hp ho (oE its n j u) (r.set rv j) (by rw[aS];exact hz) s.toks
 by_cases h0:0<=k
 ·have hk:k.toNat=j:=by rw[seqIndex_of h0 h4] at h1;exact ai h1
  exact PySem.W.ki_setAt ho h0 (by omega) (by rw[List.size_toArray,<-hl];exact h4) (by rw[hk];exact⟨_,I',q⟩)
 ·have hk:(k+(its.toArray.size:Int)).toNat=j:=by
   rw[seqIndex_neg (by omega) h3] at h1
   rw[List.size_toArray,<-hl];exact ai h1
  exact PySem.W.ki_setBack ho (by omega) (by rw[List.size_toArray,<-hl];exact h3) (by omega) (by rw[hk];exact⟨_,I',q⟩)
theorem lj(lo hi:Option Int)(n:Nat):(sliceBounds lo hi none n).1=((HT.cu n 0 lo:Nat):Int)/\(sliceBounds lo hi none n).2.1=((HT.cu n n hi:Nat):Int)/\(sliceBounds lo hi none n).2.2=1:=by
 refine⟨?_,?_,rfl⟩
 ·cases lo with
  |none=>simp[sliceBounds,HT.cu]
  |some i=>
   simp only[sliceBounds,HT.cu,Option.getD_none,show(1:Int)>0 by decide,if_true]
   by_cases h:i<0
   ·simp only[h,if_true]<;>omega
   ·simp only[h,if_false]<;>omega
 ·cases hi with
  |none=>simp[sliceBounds,HT.cu]
  |some i=>
   simp only[sliceBounds,HT.cu,Option.getD_none,show(1:Int)>0 by decide,if_true]
   by_cases h:i<0
   ·simp only[h,if_true]<;>omega
   ·simp only[h,if_false]<;>omega
theorem j7(its:List Value)(lo hi:Option Int):slicePick its.toArray lo hi none=((its.drop (HT.cu its.length 0 lo)).take (HT.cu its.length its.length hi - HT.cu its.length 0 lo)).toArray:=by obtain⟨h1,h2,h3⟩:=lj lo hi its.toArray.size;unfold slicePick;rw[h1,h2,h3];simp only[sliceRange_one,pick_run,List.size_toArray]<;>rfl
noncomputable def Bd(K:av):V->Option Int->Option Int->Hp->VK->Prop:=λx lo hi H Q=>∃a xs,x=.ref a/\fW K H a xs/\∀p,H p=none->Q (.ref p) (bE H p (.lst (nD xs lo hi)))
theorem uX:AR X (Bd X.K):=by
 intro pins s σ H x v vl vu lo hi sl Q I rx hs pl pu h;obtain⟨a,xs,rfl,hx,q⟩:=h;cases rx;obtain⟨its,r,ht,hz⟩:=I.list hx;have hlen:=r.length;refine⟨"list",_,slot_list_getitem.lookup,ht.isList.typeIs,?_⟩;refine wpAny_getItem_list_slice ht.isList hs pl pu .none (by simp) ?_ (by rw[List.size_toArray]<;>omega)
 rw[j7,<-hlen];refine⟨.ref s.heap.objs.size,_,I.laid (t':=s.toks) (o:= .lst (nD xs lo hi)) (λb ob q=>ae _ q) (ah _) ?_,rfl,q _ (I.hok.fresh (ah _))⟩;exact⟨az (iN xs lo hi) hz,_,0,(r.drop (HT.cu xs.length 0 lo)).take (HT.cu xs.length xs.length hi - HT.cu xs.length 0 lo),am _ rfl⟩
noncomputable def cC:V->Bool
 | .non=>true
 | .bl _=>true
 | .int _=>true
 | .str _=>true
 |_=>false
noncomputable def qb:V->V->Bool
 | .non,.non=>true
 | .bl a,.bl b=>a==b
 | .bl a,.int b=>(if a then 1 else 0)==b
 | .int a,.bl b=>a==(if b then 1 else 0)
 | .int a,.int b=>a==b
 | .str a,.str b=>a==b
 |_,_=>false
theorem yu{A:Around}{y x:V}{u v:Value}(ry:RelV y u)(rx:RelV x v)(fy:cC y=true)(fx:cC x=true):SeqAt.EqAt A s u v (qb y x):=by
 cases y with
 |non=>
  cases ry;cases x with
  |non=>cases rx;exact SeqAt.EqAt.same _
  |bl b=>cases rx;exact SeqAt.EqAt.none_bool b
  |int b=>obtain⟨t,rfl⟩:=rx;exact SeqAt.EqAt.none_int b t
  |str b=>obtain⟨t,rfl⟩:=rx;exact SeqAt.EqAt.none_str b t
  |_=>exact jM fx
 |bl a=>
  cases ry;cases x with
  |non=>cases rx;exact SeqAt.EqAt.bool_none a
  |bl b=>cases rx;exact SeqAt.EqAt.bool_bool a b
  |int b=>obtain⟨t,rfl⟩:=rx;exact SeqAt.EqAt.bool_int a b t
  |str b=>obtain⟨t,rfl⟩:=rx;exact SeqAt.EqAt.bool_str a b t
  |_=>exact jM fx
 |int a=>
  obtain⟨t',rfl⟩:=ry;cases x with
  |non=>cases rx;exact SeqAt.EqAt.int_none a t'
  |bl b=>cases rx;exact SeqAt.EqAt.int_bool a t' b
  |int b=>obtain⟨t,rfl⟩:=rx;exact SeqAt.EqAt.int_int a t' b t
  |str b=>obtain⟨t,rfl⟩:=rx;exact SeqAt.EqAt.int_str a t' b t
  |_=>exact jM fx
 |str a=>
  obtain⟨t',rfl⟩:=ry;cases x with
  |non=>cases rx;exact SeqAt.EqAt.str_none a t'
  |bl b=>cases rx;exact SeqAt.EqAt.str_bool a t' b
  |int b=>obtain⟨t,rfl⟩:=rx;exact SeqAt.EqAt.str_int a t' b t
  |str b=>obtain⟨t,rfl⟩:=rx;exact SeqAt.EqAt.str_str a t' b t
  |_=>exact jM fx
 |_=>exact jM fy
noncomputable def inV(x:V)(xs:List V):Bool:=xs.any λy=>qb y x
theorem mf:eZ X (.builtin "len") (λxs H Q=>∃p ys,xs=[.ref p]/\(fW X.K H p ys∨f6 X.K H p ys)/\Q (.int ys.length) H):=by
 intro pins s σ H xs us Q I r h;obtain⟨p,ys,rfl,hq,q⟩:=h;obtain⟨u,rfl,rx⟩:=vals1 r;cases rx;have hn:=lG;rcases hq with hq|hq
 ·obtain⟨its,r',pl,hz⟩:=I.list hq;have hlen:=r'.length;exact Calls.call_len_list pl.isList (by simp only[List.size_toArray]<;>omega) ⟨.int ys.length,H,I.tok _,⟨s.toks+1,by rw[List.size_toArray,hlen]⟩,q⟩
 ·obtain⟨its,r',pl,hz⟩:=I.tuple hq;have hlen:=r'.length;exact len_tuple pl (by simp only[List.size_toArray]<;>omega) ⟨.int ys.length,H,I.tok _,⟨s.toks+1,by rw[List.size_toArray,hlen]⟩,q⟩
theorem me:eZ X (.type "list") (λxs H Q=>∃p ys,xs=[.ref p]/\(fW X.K H p ys∨f6 X.K H p ys)/\∀l,H l=none->Q (.ref l) (bE H l (.lst ys))):=by
 intro pins s σ H xs us Q I r h;obtain⟨p,ys,rfl,hq,q⟩:=h;obtain⟨u,rfl,rx⟩:=vals1 r;cases rx
 have fin:∀(its:List Value),bm ys its->ys.length<=sizeLine->∀(h':Heap)(c':Nat),(∀b o',s.heap.get? b=some o'->h'.get? b=some o')->
   h'.get? s.heap.objs.size=some {cls:= .type "list",dict:=none,data:= .seq its.toArray c',slots:= #[]}->EP X pins σ Q (.ref s.heap.objs.size) {s with heap:=h'}:=λits r' hz h' c' kp e=>
  ⟨.ref s.heap.objs.size,_,I.laid (t':=s.toks) kp (ah _) (show bM X.prog X.w _ h' _ (.lst ys) from⟨hz,its,c',r',e⟩),rfl,q _ (I.hok.fresh (ah _))⟩
 rcases hq with hq|hq
 ·obtain⟨its,r',pl,hz⟩:=I.list hq;have hlen:=r'.length;obtain⟨o,ho,hc,n,hd⟩:=pl.isList;exact call_list_seq p (.inl rfl) ho hc hd (λh' c' kp e=>fin its r' hz h' c' kp e) (by simp only[List.size_toArray]<;>omega)
 ·obtain⟨its,r',pl,hz⟩:=I.tuple hq;have hlen:=r'.length;obtain⟨o,ho,hc,n,hd⟩:=pl;exact call_list_seq p (.inr rfl) ho hc hd (λh' c' kp e=>fin its r' hz h' c' kp e) (by simp only[List.size_toArray]<;>omega)
theorem f9:eZ X (.type "tuple") (λxs H Q=>∃p ys,xs=[.ref p]/\((fW X.K H p ys/\∀l,H l=none->Q (.ref l) (bE H l (.tup ys)))∨(f6 X.K H p ys/\Q (.ref p) H))):=by
 intro pins s σ H xs us Q I r h;obtain⟨p,ys,rfl,h⟩:=h;obtain⟨u,rfl,rx⟩:=vals1 r;cases rx;rcases h with⟨hq,q⟩|⟨hq,q⟩
 ·obtain⟨its,r',pl,hz⟩:=I.list hq;have hlen:=r'.length;refine call_tuple_list pl.isList (λh' kp=>?_) (by simp only[List.size_toArray]<;>omega)
  have I1:Inv X pins σ H {s with heap:=h'}:=I.kept (t':=s.toks) kp
  have I2:Inv X pins σ (bE H h'.objs.size (.tup ys)) {s with heap:=h'.push {cls:= .type "tuple",data:= .seq its.toArray}}:=
   I1.laid (t':=s.toks) (λb o e=>ae _ e) (ah _) (show bM X.prog X.w _ _ _ (.tup ys) from⟨hz,its,r',ki.new _ _⟩)
  exact⟨.ref h'.objs.size,_,I2,rfl,q _ (I1.hok.fresh (ah _))⟩
 ·obtain⟨its,r',pl,hz⟩:=I.tuple hq;exact call_tuple_same pl ⟨.ref p,H,I,rfl,q⟩
noncomputable def BI(K:av)(T:String)(x:V)(H:Hp):Prop:=match x with
 | .str _=>T= "str"
 | .int _=>T= "int"
 | .ref p=>(T= "list" /\∃xs,fW K H p xs)∨(T= "tuple" /\∃o,K.lookup p=some o/\o.cls=.type "tuple" /\o.dict=none)∨
   (T= "dict" /\((∃kvs,H p=some (.dK kvs))∨∃kvs,H p=some (.dT kvs)))∨(T= "set" /\∃S n,H p=some (.set S n))
 |_=>False
theorem wS{σ:St}{H:Hp}{T:String}{x:V}{v:Value}(I:Inv X pins σ H s)(r:RelV x v)(ty:BI X.K T x H):
  s.TypeIs v T/\∀a,v=.ref a->∃ob,s.heap.get? a=some ob/\ob.dict=none:=by
 cases x with
 |str z=>obtain⟨t,rfl⟩:=r;cases(show T= "str" from ty);exact⟨typeIs_str s z t,λ_ e=>nomatch e⟩
 |int i=>obtain⟨t,rfl⟩:=r;cases(show T= "int" from ty);exact⟨typeIs_int s i t,λ_ e=>nomatch e⟩
 |ref p=>
  cases r;rcases ty with⟨rfl,xs,hq⟩|⟨rfl,o,hk,hc,hd⟩|⟨rfl,hk⟩|⟨rfl,S,n,hk⟩
  ·obtain⟨its,_,pl,_⟩:=I.list hq;refine⟨pl.isList.typeIs,λa e=>?_⟩;cases e;obtain⟨o,n,e,c,hd,_⟩:=pl;exact⟨o,e,hd⟩
  ·refine⟨⟨o,I.kIn p o hk,hc⟩,λa e=>?_⟩;cases e;exact⟨o,I.kIn _ o hk,hd⟩
  ·have z:∃o,s.heap.get? p=some o/\o.ExactDict:=by
    rcases hk with⟨kvs,hk⟩|⟨kvs,hk⟩
    ·obtain⟨_,_,_,_,o,_,_,e,ex,_⟩:=I.hok p _ hk;exact⟨o,e,ex⟩
    ·obtain⟨_,_,_,_,o,_,_,e,ex,_⟩:=I.hok p _ hk;exact⟨o,e,ex⟩
   obtain⟨o,e,ex⟩:=z;refine⟨⟨o,e,ex.1⟩,λa e2=>?_⟩;cases e2;exact⟨o,e,ex.2.1⟩
  ·obtain⟨o,_,_,_,e,ex,_⟩:=I.hok p _ hk;refine⟨⟨o,e,ex.1⟩,λa e2=>?_⟩;cases e2;exact⟨o,e,ex.2.1⟩
 |_=>exact False.elim ty
noncomputable def BY(K:av)(T:String)(r:V->List V->Hp->VK->Prop)(to:TE)(t:TA):TE:=λσ H Q=>to σ H λx H1=>BI K T x H1/\t σ H1 λxs H2=>r x xs H2 Q
variable{o e:Expr}{es:List Expr}{to:TE}{t:TA}{name:Str}{apos cpos:Pos}{T id:String}{r:V->List V->Hp->VK->Prop}
theorem ww(pa:PlainAttrs T)(slot:Slot T name id)(hty:typeOf (.builtin id)=pure (.type "method_descriptor"))(hm:B2 X id r)(ho:PE X o to)(ha:PA X (e::es) t)
  (hbase:attributeBase o name X.env (eval o X.env)=eval o X.env:=by rfl)
  (hfew:((backTo cpos (starEach (e::es) X.env)).all (λx=> !x.1)&&(backToKw cpos (keywordEach [] X.env)).all (λx=>x.1.isSome)
   &&decide ((e::es).length+([]:List Keyword).length+(if([]:List Keyword).isEmpty then 0 else 1)<30))=true:=by rfl)
  (hline:(apos.endLine==cpos.line)=true:=by rfl)(hs:starEach (e::es) X.env=(false,eval e X.env)::starEach es X.env:=by rfl)(hplain:(backTo cpos (starEach es X.env)).any (·.1)=false:=by rfl):
  PE X (.Call (.Attribute o name apos) (e::es) [] cpos) (BY X.K T r to t):=by
 intro pins s σ H Q I h;refine wpAny_Call_method_late hbase hfew hline rfl (bU (ho pins s σ H _ I h) λv s1 hp=>?_);obtain⟨x,H1,I1,r1,ty,q1⟩:=hp;obtain⟨h1,h2⟩:=wS I1 r1 ty;refine⟨T,id,pa,slot,hty,h1,h2,?_⟩;have hA:=ha cpos pins s1 σ H1 _ I1 q1;rw[hs] at hA ⊢;refine Calls.callWith_builtin (by show(false||(backTo cpos (starEach es X.env)).any (·.1))=false;rw[hplain]<;>rfl) (Calls.evalArgs_plain ?_)
 exact bU hA λus s2 ⟨vs,H2,I2,r2,q2⟩=>hm pins s2 σ H2 x vs v us Q I2 r1 r2 q2
end
noncomputable def BQ(X:Cx)(id:String)(r:V->List V->Hp->VK->Prop):Prop:=
 ∀(pins:List (Addr×Obj))(s:Shared)(σ:St)(H:Hp)(x:V)(xs:List V) (v:Value) (us:List Value)(Q:VK),Inv X pins σ H s->RelV x v->bm xs us->r x xs H Q->
  wpAny (model X.prog X.w) X.A (call (.builtin id) (v::us)) (EP X pins σ Q) X.xe s
theorem bm.one:∀{x:V}{us:List Value},bm [x] us->∃u,us=[u]/\RelV x u
 |_,_,.cons r .nil=>⟨_,rfl,r⟩
theorem bm.eraseIdx:∀{xs:List V}{us:List Value}(i:Nat),bm xs us->bm (xs.eraseIdx i) (us.eraseIdx i)
 |_,_,_,.nil=>.nil
 |_,_,0,.cons _ t=>t
 |_,_,i+1,.cons r t=>.cons r (bm.eraseIdx i t)
theorem bm.rep(h:bm xs us):∀k:Nat,bm (List.replicate k xs).flatten (List.replicate k us).flatten
 |0=>.nil
 |k+1=>by rw[List.replicate_succ,List.replicate_succ,List.flatten_cons,List.flatten_cons];exact bm.append h (bm.rep h k)
theorem kx{α:Type}:∀(l:List α)(i:Nat),(l.eraseIdx i).length<=l.length
 |[],_=>ah _
 |_::_,0=>Nat.le_succ _
 |_::r,i+1=>Nat.succ_le_succ (kx r i)
theorem foldl_rep(its:List Value):∀(k:Nat)(acc:List Value),
  List.foldl (λx1 x2=>x1++x2) acc.toArray (List.replicate k its.toArray)=(acc++(List.replicate k its).flatten).toArray
 |0,acc=>by simp
 |k+1,acc=>by
  have e:acc.toArray++its.toArray=(acc++its).toArray:=by simp
  have e2:(acc++its)++(List.replicate k its).flatten=acc++(List.replicate (k+1) its).flatten:=by rw[List.replicate_succ,List.flatten_cons,List.append_assoc]
  rw[<-e2,<-foldl_rep its k (acc++its),<-e,List.replicate_succ,List.foldl_cons]
section
variable{X:Cx}{pins:List (Addr×Obj)}{σ:St}{H:Hp}{s:Shared}{l:Addr}{xs ys:List V}
theorem Inv.lset{f:Array Value->Array Value}(I:Inv X pins σ H s)(hH:H l=some (.lst xs))
  (e:s.heap.get? l=some {cls:= .type "list",data:= .seq its.toArray n}) (hf:f its.toArray=its'.toArray)(hv:bm ys its')(hz:ys.length<=sizeLine):
  Inv X pins σ (bE H l (.lst ys)) {s with heap:=s.heap.update l (Obj.mapSeq f),toks:=t'}:=by
 have q:=PySem.IsL.update e f;rw[hf] at q;refine I.write (x:=l) (e:=l) (by rw[hH];exact trivial) (.inl rfl) (λb' u hb hu=>(Heap.get?_update_other s.heap (Obj.mapSeq f) (Ne.symm hb)).trans hu) ⟨_,q⟩ ?_
 exact⟨hz,its',_,hv,q⟩
theorem Inv.lnew(I:Inv X pins σ H s)(hv:bm ys its)(hz:ys.length<=sizeLine):
  Inv X pins σ (bE H s.heap.objs.size (.lst ys)) {s with heap:=s.heap.push {cls:= .type "list",data:= .seq its.toArray},toks:=t'}:=
 I.laid (λ_ _ q=>ae _ q) (ah _) ⟨hz,its,0,hv,am _ rfl⟩
theorem Inv.fresh(I:Inv X pins σ H s):H s.heap.objs.size=none:=I.hok.fresh (ah _)
theorem Inv.lstM(I:Inv X pins σ H s)(hH:H l=some (.lst xs)):xs.length<=sizeLine/\∃(its:List Value)(n:Nat),bm xs its/\xs.length=its.length/\s.heap.get? l=some {cls:= .type "list",data:= .seq its.toArray n}:=by obtain⟨z,its,n,r,e⟩:=I.hok l _ hH;exact⟨z,its,n,r,r.length,e⟩
theorem sU(h:n<=sizeLine):Builtin.List.listTooLong n=false:=by
 unfold Builtin.List.listTooLong;exact decide_eq_false (by omega)
end
section
variable{X:Cx}
noncomputable def vc:V->List V->Hp->VK->Prop:=λx vs H Q=>∃l xs y,x=.ref l/\vs=[y]/\H l=some (.lst xs)/\xs.length<sizeLine/\Q .non (bE H l (.lst (xs++[y])))
theorem ip:BQ X "list.append" vc:=by
 intro pins s σ H x vs v us Q I rx rv h;obtain⟨l,xs,y,rfl,rfl,hH,hz,q⟩:=h;cases rx;obtain⟨u,rfl,ru⟩:=rv.one;obtain⟨z,its,n,r,hl,e⟩:=I.lstM hH;refine call_meets F.slot_list_append ⟨_,e,rfl⟩ F.entry_list_append (F.args_list_append_2 _ _) (PySem.list_append l its.toArray n u (by rw[List.size_toArray];omega)) ⟨e,?_⟩
 refine⟨.non,_,I.lset (its':=its++[u]) hH e (by simp) (r.append (.cons ru .nil)) ?_,rfl,q⟩
 rw[aA,List.length_singleton];omega
noncomputable def xp:V->List V->Hp->VK->Prop:=λx vs H Q=>∃l xs i k y,x=.ref l/\vs=[.int i]/\H l=some (.lst xs)/\ -(2^63)<=i/\i<2^63/\seqIndex? i xs.length=some k/\xs[k]? =some y/\Q y (bE H l (.lst (xs.eraseIdx k)))
theorem sY:BQ X "list.pop" xp:=by
 intro pins s σ H x vs v us Q I rx rv h;obtain⟨l,xs,i,k,y,rfl,rfl,hH,h1,h2,hk,hy,q⟩:=h;cases rx;obtain⟨u,rfl,ru⟩:=rv.one;obtain⟨t,rfl⟩:=ru;obtain⟨z,its,n,r,hl,e⟩:=I.lstM hH;obtain⟨w,hw,rw'⟩:=r.get hy
 refine call_meets F.slot_list_pop ⟨_,e,rfl⟩ F.entry_list_pop (F.args_list_pop_2 _ _)
  (MeetsSeq.list_pop_at l its.toArray n i t k w (fitsIndex_both h1 h2) (by rw[List.size_toArray,<-hl];exact hk) (by rw[<-Array.getElem?_toList];exact hw) (by rw[List.size_toArray];omega)) ⟨e,?_⟩
 refine⟨y,_,I.lset (its':=its.eraseIdx k) hH e ?_ (r.eraseIdx k) ?_,rw',q⟩
 ·show its.toArray.eraseIdxIfInBounds k=(its.eraseIdx k).toArray;rw[List.eraseIdxIfInBounds_toArray]
 ·have:=kx xs k;omega
noncomputable def Bi:R2:=λx y H Q=>∃l b xs zs,x=.ref l/\y=.ref b/\H l=some (.lst xs)/\H b=some (.lst zs)/\xs.length+zs.length<=sizeLine/\∀p,H p=none->Q (.ref p) (bE H p (.lst (xs++zs)))
theorem xT:i5 X (binaryOp .Add) Bi:=by
 intro pins s σ H x y v u Q I rx ry h;obtain⟨l,b,xs,zs,rfl,rfl,hH,hB,hz,q⟩:=h;cases rx;cases ry;obtain⟨z,its,n,r,hl,e⟩:=I.lstM hH;obtain⟨z2,its2,n2,r2,hl2,e2⟩:=I.lstM hB;refine PySem.P.add_list e e2 ?_ (by rw[List.size_toArray,List.size_toArray];omega)
 have ea:its.toArray++its2.toArray=(its++its2).toArray:=by simp
 rw[ea];exact⟨.ref _,_,I.lnew (t':=s.toks) (r.append r2) (by rw[aA];omega),rfl,q _ I.fresh⟩
noncomputable def Be:R2:=λx y H Q=>∃l k xs,x=.ref l/\y=.int k/\H l=some (.lst xs)/\ -(2^63)<=k/\k<2^63/\xs.length*k.toNat<=sizeLine/\
 ∀p,H p=none->Q (.ref p) (bE H p (.lst (List.replicate k.toNat xs).flatten))
theorem len_rep{α:Type}(xs:List α)(k:Nat):(List.replicate k xs).flatten.length=k*xs.length:=by
 induction k with
 |zero=>simp
 |succ k ih=>rw[List.replicate_succ,List.flatten_cons,aA,ih,Nat.succ_mul,Nat.add_comm]
theorem xP:i5 X (binaryOp .Mult) Be:=by
 intro pins s σ H x y v u Q I rx ry h;obtain⟨l,k,xs,rfl,rfl,hH,h1,h2,hz,q⟩:=h;cases rx;obtain⟨t,rfl⟩:=ry;obtain⟨z,its,n,r,hl,e⟩:=I.lstM hH;have hlen:its.toArray.size*k.toNat<=sizeLine:=by rw[List.size_toArray,<-hl];exact hz
 have hcap:¬its.toArray.size*k.toNat>(2^63 - 1) / 8:=by
  have:(sizeLine:Nat)<=(2^63 - 1) / 8:=by decide
  omega
 have hfit:¬(!Builtin.List.listFitsIndex k)=true:=by rw[fitsIndex_both h1 h2];exact aF
 have hlong:¬Builtin.List.listTooLong (its.toArray.size*k.toNat)=true:=by rw[sU hlen];exact aF
 have hnew:List.foldl (λx1 x2=>x1++x2) #[] (List.replicate (if its.toArray.isEmpty=true then 0 else k.toNat) its.toArray)=(List.replicate k.toNat its).flatten.toArray:=by
  have f0:∀m:Nat,List.foldl (λx1 x2=>x1++x2) #[] (List.replicate m its.toArray)=(List.replicate m its).flatten.toArray:=λm=>by have:=foldl_rep its m [];rw[List.nil_append] at this;exact this
  rw[f0];cases its with
  |nil=>simp
  |cons a r'=>rw[if_neg (by simp)]
 refine wpAny_binaryOp_repeat_ref (T:= "list") (U:= "int") (by decide) ⟨_,e,rfl⟩ (λs'=>typeIs_int s' k t) noFill_list_mul F.fills_int_mul F.slot_int_rmul repeat_list F.slot_int_index.lookup
  (call_meets F.slot_int_rmul (typeIs_int s k t) F.entry_int_rmul (F.args_int_rmul_2 _ _) (int___rmul___int_list k t l its.toArray n)
   ⟨e,rfl,⟨_,e,rfl⟩,call_meets F.slot_list_mul ⟨_,e,rfl⟩ F.entry_list_mul (F.args_list_mul_2 _ _) (AutoListH.list___mul___list_int_3 l its.toArray n k t hfit hcap hlong) ⟨e,?_⟩⟩)
 rw[hnew];exact⟨.ref _,_,I.lnew (t':=s.toks) (r.rep k.toNat) (by rw[len_rep,Nat.mul_comm];exact hz),rfl,q _ I.fresh⟩
end
section
end
section
end
end L2
namespace Att
open PySem PySem.W PySem.Calls PyProof.Rows
theorem iR{P:Params}{h:Heap}:∀(ns:List Int)(vs:List Value),WellAll P h vs (ns.map WData.int)->IntsAre vs ns:=by
 intro ns
 induction ns with
 |nil=>intro vs w;rw[List.map_nil] at w;cases w;exact .nil
 |cons n ns ih=>
  intro vs w;rw[List.map_cons] at w;cases w with
  |cons a b=>cases a;exact .cons _ _ (ih _ b)
theorem qu{l:OpenLaw}{n:Nat}(hn:l.most=some n){P:Params}{h:Heap}{args:List WData}{vals:List Value}
  (hpre:l.row.toRowW.claim.pre args=true)(hwl:WellAll P h vals args):
  ∃a vs ns,vals=[Value.ref a]/\args=[WData.list (ns.map WData.int)]/\h.get? a=some {cls:= .type "list",data:= .seq vs.toArray}/\IntsAre vs ns/\ns.length<=n:=by
 have hsh:WShape.hasAll [] args [.list .int]=true:=(pre_splitW hpre).1;have hc:l.pre.holds [] {args:=args}=true:=(pre_splitW hpre).2;obtain⟨d,r,rfl,h1,h2⟩:=hasAllW_cons hsh;obtain rfl:=hasAllW_nil h2;obtain⟨xs,rfl,h3⟩:=hasW_list h1;obtain⟨ns,rfl⟩:=items_int h3
 have hlen:ns.length<=n:=by
  unfold OpenLaw.pre at hc
  have h4:(WTm.not (.lt (.lit (.int (n:Int))) (.len (.arg 0)))).holds [] {args:=[.list (ns.map .int)]}=true:=by have h4:=(holds_andW hc).1;rw[hn] at h4;exact h4
  have h5:=condW_of h4 (w_not (w_lt w_lit (w_len_list (w_arg rfl))));rw[List.length_map] at h5;refine Nat.le_of_not_lt λq=>?_;have q':(n:Int)<((ns.length:Nat):Int):=by omega
  first
   |(rw[decide_eq_true q'] at h5;exact absurd h5 (by decide))
   |(simp at h5;omega)
 cases hwl with
 |cons w1 w2=>
  cases w2;cases w1 with
  |list ho hall=>exact⟨_,_,ns,rfl,rfl,ho,iR ns _ hall,hlen⟩
theorem qA(l:OpenLaw)(args:List WData):l.row.toRowW.claim.post args (.bool true) args=true:=
 postW_of (r:=l.row.toRowW) (X:=(true==true))
  (show WShape.has [] (.bool true) .bool=true by first|rfl|decide|simp[WShape.has,WShape.arms,WShape.armsAll])
  (show(WTm.eq .res (.lit (.bool true))).value [] {args:=args,res:=some (.bool true),after:=args}=some (.bool (true==true)) from w_eq_bool (w_res rfl) w_lit) rfl
theorem nJ{l:OpenLaw}{n:Nat}{q:Program}{loose:List Str}{XP:(Str->Option Value)->Heap->Prop}{YP:World->Heap->Prop}{d:DefRec}
  (hn:l.most=some n)(hdf:d.params.defaults=[])
  (call:∀(w:World)(s₀ s₁:Shared)(mg mb:Str->Option Value)(fa:Addr)(o:Obj)(pm cd doc:Value)(a:Addr)(vs:List Value) (ns:List Int),
   Ground q loose [] XP w s₀ mg mb s₁.heap->YP w s₁.heap->
   s₁.heap.get? fa=some o->o.data=.func (docDef d.name d.params d.body d.scope pm cd doc)->s₁.heap.CodeRec cd d.name->mg d.name=some (.ref fa)->
   s₁.heap.get? a=some {cls:= .type "list",data:= .seq vs.toArray}->IntsAre vs ns->ns.length<=n->s₁.gens= #[]->
   codeAny (model l.prog w) callerA (.call (.ref fa) ⟨[.ref a],[]⟩) (λr s'=>r=.ok (.ret (.bool true))/\OldK s₁.heap s'.heap/\s'.os=s₁.os/\AllBare s'.gens) s₁):
  WalkO q loose XP YP l.row.toRowW d [] (λf vs=>PySem.call f vs):=by
 intro w s₀ s₁ mg mb G Y fa o pm cd doc dV kV ho hd hcd hD hmg hg args vals as hpre hlay hrd hwl hlo;obtain rfl:dV=.none:=Dflts.none hD hdf;obtain rfl:kV=.none:=Dflts.noKw hD;obtain⟨a,vs,ns,rfl,rfl,hobj,hints,hlen⟩:=qu hn hpre hwl;refine enter_call (codeAny_mono (call w s₀ s₁ mg mb fa o pm cd doc a vs ns G Y ho (fd_plain hd) hcd hmg hobj hints hlen hg) λr s' hq=>?_);obtain⟨rfl,h2,h3,h4⟩:=hq;exact⟨.inl ⟨.bool true,.bool true,[],rfl,λ_=>rfl,.bool true,qA l _,λ_=>⟨List.Pairwise.nil,λ_ hm=>(nomatch hm)⟩⟩,h2,h3,h4⟩
section
end
end Att
namespace L2
open PySem PySem.Spec PyProof.Rows
variable{qual x:Str}{a f:Addr}{w:World}{P:Program}{u:Value}{y:V}{xs:List (List Key×Addr×Value)}{kvs:List (List Key×V)}{H H':Hp}{Q:Value->Shared->Prop}{X:Cx}
theorem kj:∀{vs:List Value}{ns:List Int},IntsAre vs ns->bm (ns.map V.int) vs
 |_,_,.nil=>.nil
 |_,_,.cons n t h=>.cons ⟨t,rfl⟩ (kj h)
noncomputable def wd(H:Hp):Prop:=∀b,H b=none∨∃o xs,H b=some (.frz o (.lst xs))
theorem tj{K:av}{mg mb:Str->Option Value}{CX:uD}{k:Nat}{fa:Addr}{fd:FuncData}{sp:Sp}{s₁:Shared}{vs:List Value}{ns:List Int}
  (KX:K.In s₁.heap)(hns:s₁.heap.Ns mainGlobals mg)(hb:s₁.heap.Ns builtinsNs mb)(hbb:∀x:Str,x≠ "__name__" ->mb x=bootBuiltins x) (hlim:s₁.heap.NoLimit)(hg:s₁.gens= #[])
  (ha:s₁.heap.get? a=some {cls:= .type "list",data:= .seq vs.toArray}) (hi:IntsAre vs ns)(hl:ns.length<=sizeLine)(hr:Room k callerA)
  (F:∀base:Heap,K.In base->base.Ns mainGlobals mg->FnOk P w K mg base CX k fa fd [x] sp)(hbind:∀(s:Shared)(u:Value),BindsTo s fd ⟨[u],[]⟩ [(x,u)])
  (hsp:∀H:Hp,wd H->fW K H a (ns.map V.int)->sp [.ref a] H (λv _=>v=.bl true) λ_ _ _=>False)
  (hCX:∀H e s',CX [] H s₁ (λ_ _ _=>False) e s'->False):
  codeAny (model P w) callerA (.call (.ref fa) ⟨[.ref a],[]⟩) (λr s'=>r=.ok (.ret (.bool true))/\OldK s₁.heap s'.heap/\s'.os=s₁.os/\AllBare s'.gens) s₁:=by
 have rv:=kj hi;have lenV:=hi.length
 have core:∀H:Hp,wd H->fW K H a (ns.map V.int)->gb P w H s₁.heap->(∀b,H b≠none->b=a)->(H a≠none->K.lookup a=none)->
   codeAny (model P w) callerA (.call (.ref fa) ⟨[.ref a],[]⟩) (λr s'=>r=.ok (.ret (.bool true))/\OldK s₁.heap s'.heap/\s'.os=s₁.os/\AllBare s'.gens) s₁:=by
  intro H hO hS hok hA hK;have base_of:∀{b:Addr}{o:Obj},s₁.heap.get? b=some o->H b=none->(l6 s₁.heap H).get? b=some o:=λe n=>tP e n
  have noA:∀{b:Addr}{o:Obj}{es:Array DictEntry}{ep:Nat},s₁.heap.get? b=some o->o.data=.dict es ep->H b=none:=λ{b o es ep} e d=>by
   cases q:H b with
   |none=>rfl
   |some u=>
    have e':b=a:=hA b (by rw[q];simp)
    subst e';rw[ha] at e;cases e;have d':Data.seq vs.toArray _=Data.dict es ep:=d;cases d'
  have nsK:∀{b:Addr}{m:Str->Option Value},s₁.heap.Ns b m->(l6 s₁.heap H).Ns b m:=λ{b m} ⟨o,es,ep,e,d,r⟩=>⟨o,es,ep,base_of e (noA e d),d,r⟩
  have hKb:K.In (l6 s₁.heap H):=λb o e=>base_of (KX b o e) (by
   cases q:H b with
   |none=>rfl
   |some u=>
    have e':b=a:=hA b (by rw[q];simp)
    subst e';rw[hK (by rw[q];simp)] at e;cases e)
  have hM:Mod K mg (l6 s₁.heap H):=⟨hKb,nsK hns,⟨mb,nsK hb,hbb⟩,let⟨mc,h1,h2⟩:=hlim;⟨mc,nsK h1,h2⟩⟩;have e0:Env0 P w K mg (l6 s₁.heap H) callerA [] s₁ H:=⟨rfl,hM,λb o e=>vv e,Nat.le_of_eq (qS _ _),trivial,λb hb=>absurd (show b∈([]:List Addr) from hb) (by simp),hok,.of_eq hg⟩
  refine codeAny_mono ((F _ hKb (nsK hns)).run callerA [] s₁ H ⟨[.ref a],[]⟩ [.ref a] [.ref a] _ _ hr e0 (hbind s₁ (.ref a)) (.cons rfl .nil) (hsp H hO hS)) λr s' h=>?_;cases r with
  |error e=>exact(hCX H e s' h).elim
  |ok fl=>
   cases fl with
   |next=>exact False.elim h
   |brk=>exact False.elim h
   |cont=>exact False.elim h
   |ret u=>
    obtain⟨v,H',os,bare,un,hok',r',q⟩:=h;have q':v=.bl true:=q;subst q';obtain rfl:u=Value.bool true:=r';refine⟨rfl,OldK.of_keep λb o e=>?_,os,bare⟩;cases q:H b with
    |none=>exact un.keep b o e q (by intro z;exact absurd (show b∈([]:List Addr) from z) (by simp)) (by simp)
    |some u=>
     rcases hO b with z|⟨ob,xs,z⟩
     ·rw[q] at z;cases z
     ·have z2:=un.frzs b ob _ z;obtain⟨e1,_⟩:=hok b _ z;obtain⟨e2,_⟩:=hok' b _ z2;rw[e] at e1;cases e1;exact e2
 cases hk:K.lookup a with
 |some o=>
  have e:=KX a o hk;rw[ha] at e;cases e;refine core (λ_=>none) (λ_=>.inl rfl) (.inr ⟨_,vs.toArray,_,hk,rfl,rfl,rfl,by rw[List.size_toArray,lenV];exact hl,by simpa using rv⟩) (λb u z=>by have z':(none:Option HO)=some u:=z;cases z') (λb z=>absurd rfl z) λz=>absurd rfl z
 |none=>
  refine core (λb=>if b=a then some (.frz {cls:= .type "list",data:= .seq vs.toArray} (.lst (ns.map V.int))) else none) (λb=>?_) (.inl (.inr ⟨{cls:= .type "list",data:= .seq vs.toArray},if_pos rfl⟩)) (λb u z=>?_) (λb z=>?_) λ_=>hk
  ·by_cases hb:b=a
   ·exact .inr ⟨_,_,if_pos hb⟩
   ·exact .inl (if_neg hb)
  ·by_cases hb:b=a
   ·have z':=(if_pos hb).symm.trans z;cases z';subst hb;exact⟨ha,by rw[List.length_map];exact hl,vs,_,rv,ha⟩
   ·have z':=(if_neg hb).symm.trans z;cases z'
  ·by_cases hb:b=a
   ·exact hb
   ·exact absurd (if_neg hb) z
theorem uK{l:PySem.W.OpenLaw}{n k:Nat}{q:Program}{loose:List Str}{XP:(Str->Option Value)->Heap->Prop}{YP:World->Heap->Prop}{d:DefRec}{K:Params->av}{CX:World->uD}{sp:World->Sp}
  (hn:l.most=some n)(hn2:n<=sizeLine)(hdf:d.params.defaults=[])(hr:Room k callerA)
  (hY:∀(w:World)(h:Heap),YP w h->(K w.params).In h)
  (F:∀(w:World)(mg:Str->Option Value)(fa:Addr)(h:Heap),(K w.params).In h->h.Ns mainGlobals mg->mg d.name=some (.ref fa)->
   ∃fd:FuncData,(∀(s:Shared)(u:Value),BindsTo s fd ⟨[u],[]⟩ [(x,u)])/\
    ∀base:Heap,(K w.params).In base->base.Ns mainGlobals mg->FnOk l.prog w (K w.params) mg base (CX w) k fa fd [x] (sp w))
  (hsp:∀(w:World)(H:Hp)(a:Addr)(ns:List Int),ns.length<=n->wd H->fW (K w.params) H a (ns.map V.int)->sp w [.ref a] H (λv _=>v=.bl true) λ_ _ _=>False)
  (hCX:∀(w:World)(H:Hp)(s:Shared)(e:Value)(s':Shared),CX w [] H s (λ_ _ _=>False) e s'->False):
  PySem.W.WalkO q loose XP YP l.row.toRowW d [] (λf vs=>PySem.call f vs):=by
 refine Att.nJ hn hdf λw s₀ s₁ mg mb fa o pm cd doc a vs ns G Y ho hd hcd hmg hobj hints hlen hg=>?_;have KX:=hY w _ Y;obtain⟨fd,hb,hF⟩:=F w mg fa _ KX G.T.g hmg;exact tj KX G.T.g G.T.b G.T.builtins G.T.nolimit hg hobj hints (az hlen hn2) hr hF hb (λH hO hS=>hsp w H a ns hlen hO hS) λH e s'=>hCX w H s₁ e s'
noncomputable def dJ(s:Stmt):Arguments:=match s with
 | .FunctionDef _ a _ _ _ _ _ _ _ _=>a
 |_=>{posonlyargs:=[],args:=[],vararg:=none,kwonlyargs:=[],kw_defaults:=[],kwarg:=none,defaults:=[]}
noncomputable def cY(s:Stmt):List Stmt:=match s with
 | .FunctionDef _ _ b _ _ _ _ _ _ _=>b
 |_=>[]
noncomputable def bW(s:Stmt):Scope:=match s with
 | .FunctionDef _ _ _ _ _ _ sc _ _ _=>sc
 |_=>{kind:= .function,names:=[],isGenerator:=false,isCoroutine:=false}
noncomputable abbrev E0:XK:=λ_ _ _=>False
structure Fun(K:av)(x qual:Str)(st:Stmt)(f:Addr)(fd:FuncData):Prop where
 ex:∃(oc:Value)(od:Option Addr)(kV doc pm:Value)(an:Option Addr)(cdv ct:Value)(osl:Array (Option Value)),
  fd=PySem.W.fnOf x qual (dJ st) (cY st) (bW st) .none kV doc pm an cdv ct/\K.lookup f=some ⟨oc,od,.func fd,osl⟩/\PySem.W.codeIn K cdv qual=true
 kp:PySem.W.keepIn K (.ref f)=true
section
variable{K:av}
theorem Fun.binds{st:Stmt}{fd:FuncData}{ps:List Str}(F:Fun K x qual st f fd)
  (h:∀(kV doc pm:Value)(an:Option Addr)(cdv ct:Value)(us:List Value),us.length=ps.length->bindArgs (PySem.W.fnOf x qual (dJ st) (cY st) (bW st) .none kV doc pm an cdv ct) ⟨us,[]⟩=pure (ps.zip us)):Binds K fd ps []:=by
 obtain⟨oc,od,kV,doc,pm,an,cdv,ct,osl,rfl,lk,hcd⟩:=F.ex;exact .all (h kV doc pm an cdv ct)
theorem yo{st:Stmt}{oc:Value}{od an:Option Addr}{osl:Array (Option Value)}{kV doc pm cdv ct:Value}(l:K.lookup f=some ⟨oc,od,.func (PySem.W.fnOf x qual (dJ st) (cY st) (bW st) .none kV doc pm an cdv ct),osl⟩)
  (c:PySem.W.codeIn K cdv qual=true)(k:PySem.W.keepIn K (.ref f)=true):Fun K x qual st f (PySem.W.fnOf x qual (dJ st) (cY st) (bW st) .none kV doc pm an cdv ct):=⟨⟨oc,od,kV,doc,pm,an,cdv,ct,osl,rfl,l,c⟩,k⟩
end
section
end
theorem Bp{A B:Prop}(h:A):if true=true then A else B:=by rw[if_pos rfl];exact h
set_option maxHeartbeats 4000000
set_option linter.unusedVariables false
section
variable{κ:Type}[DecidableEq κ]
noncomputable def dX(kvs:List (κ×V))(k:κ):Option V:=(kvs.find? λkv=>decide (kv.1=k)).map (·.2)
noncomputable def putK(kvs:List (κ×V))(k:κ)(v:V):List (κ×V):=
 if(kvs.any λkv=>decide (kv.1=k))=true then kvs.map (λkv=>if kv.1=k then(kv.1,v) else kv) else kvs++[(k,v)]
theorem rV{k:κ}:dX ([]:List (κ×V)) k=none:=rfl
theorem fk{p:κ×V}{r:List (κ×V)}{k:κ}(e:p.1=k):dX (p::r) k=some p.2:=by simp[dX,List.find?_cons,e]
theorem du{p:κ×V}{r:List (κ×V)}{k:κ}(e:¬p.1=k):dX (p::r) k=dX r k:=by simp[dX,List.find?_cons,e]
theorem jl(k:κ):∀kvs:List (κ×V),(kvs.any λkv=>decide (kv.1=k))=(dX kvs k).isSome
 |[]=>rfl
 |p::r=>by
  rw[List.any_cons];by_cases e:p.1=k
  ·simp only[fk e,decide_eq_true e,Bool.true_or,Option.isSome_some]
  ·rw[du e,decide_eq_false e,Bool.false_or];exact jl k r
theorem dH(kvs:List (κ×V))(k:κ)(v:V):(putK kvs k v).length<=kvs.length+1:=by
 unfold putK;split
 ·rw[List.length_map];omega
 ·rw[aA,List.length_cons,List.length_nil];omega
theorem sC{kvs:List (κ×V)}{k:κ}(v:V)(h:dX kvs k=none):putK kvs k v=kvs++[(k,v)]:=by
 unfold putK;rw[jl,h];exact if_neg (by decide)
theorem fe.isSome_eq{o:Option V}{u:Option Value}(r:fe o u):o.isSome=u.isSome:=by
 cases o with
 |none=>cases u with
  |none=>rfl
  |some _=>exact(show False from r).elim
 |some _=>cases u with
  |none=>exact(show False from r).elim
  |some _=>rfl
theorem fe.getD{o:Option V}{u:Option Value}{d:V}{d':Value}(r:fe o u)(rd:RelV d d'):RelV (o.getD d) (u.getD d'):=by
 cases o with
 |none=>cases u with
  |none=>exact rd
  |some _=>exact(show False from r).elim
 |some _=>cases u with
  |none=>exact(show False from r).elim
  |some _=>exact r
theorem KV.val{kvs:List (κ×V)}{vs:List (κ×Value)}(r:KV kvs vs)(k:κ):fe (dX kvs k) (valueAt vs k):=by
 unfold KV at r
 induction r with
 |nil=>exact True.intro
 | @cons p q ps qs h t ih=>
  obtain⟨h1,h2⟩:=h;by_cases e:p.1=k
  ·have e':q.1=k:=h1.symm.trans e;have b:valueAt (q::qs) k=some q.2:=by simp[valueAt,List.find?_cons,e']
   rw[fk e,b];exact h2
  ·have e':¬q.1=k:=λz=>e (h1.trans z);have b:valueAt (q::qs) k=valueAt qs k:=by simp[valueAt,List.find?_cons,e']
   rw[du e,b];exact ih
theorem KV.any{kvs:List (κ×V)}{vs:List (κ×Value)}(r:KV kvs vs)(k:κ):(kvs.any λkv=>decide (kv.1=k))=vs.any λkv=>decide (kv.1=k):=by
 unfold KV at r
 induction r with
 |nil=>rfl
 |cons h t ih=>rw[List.any_cons,List.any_cons,ih,h.1]
theorem KV.repl{kvs:List (κ×V)}{vs:List (κ×Value)}(r:KV kvs vs)(k:κ)(ry:RelV y u):
  KV (kvs.map λkv=>if kv.1=k then(kv.1,y) else kv) (vs.map λkv=>if kv.1=k then(kv.1,u) else kv):=by
 unfold KV at r ⊢
 induction r with
 |nil=>exact .nil
 | @cons p q ps qs h t ih=>
  rw[List.map_cons,List.map_cons];refine .cons ?_ ih;obtain⟨h1,h2⟩:=h;by_cases e:p.1=k
  ·rw[if_pos e,if_pos (h1.symm.trans e)];exact⟨h1,ry⟩
  ·rw[if_neg e,if_neg (λz=>e (h1.trans z))];exact⟨h1,h2⟩
theorem KV.put{kvs:List (κ×V)}{vs:List (κ×Value)}(r:KV kvs vs)(k:κ)(ry:RelV y u):KV (putK kvs k y) (stored vs k u):=by
 unfold putK stored;rw[r.any k];by_cases e:(vs.any λkv=>decide (kv.1=k))=true
 ·rw[if_pos e,if_pos e];exact r.repl k ry
 ·rw[if_neg e,if_neg e];exact Paired.snoc r ⟨rfl,ry⟩
theorem KV.keys{kvs:List (κ×V)}{vs:List (κ×Value)}(r:KV kvs vs):kvs.map (·.1)=vs.map (·.1):=by
 unfold KV at r
 induction r with
 |nil=>rfl
 |cons h t ih=>rw[List.map_cons,List.map_cons,ih,h.1]
theorem KV.length{kvs:List (κ×V)}{vs:List (κ×Value)}(r:KV kvs vs):kvs.length=vs.length:=Paired.length r
end
theorem iL{k:Key}(r:RelV (kV k) u):(bf P w).is k u=true:=by
 cases k with
 |inl i=>obtain⟨t,e⟩:=(show ∃t,u=Value.int i t from r);subst e;exact mR P w i t
 |inr x=>obtain⟨t,e⟩:=(show ∃t,u=Value.str x t from r);subst e;exact mQ P w x t
theorem ky{P:Program}{w:World}:∀{ks:List Key}{us:List Value},bm (ks.map kV) us->ItemsAre (bf P w) ks us
 |[],_,r=>by rw[List.map_nil] at r;cases r;exact .nil
 |k::ks,_,r=>by
  rw[List.map_cons] at r;cases r with
  |cons h t=>exact .cons (iL h) (ky t)
noncomputable abbrev KT(H:Hp):List (List Key×V)->List (List Key×Addr×Value)->Prop:=Paired λp q=>p.1=q.1/\H q.2.1=some (.tup (p.1.map kV))/\RelV p.2 q.2.2
theorem KT.val(r:KT H kvs xs)(k:List Key):fe (dX kvs k) ((atKey xs k).map (·.2)):=by
 induction r with
 |nil=>exact True.intro
 | @cons p q ps qs h t ih=>
  obtain⟨h1,_,h2⟩:=h;by_cases e:p.1=k
  ·have e':q.1=k:=h1.symm.trans e;have b:atKey (q::qs) k=some q.2:=by simp[atKey,List.find?_cons,e']
   rw[fk e,b];exact h2
  ·have e':¬q.1=k:=λz=>e (h1.trans z);have b:atKey (q::qs) k=atKey qs k:=by simp[atKey,List.find?_cons,e']
   rw[du e,b];exact ih
theorem KT.repl(r:KT H kvs xs)(k:List Key)(ry:RelV y u):
  KT H (kvs.map λkv=>if kv.1=k then(kv.1,y) else kv) (xs.map (putAt k u)):=by
 induction r with
 |nil=>exact .nil
 | @cons p q ps qs h t ih=>
  rw[List.map_cons,List.map_cons];refine .cons ?_ ih;obtain⟨h1,h2,h3⟩:=h;unfold putAt;by_cases e:p.1=k
  ·rw[if_pos e,if_pos (h1.symm.trans e)];exact⟨h1,h2,ry⟩
  ·rw[if_neg e,if_neg (λz=>e (h1.trans z))];exact⟨h1,h2,h3⟩
theorem KT.put(r:KT H kvs xs)(k:List Key){b:Addr}(hb:H b=some (.tup (k.map kV)))(ry:RelV y u):
  KT H (putK kvs k y) (storedH xs k b u):=by
 have e:(kvs.any λkv=>decide (kv.1=k))=(atKey xs k).isSome:=by rw[jl,(r.val k).isSome_eq,Option.isSome_map]
 unfold putK storedH;rw[e];by_cases q:(atKey xs k).isSome=true
 ·rw[if_pos q,if_pos q];exact r.repl k ry
 ·rw[if_neg q,if_neg q];exact Paired.snoc r ⟨rfl,hb,ry⟩
theorem KT.keeps(r:KT H kvs xs)(ht:∀b ys,H b=some (.tup ys)->H' b=some (.tup ys)):KT H' kvs xs:=
 Paired.mapP r λ_ _ z=>⟨z.1,ht _ _ z.2.1,z.2.2⟩
section
variable{P:Program}{w:World}{H:Hp}{h:Heap}{a:Addr}
theorem wt{u:HO}(ok:gb P w H h)(e:Rd H a u):bM P w H h a u:=e.ok ok
theorem eW{kvs:List (Key×V)}(ok:gb P w H h)(e:Rd H a (.dK kvs)):kvs.length<=sizeLine/\(a==sysModules)=false/\∃vs,KV kvs vs/\h.DictOf (bf P w) a vs:=
 show bM P w H h a (.dK kvs) from wt ok e
theorem qe{kvs:List (Key×V)}(ok:gb P w H h)(e:H a=some (.dK kvs)):kvs.length<=sizeLine/\(a==sysModules)=false/\∃vs,KV kvs vs/\h.DictOf (bf P w) a vs:=eW ok (.inl e)
theorem iu{ks:List Key}(ok:gb P w H h)(e:H a=some (.tup (ks.map kV))):(tupleKind (bf P w)).is h ks a:=by
 obtain⟨_,its,r,o,h1,h2,n,h3⟩:=(show bM P w H h a (.tup (ks.map kV)) from ok a _ e);exact⟨o,its.toArray,n,h1,h2.1,h3,by simpa using ky r⟩
theorem jQ(ok:gb P w H h)(e:Rd H a (.dT kvs)):kvs.length<=sizeLine/\(a==sysModules)=false/\
  ∃xs,KT H kvs xs/\h.DictOfH (tupleKind (bf P w)) a xs:=by
 obtain⟨z,y,xs,r,o,es,ep,h1,h2,h3,h4,h5⟩:=(show bM P w H h a (.dT kvs) from wt ok e);refine⟨z,y,xs,r,o,es,ep,h1,h2,h3,h4,λx hx=>?_,h5⟩
 have all:∀{l:List (List Key×V)}{m:List (List Key×Addr×Value)},KT H l m->∀x∈m,(tupleKind (bf P w)).is h x.1 x.2.1:=by
  intro l m q
  induction q with
  |nil=>intro x hx;exact nomatch hx
  | @cons p q ps qs hq t ih=>
   intro x hx;rcases List.mem_cons.mp hx with e|hx
   ·subst e;exact iu ok (by rw[<-hq.1];exact hq.2.1)
   ·exact ih x hx
 exact all r x hx
theorem Ax(ok:gb P w H h)(e:H a=some (.dT kvs)):kvs.length<=sizeLine/\(a==sysModules)=false/\
  ∃xs,KT H kvs xs/\h.DictOfH (tupleKind (bf P w)) a xs:=jQ ok (.inl e)
end
noncomputable def gq(H:Hp)(a:Addr)(y:V)(r:Option V):Prop:=
 (∃kvs k,Rd H a (.dK kvs)/\y=kV k/\r=dX kvs k)∨∃kvs k b,Rd H a (.dT kvs)/\y=.ref b/\H b=some (.tup (k.map kV))/\r=dX kvs k
noncomputable def uC(H:Hp)(a:Addr)(y v:V)(H':Hp):Prop:=
 (∃kvs k,H a=some (.dK kvs)/\y=kV k/\kvs.length<sizeLine/\H'=bE H a (.dK (putK kvs k v)))∨
 ∃kvs k b,H a=some (.dT kvs)/\y=.ref b/\H b=some (.tup (k.map kV))/\kvs.length<sizeLine/\H'=bE H a (.dT (putK kvs k v))
theorem gq.k{H:Hp}{a:Addr}{kvs:List (Key×V)}{k:Key}(e:H a=some (.dK kvs)):gq H a (kV k) (dX kvs k):= .inl ⟨kvs,k,.inl e,rfl,rfl⟩
theorem uC.k{H:Hp}{a:Addr}{kvs:List (Key×V)}{k:Key}{v:V}(e:H a=some (.dK kvs))(hl:kvs.length<sizeLine):uC H a (kV k) v (bE H a (.dK (putK kvs k v))):= .inl ⟨kvs,k,e,rfl,hl,rfl⟩
section
variable{X:Cx}{pins:List (Addr×Obj)}{σ:St}{H:Hp}{s:Shared}{a:Addr}{y v:V}{u r:Value}{o:Option V}{A:Around}{E:Value->Shared->Prop}
theorem Inv.big(I:Inv X pins σ H s):sysModules<s.heap.objs.size:=by
 have h:mainGlobals<s.heap.objs.size:=(I.mod.glob.keeps I.bk).lt;exact Nat.lt_trans (by decide) h
theorem kI(hu:A.units+1<cLine)(I:Inv X pins σ H s)(g:gq H a y (some v))(ry:RelV y u)(h:∀w' s',Inv X pins σ H s'->RelV v w'->Q w' s'):
  wpAny (model X.prog X.w) A (getItem (.ref a) u) Q E s:=by
 rcases g with⟨kvs,k,e,ey,l⟩|⟨kvs,k,b,e,ey,eb,l⟩
 ·subst ey;obtain⟨z,hd,vs,rel,dd⟩:=eW I.hok e;obtain⟨w',hw,rw'⟩:=fe.some_of (v:=v) (o:=valueAt vs k) (by rw[l];exact rel.val k)
  exact wpAny_getItem_of (iL ry) dd.mapOf hw (h w' _ (I.tok _) rw')
 ·subst ey;cases(show u=Value.ref b from ry);obtain⟨z,hd,xs,rel,dd⟩:=jQ I.hok e;obtain⟨w',hw,rw'⟩:=fe.some_of (v:=v) (o:=(atKey xs k).map (·.2)) (by rw[l];exact rel.val k)
  obtain⟨p,hp,hp2⟩:=Option.map_eq_some_iff.mp hw;refine wpAny_getItem_heap (tupleKind_room_in1 hu) (iu I.hok eb) dd hp ?_;rw[hp2];exact h w' _ (I.tok _) rw'
theorem BA(hu:A.units+1<cLine)(I:Inv X pins σ H s)(g:gq H a y o)(ry:RelV y u)(h:∀s',Inv X pins σ H s'->Q (.bool o.isSome) s'):
  wpAny (model X.prog X.w) A (compareOp .In u (.ref a)) Q E s:=by
 rcases g with⟨kvs,k,e,ey,l⟩|⟨kvs,k,b,e,ey,eb,l⟩
 ·subst ey;obtain⟨z,hd,vs,rel,dd⟩:=eW I.hok e;refine wpAny_in_of (iL ry) hd dd.mapOf ?_;rw[<-(rel.val k).isSome_eq,<-l];exact h _ (I.tok _)
 ·subst ey;cases(show u=Value.ref b from ry);obtain⟨z,hd,xs,rel,dd⟩:=jQ I.hok e;refine wpAny_in_heap (tupleKind_room_in1 hu) (iu I.hok eb) hd dd ?_;have q:=(rel.val k).isSome_eq;rw[Option.isSome_map] at q;rw[<-q,<-l];exact h _ (I.tok _)
theorem v6(hu:A.units+1<cLine)(I:Inv X pins σ H s)(g:gq H a y o)(ry:RelV y u)(h:∀s',Inv X pins σ H s'->Q (.bool (!o.isSome)) s'):
  wpAny (model X.prog X.w) A (compareOp .NotIn u (.ref a)) Q E s:=by
 rcases g with⟨kvs,k,e,ey,l⟩|⟨kvs,k,b,e,ey,eb,l⟩
 ·subst ey;obtain⟨z,hd,vs,rel,dd⟩:=eW I.hok e;refine wpAny_notIn_of (iL ry) hd dd.mapOf ?_;rw[<-(rel.val k).isSome_eq,<-l];exact h _ (I.tok _)
 ·subst ey;cases(show u=Value.ref b from ry);obtain⟨z,hd,xs,rel,dd⟩:=jQ I.hok e;refine wpAny_notIn_heap (tupleKind_room_in1 hu) (iu I.hok eb) hd dd ?_;have q:=(rel.val k).isSome_eq;rw[Option.isSome_map] at q;rw[<-q,<-l];exact h _ (I.tok _)
theorem ma{h':Heap}{t':Nat}{ob:HO}(I:Inv X pins σ H s)(mu:AI (H a))(hs:Heap.SameBut a s.heap h')(he:∃q,h'.get? a=some q)(new:bM X.prog X.w (bE H a ob) h' a ob):
  Inv X pins σ (bE H a ob) {s with heap:=h',toks:=t'}:=
 I.write (x:=a) (e:=a) mu (.inl rfl) (λb q hb z=>(hs.2 b hb).trans z) he new
theorem l9{h':Heap}{kvs:List (Key×V)}{vs:List (Key×Value)}(z:kvs.length<=sizeLine)(hd:(a==sysModules)=false)(rel:KV kvs vs)(dd:h'.DictOf (bf P w) a vs):
  bM P w H' h' a (.dK kvs):=⟨z,hd,vs,rel,dd⟩
theorem rc{Q:Unit->Shared->Prop}(hu:A.units+1<cLine)(I:Inv X pins σ H s)(g:uC H a y v H')(ry:RelV y u)(rv:RelV v r)(h:∀s',Inv X pins σ H' s'->Q () s'):
  wpAny (model X.prog X.w) A (setItem (.ref a) u r) Q E s:=by
 rcases g with⟨kvs,k,e,ey,l,eH⟩|⟨kvs,k,b,e,ey,eb,l,eH⟩
 ·subst ey eH;obtain⟨z,hd,vs,rel,dd⟩:=qe I.hok e;have hz:vs.length<=sizeLine:=by rw[<-rel.length];exact z
  have hl:(putK kvs k v).length<=sizeLine:=by have:=dH kvs k v;omega
  refine wpAny_setItem_pairs (hsz:=hz) (iL ry) dd λh' dd' hs=>h _ ?_;have he:∃q,h'.get? a=some q:=let⟨q,_,_,hq,_⟩:=dd';⟨q,hq⟩;exact ma I (by rw[e];exact True.intro) hs he (l9 hl hd (rel.put k rv) dd')
 ·subst ey eH;cases(show u=Value.ref b from ry);obtain⟨z,hd,xs,rel,dd⟩:=Ax I.hok e;have hz:xs.length<=sizeLine:=by rw[<-Paired.length rel];exact z
  have hl:(putK kvs k v).length<=sizeLine:=by have:=dH kvs k v;omega
  refine wpAny_setItem_heap (hsz:=hz) (tupleKind_room_in1 hu) (iu I.hok eb) dd λh' dd' hs=>h _ ?_;obtain⟨q,es,ep,hq,h2,h3,h4,_,h5⟩:=dd';refine ma I (by rw[e];exact True.intro) hs ⟨q,hq⟩ ⟨hl,hd,_,(rel.put k eb rv).keeps λc ys ec=>?_,q,es,ep,hq,h2,h3,h4,h5⟩
  rw[aE (cM ec e (λz=>nomatch z))];exact ec
end
section
variable{X:Cx}{pins:List (Addr×Obj)}{σ:St}{H:Hp}{s:Shared}{a:Addr}{kvs:List (Key×V)}{A:Around}{E:Value->Shared->Prop}
theorem Ay(I:Inv X pins σ H s)(e:Rd H a (.dK kvs))(h:∀t s',Inv X pins σ H s'->Q (.int kvs.length t) s'):wpAny (model X.prog X.w) A (call (.builtin "len") [.ref a]) Q E s:=by
 obtain⟨z,hd,vs,rel,dd⟩:=eW I.hok e;refine call_len_dict hd dd (by rw[<-rel.length];rw[sizeLine_eq] at z;omega) ?_
 rw[<-rel.length];exact h _ _ (I.tok _)
end
theorem iM{pins:List (Addr×Obj)}{σ:St}{s:Shared}{o:Option V}(I:Inv X pins σ H s)(g:gq H a y o):s.TypeIs (.ref a) "dict":=by
 rcases g with⟨kvs,k,e,_,_⟩|⟨kvs,k,b,e,_,_,_⟩
 ·obtain⟨_,_,vs,_,dd⟩:=eW I.hok e;exact dd.typeIs
 ·obtain⟨_,_,xs,_,dd⟩:=jQ I.hok e;exact dd.typeIs
noncomputable def zG(td ty tv:TE):TS:=λD σ H=>tv σ H λv H1=>td σ H1 λx H2=>ty σ H2 λy H3=>∃a H4,x=.ref a/\uC H3 a y v H4/\D.nx σ H4
section
variable{X:Cx}{o i value:Expr}{pos pos':Pos}{td ty tv:TE}
theorem vg(hu:X.A.units+1<cLine)(ho:PE X o td)(hi:PE X i ty)(hv:PE X value tv)(hs:swapsWith value (some (.Subscript o i pos')) pos.line X.env=pure false):
  PS X (.Assign [.Subscript o i pos'] value pos) (zG td ty tv):=by
 intro pins s σ H D I h;refine wpAny_Assign_Subscript (bU (hv pins s σ H _ I h) λr s1 ⟨v,H1,I1,rv,q1⟩=>bU (ho pins s1 σ H1 _ I1 q1) λu s2 ⟨x,H2,I2,rx,q2⟩=>bU (hi pins s2 σ H2 _ I2 q2) λiv s3 ⟨y,H3,I3,ry,a,H4,ex,g,q3⟩=>?_) hs;subst ex;obtain rfl:u=Value.ref a:=rx;exact rc hu I3 g ry rv λs4 I4=>⟨σ,H4,I4,q3⟩
end
theorem t_(h:Heap)(hb:sysModules<h.objs.size):bM P w H (h.push {cls:= .type "dict",data:= .dict #[]}) h.objs.size (.dK []):=
 ⟨Nat.zero_le _,beq_eq_false_iff_ne.mpr (Ne.symm (ao hb)),[],.nil,Heap.DictOf.new h⟩
section
end
noncomputable def k9:List (TE×TE)->St->Hp->(List (V×V)->Hp->Prop)->Prop
 |[],_,H,Q=>Q [] H
 |(tk,tv)::r,σ,H,Q=>tk σ H λx H1=>tv σ H1 λy H2=>k9 r σ H2 λps H3=>Q ((x,y)::ps) H3
noncomputable abbrev VV:List (V×V)->List (Value×Value)->Prop:=Paired λp q=>RelV p.1 q.1/\RelV p.2 q.2
noncomputable def AH(X:Cx)(pos:Pos)(keys:List (Option Expr))(values:List Expr)(trs:List (TE×TE)):Prop:=
 ∀(pins:List (Addr×Obj))(s:Shared)(σ:St)(H:Hp)(Q:List (V×V)->Hp->Prop),Inv X pins σ H s->k9 trs σ H Q->
  wpAny (model X.prog X.w) X.A (evalPairs (pairTrees keys values X.env pos)) (λvs s'=>∃ps H',Inv X pins σ H' s'/\VV ps vs/\Q ps H') X.xe s
theorem vh{pos:Pos}:AH X pos [] [] []:=λpins s σ H Q I h=>pairTrees_nil_walk ⟨[],H,I,.nil,h⟩
theorem sJ{pos:Pos}{k v:Expr}{ks:List (Option Expr)}{vs:List Expr}{tk tv:TE}{trs:List (TE×TE)}(hk:PE X k tk)(hv:PE X v tv)(hr:AH X pos ks vs trs):
  AH X pos (some k::ks) (v::vs) ((tk,tv)::trs):=λpins s σ H Q I h=>
 pairTrees_cons_walk (bU (hk pins s σ H _ I h) λu s1 ⟨x,H1,I1,rx,q1⟩=>bU (hv pins s1 σ H1 _ I1 q1) λw2 s2 ⟨y,H2,I2,ry,q2⟩=>
  bU (hr pins s2 σ H2 _ I2 q2) λws s3 ⟨ps,H3,I3,rel,q3⟩=>⟨(x,y)::ps,H3,I3,.cons ⟨rx,ry⟩ rel,q3⟩)
noncomputable def fq(kvs more:List (Key×V)):List (Key×V):=more.foldl (λacc kv=>putK acc kv.1 kv.2) kvs
theorem KV.merge:∀{more:List (Key×V)}{rs:List (Key×Value)}{kvs:List (Key×V)}{vs:List (Key×Value)},KV more rs->KV kvs vs->KV (fq kvs more) (merged vs rs):=by
 intro more rs kvs vs r;unfold KV at r
 induction r generalizing kvs vs with
 |nil=>intro q;exact q
 | @cons p q ps qs h t ih=>
  intro r0
  have e:KV (putK kvs p.1 p.2) (stored vs q.1 q.2):=by have:=r0.put p.1 h.2;rw[<-h.1];exact this
  exact ih e
theorem f8:∀(more kvs:List (Key×V)),(fq kvs more).length<=kvs.length+more.length
 |[],kvs=>by show kvs.length<=kvs.length+0;omega
 |p::r,kvs=>by have h1:=f8 r (putK kvs p.1 p.2);have h2:=dH kvs p.1 p.2;show(fq (putK kvs p.1 p.2) r).length<=_;rw[List.length_cons];omega
theorem jT{P:Program}{w:World}:∀{kvs:List (Key×V)}{ws:List (Value×Value)},VV (kvs.map λkv=>(kV kv.1,kv.2)) ws->∃rs,Carries (bf P w) ws rs/\KV kvs rs
 |[],_,r=>by rw[List.map_nil] at r;cases r;exact⟨[],True.intro,.nil⟩
 |p::kvs,_,r=>by
  rw[List.map_cons] at r;cases r with
  | @cons a b as bs h t=>obtain⟨rs,c,q⟩:=jT (P:=P) (w:=w) t;obtain⟨b1,b2⟩:=b;exact⟨(p.1,b2)::rs,⟨iL h.1,rfl,c⟩,.cons ⟨rfl,h.2⟩ q⟩
noncomputable def zo(trs:List (TE×TE)):TE:=λσ H Q=>∀p,H p=none->k9 trs σ (bE H p (.dK [])) λps H2=>H2 p=some (.dK [])/\∃kvs:List (Key×V),ps=kvs.map (λkv=>(kV kv.1,kv.2))/\kvs.length<=15/\Q (.ref p) (bE H2 p (.dK (fq [] kvs)))
theorem vj{pos:Pos}{keys:List (Option Expr)}{values:List Expr}{trs:List (TE×TE)}(h:AH X pos keys values trs)(hall:keys.all (·.isSome)=true)(hl:keys.length=values.length)(h0:keys≠[])
  (h15:keys.length<=15):PE X (.Dict keys values pos) (zo trs):=by
 intro pins s σ H Q I q;have hn:=I.hok.fresh (ah s.heap.objs.size);have I1:=I.laid (a:=s.heap.objs.size) (o:= .dK []) (h':=s.heap.push {cls:= .type "dict",data:= .dict #[]}) (t':=s.toks) (λ_ _ q=>ae _ q) (ah _) (t_ s.heap I.big);refine wpAny_Dict_walk (knd:=bf X.prog X.w) hall hl h0 h15 (bU (h pins _ σ _ _ I1 (q _ hn)) λws s2 hp=>?_);obtain⟨ps,H2,I2,rel,e,kvs,ep,lk,q2⟩:=hp;subst ep;obtain⟨rs,c,rk⟩:=jT (P:=X.prog) (w:=X.w) rel;obtain⟨z,hd,vs0,r0,dd⟩:=qe I2.hok e;cases r0;refine⟨rs,c,dd,λh' dd' hs=>⟨.ref s.heap.objs.size,_,?_,rfl,q2⟩⟩
 have hz:(fq [] kvs).length<=sizeLine:=by have h1:=f8 kvs [];rw[List.length_nil] at h1;rw[sizeLine_eq];omega
 have he:∃q,h'.get? s.heap.objs.size=some q:=let⟨q,_,_,hq,_⟩:=dd';⟨q,hq⟩;exact ma I2 (by rw[e];exact True.intro) hs he (l9 hz hd (rk.merge .nil) dd')
structure M2(X:Cx)(o:Expr)(m:Str)(apos:Pos)(e f:Expr)(cpos:Pos):Prop where
 base:attributeBase o m X.env (eval o X.env)=eval o X.env
 few:((backTo cpos (starEach [e,f] X.env)).all (λx=> !x.1)&&(backToKw cpos (keywordEach [] X.env)).all (λx=>x.1.isSome)
  &&decide (([e,f]:List Expr).length+([]:List Keyword).length+(if([]:List Keyword).isEmpty then 0 else 1)<30))=true
 line:(apos.endLine==cpos.line)=true
 trees:backTo cpos (starEach [e,f] X.env)=[(false,eval e X.env),(false,eval f X.env)]
noncomputable def BS(H:Hp)(a:Addr):Prop:=(∃kvs,Rd H a (.dK kvs))∨∃kvs,Rd H a (.dT kvs)
theorem iw{pins:List (Addr×Obj)}{σ:St}{s:Shared}(I:Inv X pins σ H s)(d:BS H a):
  s.TypeIs (.ref a) "dict" /\(∀b,Value.ref a=.ref b->∃ob,s.heap.get? b=some ob/\ob.dict=none)/\(a==sysModules)=false:=by
 rcases d with⟨kvs,e⟩|⟨kvs,e⟩
 ·obtain⟨_,hd,vs,_,dd⟩:=eW I.hok e;refine⟨dd.typeIs,λb q=>?_,hd⟩;cases q;obtain⟨ob,_,_,h1,h2,_⟩:=dd;exact⟨ob,h1,h2.2.1⟩
 ·obtain⟨_,hd,xs,_,dd⟩:=jQ I.hok e;refine⟨dd.typeIs,λb q=>?_,hd⟩;cases q;obtain⟨ob,_,_,h1,h2,_⟩:=dd;exact⟨ob,h1,h2.2.1⟩
section
variable{X:Cx}{pins:List (Addr×Obj)}{σ:St}{H:Hp}{s:Shared}{a:Addr}{y d:V}{u r:Value}{o:Option V}{A:Around}{E:Value->Shared->Prop}
theorem yG(hu:A.units+1<cLine)(I:Inv X pins σ H s)(g:gq H a y o)(ry:RelV y u)(rd:RelV d r)(h:∀w' s',Inv X pins σ H s'->RelV (o.getD d) w'->Q w' s'):
  wpAny (model X.prog X.w) A (call (.builtin "dict.get") [.ref a,u,r]) Q E s:=by
 rcases g with⟨kvs,k,e,ey,l⟩|⟨kvs,k,b,e,ey,eb,l⟩
 ·subst ey;obtain⟨z,hd,vs,rel,dd⟩:=eW I.hok e;refine call_meetsIn PySem.F.slot_dict_get dd.typeIs PySem.F.entry_dict_get (PySem.F.args_dict_get_3 _ _ _) (meets_dict_get_default (bf X.prog X.w) a (iL ry) hd r) ⟨_,dd.mapOf,h _ _ (I.tok _) ?_⟩;rw[l];exact(rel.val k).getD rd
 ·subst ey;cases(show u=Value.ref b from ry);obtain⟨z,hd,xs,rel,dd⟩:=jQ I.hok e;refine call_meetsIn PySem.F.slot_dict_get dd.typeIs PySem.F.entry_dict_get (PySem.F.args_dict_get_3 _ _ _) (meetsH_dict_get_default (tupleKind (bf X.prog X.w)) a b hd r) ⟨tupleKind_room_in1 hu,k,xs,iu I.hok eb,dd,h _ _ (I.tok _) ?_⟩;rw[l];exact(rel.val k).getD rd
end
section
end
section
variable{X:Cx}{pins:List (Addr×Obj)}{σ:St}{H:Hp}{s:Shared}{a:Addr}{kvs:List (Key×V)}{A:Around}{E:Value->Shared->Prop}
theorem ug(I:Inv X pins σ H s)(e:Rd H a (.dK kvs))(h:∀p s',H p=none->Inv X pins σ (bE H p (.dK kvs)) s'->Q (.ref p) s'):wpAny (model X.prog X.w) A (call (.type "dict") [.ref a]) Q E s:=by
 obtain⟨z,hd,vs,rel,dd⟩:=eW I.hok e;refine kt_call_dict hd dd (by rw[<-rel.length];exact z) λh' dd' hs=>?_
 refine h _ _ (I.hok.fresh (ah _)) (I.laid (a:=s.heap.objs.size) (o:= .dK kvs) (t':=s.toks) (λb q hq=>?_) (ah _) (l9 z (beq_eq_false_iff_ne.mpr (Ne.symm (ao I.big))) rel dd'));exact(hs.2 b (ao (al hq))).trans (ae _ hq)
end
section
end
end L2
namespace PySem.SeqAt
open AutoSeq1 (wpAny_loadPart')
open MeetsSeq
variable{b l:Addr}
noncomputable def uB(h:Heap)(d:Addr):Prop:=∃es ep,h.get? d=some {cls:= .type "dict",dict:=none,data:= .dict es ep,slots:= #[]}
theorem fc(l b:Addr)(es:Array DictEntry)(ep:Nat)(items:Array Value)(n:Nat)(dd:Option Addr)(sl:Array (Option Value)):
  Meets (Builtin.«dict.__eq__» ⟨[.ref l,.ref b],[]⟩) (λ_ R s=>s.heap.get? l=some {cls:= .type "dict",dict:=none,data:= .dict es ep,slots:= #[]}/\s.heap.get? b=some {cls:= .type "list",dict:=dd,data:= .seq items n,slots:=sl}/\R (.ok (.ret .notImplemented)) s):=
 .of_wp λprog w A R s h=>by obtain⟨hp,g,d,tk,os⟩:=s;obtain⟨hl,hb,h⟩:=h;have f1:=F.sub_list_dict;wp_walk using wpAny_loadPart' hl,wpAny_loadPart' hb;exact⟨_,rfl,h⟩
theorem e8(b l:Addr)(es:Array DictEntry)(ep:Nat)(items:Array Value)(n:Nat)(dd:Option Addr)(sl:Array (Option Value)):
  Meets (Builtin.«list.__eq__» ⟨[.ref b,.ref l],[]⟩) (λ_ R s=>s.heap.get? b=some {cls:= .type "list",dict:=dd,data:= .seq items n,slots:=sl}/\s.heap.get? l=some {cls:= .type "dict",dict:=none,data:= .dict es ep,slots:= #[]}/\R (.ok (.ret .notImplemented)) s):=
 .of_wp λprog w A R s h=>by obtain⟨hp,g,d,tk,os⟩:=s;obtain⟨hb,hl,h⟩:=h;have f1:=F.sub_dict_list;wp_walk using wpAny_loadPart' hl,wpAny_loadPart' hb;exact⟨_,rfl,h⟩
theorem e_(l b:Addr)(es:Array DictEntry)(ep:Nat)(items:Array Value)(n:Nat)(dd:Option Addr)(sl:Array (Option Value)):
  Meets (Builtin.«dict.__ne__» ⟨[.ref l,.ref b],[]⟩) (λ_ R s=>s.heap.get? l=some {cls:= .type "dict",dict:=none,data:= .dict es ep,slots:= #[]}/\s.heap.get? b=some {cls:= .type "list",dict:=dd,data:= .seq items n,slots:=sl}/\R (.ok (.ret .notImplemented)) s):=
 .of_wp λprog w A R s h=>by obtain⟨hp,g,d,tk,os⟩:=s;obtain⟨hl,hb,h⟩:=h;have f1:=F.sub_list_dict;wp_walk using wpAny_loadPart' hl,wpAny_loadPart' hb;exact⟨_,rfl,h⟩
theorem e7(b l:Addr)(es:Array DictEntry)(ep:Nat)(items:Array Value)(n:Nat)(dd:Option Addr)(sl:Array (Option Value)):
  Meets (Builtin.«list.__ne__» ⟨[.ref b,.ref l],[]⟩) (λ_ R s=>s.heap.get? b=some {cls:= .type "list",dict:=dd,data:= .seq items n,slots:=sl}/\s.heap.get? l=some {cls:= .type "dict",dict:=none,data:= .dict es ep,slots:= #[]}/\R (.ok (.ret .notImplemented)) s):=
 .of_wp λprog w A R s h=>by obtain⟨hp,g,d,tk,os⟩:=s;obtain⟨hb,hl,h⟩:=h;have f1:=F.sub_dict_list;wp_walk using wpAny_loadPart' hl,wpAny_loadPart' hb;exact⟨_,rfl,h⟩
section
variable{A:Around}{s:Shared}
theorem RcAt.dict_list{items:Array Value}(hl:uB s.heap l)(hb:s.heap.IsList b items)(hu:A.units<cLine):RcAt A s (.ref l) (.ref b) false:=λprog w E Q h=>by
 obtain⟨es,ep,ho⟩:=hl;obtain⟨⟨cls,dd,data,sl⟩,ho2,hc,n,hd⟩:=id hb;simp only at hc hd;subst hc hd;have hne:l≠b:=λe=>by subst e;rw[ho] at ho2;exact absurd ho2 (by simp)
 exact rc_eq_decline_or (k:=false) ⟨_,ho,rfl⟩ ⟨_,ho2,rfl⟩ (by decide) F.sub_list_dict F.slot_dict_eq F.slot_list_eq_refl
  (λ_ hq=>call_meets F.slot_dict_eq ⟨_,ho,rfl⟩ F.entry_dict_eq (F.args_dict_eq_2 _ _) (fc l b es ep items n dd sl) ⟨ho,ho2,hq⟩)
  (λ_ hq=>call_meets F.slot_list_eq_refl ⟨_,ho2,rfl⟩ F.entry_list_eq (F.args_list_eq_2 _ _) (e8 b l es ep items n dd sl) ⟨ho2,ho,hq⟩)
  (λ_ hq=>wpAny_isSame_ref_other hne ho ho2 (by simp) hq) (.inr hu) h
theorem RcNeAt.dict_list{items:Array Value}(hl:uB s.heap l)(hb:s.heap.IsList b items)(hu:A.units<cLine):RcNeAt A s (.ref l) (.ref b) true:=λprog w E Q h=>by
 obtain⟨es,ep,ho⟩:=hl;obtain⟨⟨cls,dd,data,sl⟩,ho2,hc,n,hd⟩:=id hb;simp only at hc hd;subst hc hd;have hne:l≠b:=λe=>by subst e;rw[ho] at ho2;exact absurd ho2 (by simp)
 exact rc_ne_decline_or (k:=false) ⟨_,ho,rfl⟩ ⟨_,ho2,rfl⟩ (by decide) F.sub_list_dict F.slot_dict_ne F.slot_list_ne_refl
  (λ_ hq=>call_meets F.slot_dict_ne ⟨_,ho,rfl⟩ F.entry_dict_ne (F.args_dict_ne_2 _ _) (e_ l b es ep items n dd sl) ⟨ho,ho2,hq⟩)
  (λ_ hq=>call_meets F.slot_list_ne_refl ⟨_,ho2,rfl⟩ F.entry_list_ne (F.args_list_ne_2 _ _) (e7 b l es ep items n dd sl) ⟨ho2,ho,hq⟩)
  (λ_ hq=>wpAny_isSame_ref_other hne ho ho2 (by simp) hq) (.inr hu) h
end
end PySem.SeqAt
namespace L2
open PySem PySem.Spec PyProof.Rows
variable{scope:Scope}{x y:Str}{pos px:Pos}{ifs:List Expr}{elt iter:Expr}{s:Shared}{X:Cx}{pins:List (Addr×Obj)}{fp:List Addr}
noncomputable def iF(cells:List (Str×Addr)):List (Str×NameKind)->List (Str×Addr)->List (Str×Addr)
 |[],cs=>cs
 |(n,k)::r,cs=>if k== .free then iF cells r ((n,(cells.lookup n).getD 0)::cs) else iF cells r cs
theorem gZ{env:Env}:∀(names:List (Str×NameKind))(cs:List (Str×Addr)),(∀x∈names,x.2=.free->∃c,env.cells.lookup x.1=some c)->
  (forIn names cs λ(x:Str×NameKind)(r:List (Str×Addr))=>(do
   if x.2==NameKind.free then
    let a <-cellOf env x.1
    pure (ForInStep.yield ((x.1,a)::r))
   else pure (ForInStep.yield r):Sem (ForInStep (List (Str×Addr)))))=(pure (iF env.cells names cs):Sem (List (Str×Addr)))
 |[],cs,_=>rfl
 |(n,k)::r,cs,h=>by
  have ih:=λcs=>gZ (env:=env) r cs λx hx=>h x (List.mem_cons_of_mem _ hx);rw[List.forIn_cons];cases hk:(k==NameKind.free) with
  |true=>
   obtain⟨c,hc⟩:=h (n,k) List.mem_cons_self (by simpa using hk)
   have hc':env.cells.lookup n=some c:=hc;simp only[iF,hk,if_true,cellOf,hc',Option.getD_some,pure_bind];exact ih _
  |false=>simp only[iF,hk,Bool.false_eq_true,if_false,pure_bind];exact ih _
theorem eX{env:Env}(h:∀x∈scope.names,x.2=.free->∃c,env.cells.lookup x.1=some c):closureFor scope env=pure (iF env.cells scope.names []):=by rw[<-gZ scope.names [] h];unfold closureFor;simp only[bind_pure]
theorem md{cells:List (Str×Addr)}{y:Str}{c:Addr}:∀{names:List (Str×NameKind)}{cs:List (Str×Addr)},(iF cells names cs).lookup y=some c->((y,NameKind.free)∈names/\c=(cells.lookup y).getD 0)∨cs.lookup y=some c
 |[],cs,h=>.inr h
 |(n,k)::r,cs,h=>by
  unfold iF at h;cases hk:(k==NameKind.free) with
  |true=>
   have hk':k=.free:=by simpa using hk
   subst hk';rw[if_pos (by rfl)] at h
   rcases md h with⟨a,b⟩|q
   ·exact .inl ⟨List.mem_cons_of_mem _ a,b⟩
   ·cases hy:y==n with
    |true=>
     rw[List.lookup_cons,hy] at q;have:y=n:=by simpa using hy
     subst this;exact .inl ⟨List.mem_cons_self,(ai q).symm⟩
    |false=>rw[List.lookup_cons,hy] at q;exact .inr q
  |false=>
   rw[hk] at h;rcases md (by simpa using h) with⟨a,b⟩|q
   ·exact .inl ⟨List.mem_cons_of_mem _ a,b⟩
   ·exact .inr q
theorem fL{cells:List (Str×Addr)}{y:Str}:∀{names:List (Str×NameKind)}{cs:List (Str×Addr)},(∀c,cs.lookup y=some c->c=(cells.lookup y).getD 0)->((y,NameKind.free)∈names∨cs.lookup y=some ((cells.lookup y).getD 0))->
  (iF cells names cs).lookup y=some ((cells.lookup y).getD 0)
 |[],cs,_,h=>by
  rcases h with h|h
  ·simp at h
  ·exact h
 |(n,k)::r,cs,hc,h=>by
  unfold iF;cases hk:(k==NameKind.free) with
  |true=>
   have hk':k=.free:=by simpa using hk
   subst hk';rw[if_pos (by rfl)]
   cases hy:y==n with
   |true=>
    have:y=n:=by simpa using hy
    subst this;refine fL (λc e=>?_) (.inr ?_)
    ·rw[List.lookup_cons,hy] at e;exact(ai e).symm
    ·rw[List.lookup_cons,hy]
   |false=>
    refine fL (λc e=>?_) ?_
    ·rw[List.lookup_cons,hy] at e;exact hc c e
    ·rcases h with h|h
     ·rcases List.mem_cons.mp h with e|e
      ·injection e with e1 _;rw[e1] at hy;simp at hy
      ·exact .inl e
     ·right;rw[List.lookup_cons,hy];exact h
  |false=>
   have h':(y,NameKind.free)∈r∨List.lookup y cs=some ((List.lookup y cells).getD 0):=by
    rcases h with h|h
    ·rcases List.mem_cons.mp h with e|e
     ·injection e with _ e2;rw[<-e2] at hk;simp at hk
     ·exact .inl e
    ·exact .inr h
   have q:=fL (names:=r) (cs:=cs) hc h';simpa using q
theorem bV{env:Env}{names:List (Str×NameKind)}{k:NameKind}:(names.map λ(n,k)=>if(k==NameKind.free&&env.scope.kind== .function&&env.kindOf n==some .cell) then(n,NameKind.cell) else(n,k)).lookup x=some k->
  names.lookup x=some k∨(k=.cell/\names.lookup x=some .free):=by
 induction names with
 |nil=>intro h;simp at h
 |cons p r ih=>
  obtain⟨n,k'⟩:=p;intro h;have h:List.lookup x ((if(k'==NameKind.free&&env.scope.kind== .function&&env.kindOf n==some .cell)=true then(n,NameKind.cell) else(n,k'))::_)=some k:=h
  cases hx:x==n with
  |true=>
   by_cases hc:(k'==NameKind.free&&env.scope.kind== .function&&env.kindOf n==some .cell)=true
   ·rw[if_pos hc] at h;simp only[List.lookup_cons,hx] at h;cases h;refine .inr ⟨rfl,?_⟩;simp only[List.lookup_cons,hx];simp only[Bool.and_eq_true] at hc;have:k'=.free:=by simpa using hc.1.1
    rw[this]
   ·rw[if_neg hc] at h;simp only[List.lookup_cons,hx] at h ⊢;exact .inl h
  |false=>
   have h':List.lookup x (r.map λ(n,k)=>if(k==NameKind.free&&env.scope.kind== .function&&env.kindOf n==some .cell) then(n,NameKind.cell) else(n,k))=some k:=by
    by_cases hc:(k'==NameKind.free&&env.scope.kind== .function&&env.kindOf n==some .cell)=true
    ·rw[if_pos hc] at h;simpa only[List.lookup_cons,hx] using h
    ·rw[if_neg hc] at h;simpa only[List.lookup_cons,hx] using h
   simp only[List.lookup_cons,hx];exact ih h'
theorem iO{prog:Program}{w:World}{A:Around}{R:Result->Shared->Prop}{target:Expr}{it acc:Value}{env:Env}(I:Nat->Shared->Prop)
  (turn:∀n s,I n s->wpAny (model prog w) A (pyNext it) (λr s₁=>match r with
   |none=>R (.ok .next) s₁
   |some v=>wpAny (model prog w) A (letOwnedTupleGo target it v) (λ_ s₁'=>wpAny (model prog w) A (assign target env v) (λ_ s₂=>
     wpAny (model prog w) A (forIn ifs true λc r=>if r=true then do let ok <-isTrue c env (eval c env);pure (ForInStep.yield ok) else pure (ForInStep.yield r)) (λok s₃=>
      if ok=true then wpAny (model prog w) A (eval elt env) (λx s₄=>
       wpAny (model prog w) A (call (.builtin "list.append") [acc,x]) (λ_ s₅=>∃m,m<n/\I m s₅) (notedBy (model prog w) A env λe s'=>R (.error e) s') s₄) (notedBy (model prog w) A env λe s'=>R (.error e) s') s₃
      else ∃m,m<n/\I m s₃) (notedBy (model prog w) A env λe s'=>R (.error e) s') s₂) (notedBy (model prog w) A env λe s'=>R (.error e) s') s₁') (notedBy (model prog w) A env λe s'=>R (.error e) s') s₁) (notedBy (model prog w) A env λe s'=>R (.error e) s') s)
  (n:Nat)(h:I n s):
  codeAny (model prog w) A (.compLoop (.ListComp elt [⟨target,iter,ifs,0⟩] scope pos) 0 it acc env) R s:=by
 refine codeAny_loop rfl I (λn s hI=>?_) n h;show wpAny _ A ((compTurn (.ListComp elt [⟨target,iter,ifs,0⟩] scope pos) 0 it acc env).onRaise (λx=>do noteFrame x env;theTreesLotGoes x)) _ _ s
 refine wpAny_noted ?_;rw[compTurn_list];refine aa (wpAny_standAt (aa (aQ (turn n s hI) (λr s₁ h₁=>?_) λ_ _ h'=>h')));cases r with
 |none=>exact af h₁
 |some v=>
  refine aa (aQ h₁ (λ_ s₁' h₁'=>?_) λ_ _ h'=>h');refine aa (aQ h₁' (λ_ s₂ h₂=>aa (aQ h₂ (λok s₃ h₃=>?_) λ_ _ h'=>h')) λ_ _ h'=>h');cases ok with
  |false=>exact af ⟨rfl,h₃⟩
  |true=>exact aa (aa (aQ h₃ (λx s₄ h₄=>aa (aQ h₄ (λ_ s₅ h₅=>af (af ⟨rfl,h₅⟩)) λ_ _ h'=>h')) λ_ _ h'=>h'))
noncomputable def wH(z:Str):Str:=⟨#[46]++z.cps⟩
noncomputable def fS(scope:Scope)(N:List Str):List Str:=N.map λz=>if scope.names.lookup z=some .local then wH z else z
noncomputable def bG(X:Cx)(x:Str)(scope:Scope)(fp:List Addr)(s:Shared)(H:Hp):Cx where
 prog:=X.prog
 w:=X.w
 K:=X.K
 mg:=X.mg
 base:=X.base
 A:=X.A
 N:=x::fS scope X.N
 s₀:=s
 H₀:=H
 env:=compEnvC scope (iF X.env.cells scope.names []) s.heap.objs.size X.env
 outer:=X.stack
 stack:=X.stack
 ex:=fp
 calm:=X.calm
 fn:=λ_=>false
 pn:=X.pn
 xe:=λ_ _=>False
structure CompScope(X:Cx)(x:Str)(scope:Scope):Prop where
 kind:scope.kind=.function
 nocell:∀y∈scope.names,y.2≠ .cell
 locs:∀y∈scope.names,y.2=.local->scope.names.lookup y.1=some .local
 own:scope.names.lookup x=some .local
 frees:∀y∈scope.names,y.2=.free->X.env.kindOf y.1=some .cell∨X.env.kindOf y.1=some .free
 apart:∀z∈X.N,scope.names.lookup z=some .local->scope.names.lookup (wH z)=none
theorem CompScope.cells(C:CompScope X x scope)(ok:X.Ok):∀y∈scope.names,y.2=.free->∃c,X.env.cells.lookup y.1=some c:=λy hy hf=>ok.has y.1 (C.frees y hy hf)
theorem CompScope.cell_of{c:Addr}(C:CompScope X x scope)(ok:X.Ok)(h:(iF X.env.cells scope.names []).lookup y=some c):(y,NameKind.free)∈scope.names/\X.env.cells.lookup y=some c:=by
 rcases md h with⟨a,b⟩|q
 ·obtain⟨c',e⟩:=C.cells ok _ a rfl;have e':X.env.cells.lookup y=some c':=e;rw[e',Option.getD_some] at b;exact⟨a,by rw[b];exact e'⟩
 ·simp at q
theorem fV{σ:St}{H:Hp}(I:Inv X pins σ H s)(C:CompScope X x scope)(hf:∀b∈fp,ei X pins H b)(ho:∀b∈fp,∃o,s.heap.get? b=some o):
  (bG X x scope fp s H).Ok where
 mod:=I.ok.mod
 kind:=C.kind
 glob:=I.ok.glob
 blt:=I.ok.blt
 above:=ah _
 inj:=λy z c h1 h2=>I.ok.inj y z c (C.cell_of I.ok h1).2 (C.cell_of I.ok h2).2
 has:=λy hy=>by
  have hy:(relabel scope X.env).names.lookup y=some .cell∨(relabel scope X.env).names.lookup y=some .free:=hy
  have hfr:scope.names.lookup y=some .free:=by
   rcases hy with hy|hy
   ·rcases bV hy with q|⟨_,q⟩
    ·exact absurd rfl (C.nocell _ (aK q))
    ·exact q
   ·rcases bV hy with q|⟨z,_⟩
    ·exact q
    ·cases z
  exact⟨_,fL (λc e=>by simp at e) (.inl (aK hfr))⟩
 cab:=λy c h _=>nomatch h
 hd:=I.ok.hd
 frames:=I.ok.frames
 stk:= .inl rfl
 exf:=λb hb=>by obtain⟨o,e⟩:=ho b hb;obtain⟨f0,f1,f2,f3,f4,f5⟩:=hf b hb;exact⟨ao (al e),λy c h=>f4 y c (C.cell_of I.ok h).2⟩
 bs:=I.bs
 bsz:=az I.ok.bsz I.sz
 noex:=λb o e hb=>by
  obtain⟨f0,f1,f2,f3,f4,f5⟩:=hf b hb;rcases f3 with z|z
  ·exact I.ok.noex b o e z
  ·exact absurd (aw (al (I.ok.bs b o e).1) z) (bF _)
 exfs:=λb hb hs=>by
  obtain⟨f0,f1,f2,f3,f4,f5⟩:=hf b hb;rcases List.mem_cons.mp (I.stkSub b hs) with z|z
  ·exact f1 z
  ·exact f2 z
 funs:=I.stack
 frf:=I.stkFree
theorem nG{σ:St}{H:Hp}{h':Heap}{tk:Nat}{m:Str->Option Value}(I:Inv X pins σ H s)(C:CompScope X x scope)(hf:∀b∈fp,ei X pins H b)(ho:∀b∈fp,∃o,s.heap.get? b=some o)
  (hn:h'.Ns s.heap.objs.size m)(k:∀b o,s.heap.get? b=some o->h'.get? b=some o):Inv (bG X x scope fp s H) pins (none::σ) H {s with heap:=h',toks:=tk}:=by
 refine⟨fV I C hf ho,rfl,I.bare,Un.kept k,⟨m,hn,λi y v h1 h2 h3=>?_⟩,λy c h=>?_,I.hok.fresh (ah _),λy c h=>I.freeC y c (C.cell_of I.ok h).2,λp hp=>?_,I.hok.kept k,?_⟩
 ·cases i with
  |zero=>simp at h2
  |succ i=>
   have h1:(fS scope X.N)[i]? =some y:=by simpa[bG] using h1
   unfold fS at h1;rw[aB] at h1;obtain⟨y0,h1',hy0⟩:=Option.map_eq_some_iff.mp h1;have h2:σ[i]? =some (some v):=by simpa using h2
   have h3:(relabel scope X.env).names.lookup y=some .local∨(relabel scope X.env).names.lookup y=some .cell∨(relabel scope X.env).names.lookup y=some .free:=h3
   have hsome:∃kd,scope.names.lookup y=some kd:=by rcases h3 with q|q|q<;>rcases bV q with q|⟨_,q⟩<;>exact⟨_,q⟩
   have nl:¬scope.names.lookup y0=some .local:=λhl=>by rw[if_pos hl] at hy0;obtain⟨kd,q⟩:=hsome;rw[<-hy0,C.apart y0 (ak h1') hl] at q;cases q
   rw[if_neg nl] at hy0;subst hy0
   have hfr:scope.names.lookup y0=some .free:=by
    rcases h3 with q|q|q
    ·rcases bV q with q|⟨z,_⟩
     ·exact absurd q nl
     ·cases z
    ·rcases bV q with q|⟨_,q⟩
     ·exact absurd rfl (C.nocell _ (aK q))
     ·exact q
    ·rcases bV q with q|⟨z,_⟩
     ·exact q
     ·cases z
   have hmem:=aK hfr;obtain⟨m0,hn0,hl0⟩:=I.loc
   have hvis:uu X.env.scope y0:=by
    rcases C.frees _ hmem rfl with q|q
    ·exact .inr (.inl q)
    ·exact .inr (.inr q)
   obtain⟨u,r,l⟩:=hl0 i y0 v h1' h2 hvis;refine⟨u,r,.inr ⟨?_,?_⟩⟩
   ·rcases h3 with q|q|q
    ·rcases bV q with q|⟨z,_⟩
     ·rw[hfr] at q;cases q
     ·cases z
    ·exact .inl q
    ·exact .inr q
   ·rcases l with⟨lk,_⟩|⟨_,c,hc,hcell⟩
    ·rcases C.frees _ hmem rfl with q|q
     ·rw[lk] at q;cases q
     ·rw[lk] at q;cases q
    ·refine⟨c,?_,?_⟩
     ·show(iF X.env.cells scope.names []).lookup y0=some c;have q:=fL (cells:=X.env.cells) (y:=y0) (names:=scope.names) (cs:=[]) (λc e=>by simp at e) (.inl hmem)
      rw[hc,Option.getD_some] at q;exact q
     ·obtain⟨o,e,d⟩:=hcell;exact⟨o,k _ _ e,d⟩
 ·obtain⟨v,o,e,d⟩:=I.cell y c (C.cell_of I.ok h).2;exact⟨v,o,k _ _ e,d⟩
 ·obtain⟨e,n,ne,nf,d⟩:=I.pin p hp;refine⟨k _ _ e,n,ao (al e),λz=>?_,d⟩;rcases List.mem_cons.mp (I.stkSub _ z) with q|q
  ·exact ne q
  ·exact nf q
 ·show(none::σ).length=(x::fS scope X.N).length;rw[List.length_cons,List.length_cons,I.len,fS,List.length_map]
noncomputable def uT:TT:=λ_ H Q=>Q true H
noncomputable def uI(X:Cx)(ifs:List Expr)(t:TT):Prop:=
 ∀(pins:List (Addr×Obj))(s:Shared)(σ:St)(H:Hp)(Q:Bool->Hp->Prop),Inv X pins σ H s->t σ H Q->
  wpAny (model X.prog X.w) X.A (forIn ifs true λc r=>if r=true then do let ok <-isTrue c X.env (eval c X.env);pure (ForInStep.yield ok) else pure (ForInStep.yield r)) (TP X pins σ Q) X.xe s
theorem lB:uI X [] uT:=λ_ _ _ H _ I h=>wpAny_tests_nil ⟨H,I,h⟩
theorem pC{c:Expr}{t:TT}(h:PT X c t):uI X [c] t:=λpins s σ H Q I q=>wpAny_tests_one (h pins s σ H Q I q)
noncomputable def mD(wi:TI)(tc:TT)(te:TE):TE:=λσ H Q=>wi σ H λJ H1=>∀D,H1 D=none->∃W:Nat->Nat->List V->Hp->Prop,(∃m,W 0 m [] (bE H1 D (.lst [])))/\∀i m ys H2,W i m ys H2->
 (J.stop i H2/\Q (.ref D) H2)∨(J.go i H2/\∃N:List V->Hp->Prop,(∀ys' H',N ys' H'->∃m',m'<m/\W (i+1) m' ys' H')/\
  ∀x H',J.yld i H2 x H'->tc (some x::σ) H' λb H3=>if b=true then te (some x::σ) H3 λy H4=>H4 D=some (.lst ys)/\ys.length<sizeLine/\N (ys++[y]) (bE H4 D (.lst (ys++[y]))) else N ys H3)
theorem nE{σ σ':St}{H H':Hp}{s':Shared}{h':Heap}(I:Inv X pins σ H s)(hf:∀b∈fp,ei X pins H b)(J:Inv (bG X x scope fp s H) pins σ' H' s')
  (sb:Heap.SameBut s.heap.objs.size s'.heap h'):Inv X pins σ H' {s' with heap:=h'}:=by
 have hC:H' s.heap.objs.size=none:=J.free;have ne:∀b o,s.heap.get? b=some o->b≠s.heap.objs.size:=λb o e=>ao (al e)
 have u:Un (qV X.stack) fp H H' s.heap h':=
  ⟨λb o e n hb hx=>(sb.2 b (ne b o e)).trans (J.base.keep b o e n hb hx),λb o e n hb hx=>by
    obtain⟨sl,q⟩:=J.base.slot b o e n hb hx;exact⟨sl,(sb.2 b (ne b o e)).trans q⟩,J.base.free,λb o e hx=>by
    obtain⟨o',q⟩:=J.base.there b o e hx;exact⟨o',(sb.2 b (ne b o e)).trans q⟩,J.base.tups,J.base.frzs,J.base.tbls⟩
 have hok:gb X.prog X.w H' h':=λb ob e=>by
  refine(J.hok b ob e).stay (λc w' hc q=>(sb.2 c ?_).trans q) (λ_ q=>q) λ_ _ q=>q;intro z;rcases hc with y|y
  ·rw[z] at y;rw[<-y,hC] at e;cases e
  ·rw[z,hC] at y;cases y
 exact I.call' (s':={s' with heap:=h'}) J.os u hok J.bare λb hb=>⟨(hf b hb).2.2.2.1,(hf b hb).2.1,(hf b hb).2.2.2.2.1,(hf b hb).2.2.2.2.2⟩
theorem kL{wi:TI}{tc:TT}{te:TE}(hc:X.calm=true)(C:CompScope X x scope)(hx:(x::fS scope X.N).Nodup)(hN:X.N.Nodup)
  (hi:PI X (.Name x px) iter wi)(ht:∀fp s H,uI (bG X x scope fp s H) ifs tc)(he:∀fp s H,PE (bG X x scope fp s H) elt te)
  (hs:∀x,foldedSetIterable iter X.env x=pure x){σ:St}{H:Hp}{Q:VK}(I:Inv X pins σ H s)(h:mD wi tc te σ H Q)
  {use:Option (Value->Sem Unit)}{QQ:Value->Shared->Prop}{ppos:Pos}
  (fin:∀{fp:List Addr}{s3 s5:Shared}{H3 H4:Hp}{D:Addr}{o:Option V},Inv X pins σ H3 s3->(∀b∈fp,ei X pins H3 b)->Inv (bG X x scope fp s3 H3) pins (o::σ) H4 s5->Q (.ref D) H4->compPost (model X.prog X.w) X.A X.xe use QQ (.ref D) s3.heap.objs.size (.ok .next) s5):
  wpAny (model X.prog X.w) X.A (comprehension (.ListComp elt [⟨.Name x px,iter,ifs,0⟩] scope pos) scope X.env ppos (newList []) false (eval iter X.env) use) QQ X.xe s:=by
 refine wpAny_comprehension_free rfl hs (eX (C.cells I.ok)) C.kind C.locs (bU (hi pins s σ H _ I h) λv s1 h1=>bU h1 λitv s2 h2=>?_);obtain⟨it,fp,tn,J,H2,e,I2,T,st2,f2,R⟩:=h2;subst e;have hD:H2 s2.heap.objs.size=none:=I2.hok.fresh (ah _);obtain⟨W,⟨m0,w0⟩,turn⟩:=R _ hD;refine wpAny_newObj_type (wpAny_newFunctionEnv C.nocell (by intro y hy;simp at hy) (λh₁ hns₁ hsb₁=>?_) C.kind)
 dsimp only at hns₁ hsb₁ ⊢
 have I3:Inv X pins σ (bE H2 s2.heap.objs.size (.lst [])) {s2 with heap:=s2.heap.push {cls:= .type "list",dict:=none,data:= .seq ([]:List Value).toArray}}:=
  I2.laid (t':=s2.toks) (o:= .lst []) (λb ob q=>ae _ q) (ah _) ⟨Nat.zero_le _,[],0,.nil,am _ rfl⟩
 have f3:∀b∈fp,ei X pins (bE H2 s2.heap.objs.size (.lst [])) b:=λb hb=>by
  obtain⟨o,e,_⟩:=T.obj _ _ st2 b hb;obtain⟨g0,g⟩:=f2 b hb;exact⟨by rw[aE (ao (al e))];exact g0,g⟩
 have o3:∀b∈fp,∃o,(s2.heap.push {cls:= .type "list",dict:=none,data:= .seq ([]:List Value).toArray}).get? b=some o:=λb hb=>by obtain⟨o,e,_⟩:=T.obj _ _ st2 b hb;exact⟨o,ae _ e⟩
 have old:∀b o,(s2.heap.push {cls:= .type "list",dict:=none,data:= .seq ([]:List Value).toArray}).get? b=some o->h₁.get? b=some o:=λb o e=>
  hsb₁.extBut b o (ao (al e)) (ae _ e)
 have K0:=nG (x:=x) (scope:=scope) (fp:=fp) (h':=h₁) (tk:=s2.toks) I3 C f3 o3 hns₁ old;have st3:tn 0 h₁:=T.keep _ _ _ st2 λb _ o e=>old b o (ae _ e);generalize hs3:({s2 with heap:=s2.heap.push {cls:= .type "list",dict:=none,data:= .seq ([]:List Value).toArray}}:Shared)=s3 at I3 K0;have es3:s2.heap.push {cls:= .type "list",dict:=none,data:= .seq ([]:List Value).toArray}=s3.heap:=by rw[<-hs3]
 generalize hH3:bE H2 s2.heap.objs.size (.lst [])=H3 at I3 K0 f3 w0
 have stat:∀{H':Hp},(∀b∈fp,H' b=none)->∀b∈fp,ei (bG X x scope fp s3 H3) pins H' b:=λ{H'} hn b hb=>by
  obtain⟨o,e⟩:=o3 b hb;rw[es3] at e;obtain⟨g0,g1,g2,g3,g4,g5⟩:=f3 b hb;refine⟨hn b hb,ao (al e),λz=>?_,.inl hb,λy c h=>g4 y c (C.cell_of I.ok h).2,g5⟩;rcases List.mem_cons.mp (I3.stkSub _ z) with q|q
  ·exact g1 q
  ·exact g2 q
 have nd':(x::fS scope X.N).Nodup:=hx;have lx:(relabel scope X.env).names.lookup x=some .local:=lookup_relabel_local C.own
 have loop:codeAny (model X.prog X.w) X.A (.compLoop (.ListComp elt [⟨.Name x px,iter,ifs,0⟩] scope pos) 0 (.ref it) (.ref s2.heap.objs.size) (bG X x scope fp s3 H3).env)
   (compPost (model X.prog X.w) X.A X.xe use QQ (Value.ref s2.heap.objs.size) s3.heap.objs.size) {s3 with heap:=h₁,toks:=s2.toks}:=by
  refine iO (λn s'=>∃i o ys H',Inv (bG X x scope fp s3 H3) pins (o::σ) H' s'/\tn i s'.heap/\(∀b∈fp,H' b=none)/\W i n ys H') ?_ m0 ⟨0,none,[],H3,K0,st3,λb hb=>(f3 b hb).1,w0⟩;rintro n s4 ⟨i,o,ys,H4,I4,st4,fr4,w4⟩;rcases turn i n ys H4 w4 with⟨stop,qn⟩|⟨go,N,hNN,step⟩
  ·refine bU (T.done (bG X x scope fp s3 H3) rfl rfl rfl hc i pins s4 (o::σ) H4 _ I4 (stat fr4) st4 stop) λr s5 ⟨hr,I5⟩=>?_;subst hr;exact fin I3 f3 I5 qn
  ·refine bU (T.item (bG X x scope fp s3 H3) rfl rfl rfl hc i pins s4 (o::σ) H4 _ I4 (stat fr4) st4 go) λr s5 hp=>?_;obtain⟨u,hr,h5⟩:=hp;subst hr;refine bU h5 λ_ s6 hp=>?_;obtain⟨y,H6,I6,r6,y6,st6,fr6⟩:=hp;have I6':=I6.pinned (stat fr6) (T.obj _ _ st6);refine wpAny_assign_Name (jo (i:=0) I6' nd' rfl (.inl lx) r6 (λs7 I7=>?_) (.inr lx))
   have keepS:∀{o':Option V}{H':Hp}{s':Shared},Inv (bG X x scope fp s3 H3) (pins++ik fp s6.heap) (o'::σ) H' s'->tn (i+1) s'.heap/\∀b∈fp,H' b=none:=λ{o' H' s'} I'=>by refine⟨T.keep _ _ _ st6 λb hb o e=>(I'.pin (b,o) (aH _ (aH _ (cQ hb e)))).1,λb hb=>?_⟩;obtain⟨o,e,d⟩:=T.obj _ _ st6 b hb;exact(I'.pin (b,o) (aH _ (aH _ (cQ hb e)))).2.1
   refine aQ (ht fp s3 H3 _ s7 (some y::σ) H6 _ I7 (step y H6 y6)) (λb s8 ⟨H8,I8,q8⟩=>?_) λ_ _ z=>False.elim z;cases b with
   |false=>rw[if_neg aF] at q8 ⊢;obtain⟨m',hm,w8⟩:=hNN ys H8 q8;obtain⟨a1,a2⟩:=keepS I8;exact⟨m',hm,i+1,some y,ys,H8,I8.unpinned,a1,a2,w8⟩
   |true=>rw[if_pos rfl] at q8 ⊢;refine aQ (he fp s3 H3 _ s8 (some y::σ) H8 _ I8 q8) (λv9 s9 ⟨y9,H9,I9,r9,hacc,hsz,q9⟩=>?_) λ_ _ z=>False.elim z;refine aQ (ip (X:=bG X x scope fp s3 H3) _ s9 (some y::σ) H9 (.ref s2.heap.objs.size) [y9] _ [v9] (λ_ H'=>N (ys++[y9]) H') I9 rfl (.cons r9 .nil) ⟨_,_,_,rfl,rfl,hacc,hsz,q9⟩) (λ_ s10 ⟨_,H10,I10,_,q10⟩=>?_) λ_ _ z=>False.elim z;obtain⟨m',hm,w10⟩:=hNN _ H10 q10;obtain⟨a1,a2⟩:=keepS I10;exact⟨m',hm,i+1,some y,_,H10,I10.unpinned,a1,a2,w10⟩
 have eC:(s2.heap.push {cls:= .type "list",dict:=none,data:= .seq ([]:List Value).toArray}).objs.size=s3.heap.objs.size:=by rw[es3]
 rw[eC];have es4:({heap:=h₁,gens:=s2.gens,drawn:=s2.drawn,toks:=s2.toks+([]:List (Str×Value)).length,os:=s2.os}:Shared)={s3 with heap:=h₁,toks:=s2.toks}:=by rw[<-hs3];rfl
 rw[es4];exact codeAny_compStart_list loop (T.self _ 0 _ _ _ st3 loop)
theorem pI{wi:TI}{tc:TT}{te:TE}(hc:X.calm=true)(C:CompScope X x scope)(hx:(x::fS scope X.N).Nodup)(hN:X.N.Nodup)
  (hi:PI X (.Name x px) iter wi)(ht:∀fp s H,uI (bG X x scope fp s H) ifs tc)(he:∀fp s H,PE (bG X x scope fp s H) elt te)
  (hs:∀x,foldedSetIterable iter X.env x=pure x:=by intro _;rfl):PE X (.ListComp elt [⟨.Name x px,iter,ifs,0⟩] scope pos) (mD wi tc te):=by
 intro pins s σ H Q I h;rw[eval_ListComp];refine kL (use:=none) hc C hx hN hi ht he hs I h λI3 f3 I5 qn=>?_;obtain⟨m5,hn5,_⟩:=id I5.loc;exact⟨m5,hn5,λh' sb=>⟨.ref _,_,nE I3 f3 I5 sb,rfl,qn⟩⟩
theorem ou{py:Pos}{spos:Pos}{wi:TI}{tc:TT}{te:TE}{i:Nat}(hc:X.calm=true)(C:CompScope X x scope)(hx:(x::fS scope X.N).Nodup)(hN:X.N.Nodup)
  (hi:PI X (.Name x px) iter wi)(ht:∀fp s H,uI (bG X x scope fp s H) ifs tc)(he:∀fp s H,PE (bG X x scope fp s H) elt te)
  (hs:∀x,foldedSetIterable iter X.env x=pure x)(hy:X.N[i]? =some y)(hl:Loc X.env.scope y)(hf:X.fn y=true∨X.env.scope.names.lookup y=some .local):
  PS X (.Assign [.Name y py] (.ListComp elt [⟨.Name x px,iter,ifs,0⟩] scope pos) spos) (nZ (mD wi tc te) (d7 i)):=by
 have hb:∃b,swapsWith (.ListComp elt [⟨.Name x px,iter,ifs,0⟩] scope pos) (some (.Name y py)) spos.line X.env=pure b:=⟨_,rfl⟩;obtain⟨b,hb⟩:=hb;cases b with
 |false=>exact ow hN hy hl (pI hc C hx hN hi ht he hs) hb hf
 |true=>
  intro pins s σ H D I h;rw[exec_Assign_Name_used _ _ _ _ hb];refine aa (wpAny_standAt (aa ?_));show wpAny _ X.A (do let _ <-comprehension (.ListComp elt [⟨.Name x px,iter,ifs,0⟩] scope pos) scope X.env _ (newList []) false (eval iter X.env) (some (assign (.Name y py) X.env))) _ _ s
  refine aa (aQ (kL (use:=some (assign (.Name y py) X.env)) (QQ:=λ_ s'=>SP X pins D .next s') hc C hx hN hi ht he hs I h λ{fp s3 s5 H3 H4 Dd o} I3 f3 I5 qn=>?_) (λ_ s' hq=>af (af hq)) λ_ _ e=>e)
  have I6:Inv X pins σ H4 s5:=by have:=nE I3 f3 I5 (Heap.SameBut.refl _ _);exact this
  obtain⟨m5,hn5,_⟩:=id I5.loc;have hC0:H4 s3.heap.objs.size=none:=I5.free;have hCL:X.env.locals≠s3.heap.objs.size:=ao I3.lt;show wpAny _ X.A (assign (.Name y py) X.env (.ref Dd)) _ _ _;refine wpAny_assign_Name (h_ (v:= .ref Dd) I6 hN hy hl rfl (λs7 I7 hch=>?_) hf);obtain⟨a,sb,ha⟩:=hch
  have hCa:s3.heap.objs.size≠a:=by
   rcases ha with rfl|ha
   ·exact hCL.symm
   ·obtain⟨v,q⟩:=I3.cell y a ha;exact(ao q.lt).symm
  refine⟨m5,hn5.sameBut sb hCa,λh' sb'=>⟨_,H4,?_,qn⟩⟩;refine I7.turned (t':=s7.toks) (it:=s3.heap.objs.size) (λb o hb e=>(sb'.2 b hb).trans e) hC0 hCL.symm (.inr I3.sz) (λz c e=>?_) λp hp=>?_
  ·obtain⟨v,q⟩:=I3.cell z c e;exact ao q.lt
  ·exact ao (al (I3.pin p hp).1)
end L2
namespace PySem.SeqAt
open AutoSeq1 (wpAny_loadPart')
open MeetsSeq
variable{ns:List Int}{es es2:Array DictEntry}{ep ep2:Nat}{a b l:Addr}{f:Nat->Bool}
noncomputable def KD(es:Array DictEntry)(ns:List Int):Prop:=es.size=ns.length/\∀(i:Nat)(e:DictEntry)(n:Int),es[i]? =some e->ns[i]? =some n->(∃t,e.key=.int n t)/\e.hash=hashInt n
noncomputable def wf(h:Heap)(d:Addr)(ns:List Int)(us:List Value):Prop:=
 ∃es ep,h.get? d=some {cls:= .type "dict",dict:=none,data:= .dict es ep,slots:= #[]}/\es.toList.map (·.val)=us/\ns.Nodup/\KD es ns
theorem zU(hk:KD es ns)(prog:Program)(w:World):KeysOf (intKind prog w) es:=by
 obtain⟨hl,hk⟩:=hk;intro e he;obtain⟨i,hi,rfl⟩:=Array.getElem_of_mem he;have h2:ns[i]? =some (ns[i]'(by omega)):=by simp[<-hl,hi]
 obtain⟨⟨t,h3⟩,h4⟩:=hk i es[i] _ (by simp[hi]) h2
 exact⟨ns[i]'(by omega),by rw[h3];exact intKind_is _ _ _ _,h4⟩
theorem Ai(nd:ns.Nodup)(hk:KD es ns)(prog:Program)(w:World){i:Nat}{n:Int}(h:ns[i]? =some n):es.findIdx? (λe=>(intKind prog w).is n e.key)=some i:=by
 obtain⟨hl,hk⟩:=hk;obtain⟨hi,rfl⟩:=au h
 have key:∀j (hj:j<es.size),(intKind prog w).is ns[i] es[j].key=decide (ns[i]=ns[j]'(by omega)):=λj hj=>by
  obtain⟨⟨t,h3⟩,_⟩:=hk j es[j] (ns[j]'(by omega)) (by simp[hj]) (by simp)
  rw[h3];exact KeyKind.is_eq_decide (intKind_is _ _ _ _) _
 rw[Array.findIdx?_eq_some_iff_getElem];refine⟨by omega,by rw[key i (by omega)];simp,λj hj=>?_⟩
 rw[key j (by omega)]
 have:ns[i]≠ns[j]:=λe=>by
  have:=List.pairwise_iff_getElem.mp nd j i (by omega) hi hj
  exact this e.symm
 simp[this]
section
variable{prog:Program}{w:World}{A:Around}{E:Value->Shared->Prop}{s:Shared}
theorem vW{Q:Array DictEntry->Shared->Prop}(ho:s.heap.get? a=some {cls:= .type "dict",dict:=none,data:= .dict es ep,slots:= #[]})(h:Q es s):wpAny (model prog w) A (dictEntries a) Q E s:=by unfold dictEntries;exact aa (wpAny_loadPart' ho (af h))
theorem BO{Q:Nat->Shared->Prop}(ho:s.heap.get? a=some {cls:= .type "dict",dict:=none,data:= .dict es ep,slots:= #[]})(h:Q ep s):wpAny (model prog w) A (dictEpoch a) Q E s:=by unfold dictEpoch;exact aa (wpAny_loadPart' ho (af h))
theorem jr{id:String}{Q:Bool->Shared->Prop}(zl:(l==sysModules)=false)(zb:(b==sysModules)=false)(hl:s.heap.get? l=some {cls:= .type "dict",dict:=none,data:= .dict es ep,slots:= #[]})(hb:s.heap.get? b=some {cls:= .type "dict",dict:=none,data:= .dict es2 ep2,slots:= #[]})
  (nd:ns.Nodup)(h1:KD es ns)(h2:KD es2 ns)(he:∀(j:Nat)(e e2:DictEntry),es[j]? =some e->es2[j]? =some e2->EqAt A s e.val e2.val (f j))(h:Q ((List.range es.size).all f) s):
  wpAny (model prog w) A (Builtin.Dict.samePairs id l b) Q E s:=by
 have e1:=h1.1;have e2:=h2.1;unfold Builtin.Dict.samePairs Builtin.Dict.showsAll;rw[zl,zb];refine aa (af (aa (af (aa (vW hl (aa (vW hb ?_)))))));rw[if_neg (by simp[e1,e2])]
 refine aa (BO hl ?_);rw[Std.Legacy.Range.forIn_eq_forIn_range'];refine aa (wpAny_forIn_list _ (λrest q s'=>s'=s/\q=(none,())/\∃k,k+rest.length=es.size/\rest=List.range' k rest.length/\(List.range k).all f=true) _ (λi rest q s' hI=>?_) (λq s' hI=>?_) _ _ ?_)
 ·obtain⟨rfl,rfl,k,hk,hr,ha⟩:=hI
  have hik:i=k/\rest=List.range' (k+1) rest.length:=by rw[List.length_cons,List.range'_succ] at hr;injection hr with q1 q2;exact⟨q1,q2⟩
  obtain⟨rfl,hrest⟩:=hik;rw[List.length_cons] at hk;have hi:i<es.size:=by omega
  refine aa (vW hl ?_);rw[show es[i]? =some es[i] by simp[hi]]
  dsimp only;have hn:ns[i]? =some (ns[i]'(by omega)):=by simp
  obtain⟨⟨t,k1⟩,k2⟩:=h1.2 i es[i] _ (by simp[hi]) hn
  refine aa (wpAny_holding (aa ?_));rw[k2];refine wpAny_dictFind_of (knd:=intKind prog w) (k:=ns[i]'(by omega)) (by rw[k1];exact intKind_is _ _ _ _) hb rfl (zU h2 prog w) ?_
  rw[Ai nd h2 prog w hn];dsimp only;refine aa (vW hb ?_);have hi2:i<es2.size:=by omega
  rw[show es2[i]? =some es2[i] by simp[hi2]]
  dsimp only;refine wpAny_holding (he i _ _ (by simp[hi]) (by simp[hi2]) prog w _ _ ?_)
  cases hf:f i with
  |false=>
   have hall:(List.range es.size).all f=false:=by
    rw[List.all_eq_false];exact⟨i,List.mem_range.mpr hi,by simp[hf]⟩
   rw[hall] at h;exact af (af h)
  |true=>
   refine aa (BO hl ?_);rw[if_neg (by simp)]
   refine af ⟨rfl,rfl,i+1,by omega,hrest,?_⟩
   rw[List.range_succ,List.all_append,ha];simp[hf]
 ·obtain⟨rfl,rfl,k,hk,hr,ha⟩:=hI;have:k=es.size:=by simpa using hk
  subst this;rw[ha] at h;exact af h
 ·refine⟨rfl,rfl,0,by simp[Std.Legacy.Range.size],by simp[Std.Legacy.Range.size],rfl⟩
theorem q_(zl:(l==sysModules)=false)(zb:(b==sysModules)=false)(nd:ns.Nodup)(h1:KD es ns)(h2:KD es2 ns):
  Meets (Builtin.«dict.__eq__» ⟨[.ref l,.ref b],[]⟩) (λA R s=>s.heap.get? l=some {cls:= .type "dict",dict:=none,data:= .dict es ep,slots:= #[]}/\s.heap.get? b=some {cls:= .type "dict",dict:=none,data:= .dict es2 ep2,slots:= #[]}/\
   (∀(j:Nat)(e e2:DictEntry),es[j]? =some e->es2[j]? =some e2->EqAt A.in1 s e.val e2.val (f j))/\R (.ok (.ret (.bool ((List.range es.size).all f)))) s):=
 .of_wp λprog w A R s h=>by
  obtain⟨hp,g,d,tk,os⟩:=s;obtain⟨hl,hb,he,h⟩:=h
  wp_walk using wpAny_loadPart' hl,wpAny_loadPart' hb
  refine wpAny_of_eq F.sub_dict_dict ?_;refine aa (af (aa (af (aa (jr (f:=f) zl zb hl hb nd h1 h2 he ?_)))));exact af ⟨_,rfl,by simpa using h⟩
theorem qZ(zl:(l==sysModules)=false)(zb:(b==sysModules)=false)(nd:ns.Nodup)(h1:KD es ns)(h2:KD es2 ns):
  Meets (Builtin.«dict.__ne__» ⟨[.ref l,.ref b],[]⟩) (λA R s=>s.heap.get? l=some {cls:= .type "dict",dict:=none,data:= .dict es ep,slots:= #[]}/\s.heap.get? b=some {cls:= .type "dict",dict:=none,data:= .dict es2 ep2,slots:= #[]}/\
   (∀(j:Nat)(e e2:DictEntry),es[j]? =some e->es2[j]? =some e2->EqAt A.in1 s e.val e2.val (f j))/\R (.ok (.ret (.bool (!(List.range es.size).all f)))) s):=
 .of_wp λprog w A R s h=>by
  obtain⟨hp,g,d,tk,os⟩:=s;obtain⟨hl,hb,he,h⟩:=h
  wp_walk using wpAny_loadPart' hl,wpAny_loadPart' hb
  refine wpAny_of_eq F.sub_dict_dict ?_;refine aa (af (aa (af (aa (jr (f:=f) zl zb hl hb nd h1 h2 he ?_)))));refine af ⟨_,rfl,?_⟩;cases q:(List.range es.size).all f<;>rw[q] at h<;>exact h
end
section
variable{A:Around}{s:Shared}
theorem RcAt.dicts{us vs:List Value}(zl:(l==sysModules)=false)(zb:(b==sysModules)=false)(hl:wf s.heap l ns us)(hb:wf s.heap b ns vs)(hu:A.units<cLine)(he:∀j (h1:j<us.length)(h2:j<vs.length),EqAt A.in1 s us[j] vs[j] (f j)):
  RcAt A s (.ref l) (.ref b) ((List.range us.length).all f)/\RcNeAt A s (.ref l) (.ref b) (!(List.range us.length).all f):=by
 obtain⟨es,ep,ho,rfl,nd,k1⟩:=hl;obtain⟨es2,ep2,ho2,rfl,_,k2⟩:=hb
 have he':∀(j:Nat)(e e2:DictEntry),es[j]? =some e->es2[j]? =some e2->EqAt A.in1 s e.val e2.val (f j):=λj e e2 q1 q2=>by
  obtain⟨i1,rfl⟩:=Array.getElem?_eq_some_iff.mp q1;obtain⟨i2,rfl⟩:=Array.getElem?_eq_some_iff.mp q2;have:=he j (by simpa using i1) (by simpa using i2)
  simpa using this
 rw[List.length_map,Array.length_toList]
 exact⟨λprog w E Q h=>richCompare_meets_room (op:= .Eq) ⟨_,ho,rfl⟩ ⟨_,ho2,rfl⟩ F.slot_dict_eq F.entry_dict_eq (F.args_dict_eq_2 _ _) (q_ zl zb nd k1 k2) ⟨ho,ho2,he',(λx=>nomatch x),h⟩ hu,
  λprog w E Q h=>richCompare_meets_room (op:= .NotEq) ⟨_,ho,rfl⟩ ⟨_,ho2,rfl⟩ F.slot_dict_ne F.entry_dict_ne (F.args_dict_ne_2 _ _) (qZ zl zb nd k1 k2) ⟨ho,ho2,he',(λx=>nomatch x),h⟩ hu⟩
end
end PySem.SeqAt
namespace PySem
open Sem (wp)
section
variable{prog:Program}{w:World}{A:Around}{E:Value->Shared->Prop}{s:Shared}
noncomputable def wz:Int:=0xFCA86420
theorem qT{Q:Int->Shared->Prop}(h:Q wz {s with toks:=s.toks+1}):wpAny (model prog w) A (pyHash .none) Q E s:=by
 have hT:s.TypeIs .none "NoneType":=rfl;unfold pyHash;refine aa ?_;rw[cRoomFor,if_neg (by simp[Value.onHeap])]
 refine af (aa (wpAny_specialOf hT F.slot_NoneType_hash.lookup ?_));show wpAny _ _ (if(some (Value.builtin "NoneType.__hash__")==some Value.none)=true then _ else _) Q E s
 rw[if_neg (by rw[beq_builtin_none];decide)]
 refine aa (wpAny_specialOf hT F.slot_NoneType_hash.lookup ?_);show wpAny _ _ (callSpecialIfBoundUnlessNone? .none "__hash__" _>>=_) Q E s;refine aa (wpAny_callSpecialIfBoundUnlessNone?_slot hT F.slot_NoneType_hash (wpAny_call_entry F.slot_NoneType_hash hT F.entry_NoneType_hash ?_ (F.args_NoneType_hash_1 _)));show wpAny _ _ (do ret (<-mkInt 0xFCA86420)) _ _ s
 refine wpAny_ret_mkInt ?_;exact af h
end
end PySem
namespace L2
open PySem PySem.Spec PyProof.Rows
variable{Q:Value->Shared->Prop}
noncomputable def wB:Option Key->Value->Bool
 |none,v=>match v with
  | .none=>true
  |_=>false
 |some k,v=>eU k v
theorem bY{k:Option Key}{v:Value}(h:wB k v=true):(k=none/\v=.none)∨∃j,k=some j/\eU j v=true:=by
 cases k with
 |none=>
  left;cases v<;>first|exact⟨rfl,rfl⟩|cases h
 |some j=>exact .inr ⟨j,rfl,h⟩
theorem gR{j:Key}(h:eU j .none=true):False:=by rcases bx h with⟨i,t,_,e⟩|⟨x,t,_,e⟩<;>cases e
noncomputable def gM(prog:Program)(w:World):PySem.KeyKind prog w (Option Key) where
 is:=wB
 hash:=λk=>match k with
  |none=>wz
  |some j=>zV w j
 inj:=λv a b ha hb=>by
  rcases bY ha with⟨rfl,rfl⟩|⟨i,rfl,hi⟩
  ·rcases bY hb with⟨rfl,_⟩|⟨j,rfl,hj⟩
   ·rfl
   ·exact(gR hj).elim
  ·rcases bY hb with⟨rfl,rfl⟩|⟨j,rfl,hj⟩
   ·exact(gR hi).elim
   ·rw[(bf prog w).inj v i j hi hj]
 byValue:=λk v h=>by
  rcases bY h with⟨rfl,rfl⟩|⟨j,rfl,hj⟩
  ·rfl
  ·exact(bf prog w).byValue j v hj
 pyHash:=λhv h=>by
  rcases bY hv with⟨rfl,rfl⟩|⟨j,rfl,hj⟩
  ·exact qT h
  ·exact(bf prog w).pyHash hj h
 eqBool:=λhu hv h=>by
  rcases bY hu with⟨rfl,rfl⟩|⟨i,rfl,hi⟩
  ·rcases bY hv with⟨rfl,rfl⟩|⟨j,rfl,hj⟩
   ·exact SeqAt.EqAt.same _ _ _ _ _ h
   ·rcases bx hj with⟨n,u,rfl,rfl⟩|⟨y,u,rfl,rfl⟩
    ·exact SeqAt.EqAt.none_int n u _ _ _ _ h
    ·exact SeqAt.EqAt.none_str y u _ _ _ _ h
  ·rcases bY hv with⟨rfl,rfl⟩|⟨j,rfl,hj⟩
   ·rcases bx hi with⟨n,u,rfl,rfl⟩|⟨y,u,rfl,rfl⟩
    ·exact SeqAt.EqAt.int_none n u _ _ _ _ h
    ·exact SeqAt.EqAt.str_none y u _ _ _ _ h
   ·refine(bf prog w).eqBool hi hj ?_;have e:decide (some i=some j)=decide (i=j):=by simp
    rw[<-e];exact h
 «strs»:=λk x t v h=>by
  rcases bY h with⟨rfl,e⟩|⟨j,rfl,hj⟩
  ·cases e
  ·exact(bf prog w).strs j x t v hj
theorem qJ{P:Program}{w:World}{es:List DictEntry}{vs:List (Key×Value)}(h:Pairs (bf P w) es vs):Pairs (gM P w) es (vs.map λp=>(some p.1,p.2)):=by
 induction h with
 |nil=>exact .nil
 |cons h1 h2 _ ih=>exact .cons h1 h2 ih
theorem jA{P:Program}{w:World}{h:Heap}{a:Addr}{vs:List (Key×Value)}(dd:h.DictOf (bf P w) a vs):h.DictOf (gM P w) a (vs.map λp=>(some p.1,p.2)):=by
 obtain⟨o,es,ep,h1,h2,h3,h4,h5,h6⟩:=dd;refine⟨o,es,ep,h1,h2,h3,λe he=>?_,qJ h5,?_⟩
 ·obtain⟨k,g1,g2⟩:=h4 e he;exact⟨some k,g1,g2⟩
 ·rw[List.map_map];have e:((λp:Option Key×Value=>p.1) ∘ λp:Key×Value=>(some p.1,p.2))=some ∘ Prod.fst:=rfl;rw[e,<-List.map_map];exact List.Pairwise.map _ (λa b hab z=>hab (ai z)) h6
theorem jz(vs:List (Key×Value)):valueAt (vs.map λp=>(some p.1,p.2)) (none:Option Key)=none:=by
 unfold valueAt;rw[List.find?_eq_none.mpr]
 ·rfl
 ·intro x hx;obtain⟨p,_,rfl⟩:=List.mem_map.mp hx;simp
section
variable{X:Cx}{pins:List (Addr×Obj)}{σ:St}{H:Hp}{s:Shared}{a:Addr}{kvs:List (Key×V)}{A:Around}{E:Value->Shared->Prop}
theorem Az(I:Inv X pins σ H s)(e:Rd H a (.dK kvs))(h:∀s',Inv X pins σ H s'->Q (.bool false) s'):wpAny (model X.prog X.w) A (compareOp .In .none (.ref a)) Q E s:=by
 obtain⟨z,hd,vs,rel,dd⟩:=eW I.hok e;refine wpAny_in_of (knd:=gM X.prog X.w) (k:=none) (by rfl) hd (jA dd).mapOf ?_
 rw[jz];exact h _ (I.tok _)
theorem uf(I:Inv X pins σ H s)(e:Rd H a (.dK kvs))(h:∀s',Inv X pins σ H s'->Q (.bool true) s'):wpAny (model X.prog X.w) A (compareOp .NotIn .none (.ref a)) Q E s:=by
 obtain⟨z,hd,vs,rel,dd⟩:=eW I.hok e;refine wpAny_notIn_of (knd:=gM X.prog X.w) (k:=none) (by rfl) hd (jA dd).mapOf ?_
 rw[jz];exact h _ (I.tok _)
theorem yH{r:Value}(I:Inv X pins σ H s)(e:Rd H a (.dK kvs))(h:∀s',Inv X pins σ H s'->Q r s'):wpAny (model X.prog X.w) A (call (.builtin "dict.get") [.ref a,.none,r]) Q E s:=by
 obtain⟨z,hd,vs,rel,dd⟩:=eW I.hok e;refine call_meetsIn PySem.F.slot_dict_get dd.typeIs PySem.F.entry_dict_get (PySem.F.args_dict_get_3 _ _ _) (meets_dict_get_default (gM X.prog X.w) a (k:=none) (by rfl) hd r) ⟨_,(jA dd).mapOf,?_⟩
 rw[jz];exact h _ (I.tok _)
end
end L2
namespace PySem
open Sem (wp)
open AutoSeq1 (wpAny_loadPart')
section
end
end PySem
namespace L2
open PySem PySem.Spec PyProof.Rows
end L2
namespace PySem
open Sem (wp)
open AutoSeq1 (wpAny_loadPart')
namespace F
theorem ez:plainId "dict.update.loop"=true:=by decide+kernel
theorem jP:entryFor table "dict.update.loop"=some Builtin.«dict.update.loop»:=entryFor_of_fast (by kernel_rfl)
end F
section
variable{prog:Program}{w:World}{K:Type}[DecidableEq K]{kn:KeyKind prog w K}
noncomputable def oY(kn:KeyKind prog w K)(h:Heap)(items:Array Value)(ps:List (K×Value)):Prop:=
 items.size=ps.length/\∀(j:Nat)(x:K×Value),ps[j]? =some x->∃(t:Addr)(o:Obj)(n:Nat) (u:Value),items[j]? =some (.ref t)/\h.get? t=some o/\o.cls=.type "tuple" /\o.data=.seq #[u,x.2] n/\kn.is x.1 u=true
noncomputable def eV(ps acc:List (K×Value)):List (K×Value):=ps.foldl (λacc x=>stored acc x.1 x.2) acc
theorem kD:∀(ps acc:List (K×Value)),(eV ps acc).length<=acc.length+ps.length
 |[],acc=>by show acc.length<=_;omega
 |x::r,acc=>by
  have h1:=kD r (stored acc x.1 x.2);have h2:(stored acc x.1 x.2).length<=acc.length+1:=by unfold stored;split<;>simp
  show(eV r (stored acc x.1 x.2)).length<=_;rw[List.length_cons];omega
theorem oS{ps acc:List (K×Value)}{x:K×Value}:eV (ps++[x]) acc=stored (eV ps acc) x.1 x.2:=by unfold eV;rw[List.foldl_append];rfl
end
end PySem
namespace L2
open PySem PySem.Spec PyProof.Rows
variable{fp:List Addr}{s:Shared}{pins:List (Addr×Obj)}{scope:Scope}{x y:Str}
noncomputable def BC(K:av)(H:Hp):List (Key×V)->List V->Prop:=Paired λp y=>∃t,y=.ref t/\f6 K H t [kV p.1,p.2]
noncomputable def yr(ps:List (Key×V)):List (Key×V):=ps.foldl (λacc p=>putK acc p.1 p.2) []
section
variable{X:Cx}{pins:List (Addr×Obj)}{s:Shared}{σ:St}{H:Hp}
theorem qF(I:Inv X pins σ H s){ps:List (Key×V)}{ys:List V}(r:BC X.K H ps ys):∀{us:List Value},bm ys us->∃trs:List (Key×Value),oY (bf X.prog X.w) s.heap us.toArray trs/\KV ps trs:=by
 induction r with
 |nil=>intro us q;cases q;exact⟨[],⟨rfl,λj x e=>by simp at e⟩,.nil⟩
 | @cons p y ps ys h1 t ih=>
  intro us q;cases q with
  | @cons _ u _ us' q1 q2=>
   obtain⟨trs,⟨g1,g2⟩,g3⟩:=ih q2;obtain⟨ta,rfl,hq⟩:=h1;obtain rfl:u=Value.ref ta:=q1;obtain⟨its,rv,⟨o,k1,k2,n,k3⟩,_⟩:=I.tuple hq;cases rv with
   | @cons _ u1 _ its r1 rv=>
    cases rv with
    | @cons _ u2 _ its r2 rv=>
     cases rv;refine⟨(p.1,u2)::trs,⟨by simpa using g1,λj x e=>?_⟩,.cons ⟨rfl,r2⟩ g3⟩
     cases j with
     |zero=>
      cases e;exact⟨ta,o,n,u1,by simp,k1,k2,k3,iL r1⟩
     |succ j=>
      obtain⟨t',o',n',u',m1,m2⟩:=g2 j x (by simpa using e)
      exact⟨t',o',n',u',by simpa using m1,m2⟩
theorem vD{ps:List (Key×V)}{trs:List (Key×Value)}(r:KV ps trs):∀{acc:List (Key×V)}{xs:List (Key×Value)},KV acc xs->KV (ps.foldl (λacc p=>putK acc p.1 p.2) acc) (eV trs xs):=by
 induction r with
 |nil=>intro acc xs q;exact q
 | @cons p q ps qs h t ih=>intro acc xs z;show KV (ps.foldl _ (putK acc p.1 p.2)) (eV qs (stored xs q.1 q.2));have:=z.put p.1 h.2;rw[h.1] at this ⊢;exact ih this
theorem jL:∀(ps acc:List (Key×V)),(ps.foldl (λacc p=>putK acc p.1 p.2) acc).length<=acc.length+ps.length
 |[],acc=>by simp
 |p::r,acc=>by have h1:=jL r (putK acc p.1 p.2);have h2:=dH acc p.1 p.2;rw[List.foldl_cons,List.length_cons];omega
end
theorem Inv.turnLaid{X:Cx}{σ:St}{H:Hp}{h':Heap}{t':Nat}{p:Addr}{xs:List V}(I:Inv X pins σ H s)(hf:∀b∈fp,ei X pins H b)
  (k:∀b o,b∉fp->s.heap.get? b=some o->h'.get? b=some o)(hp:s.heap.objs.size<=p)(new:bM X.prog X.w (bE H p (.tup xs)) h' p (.tup xs)):Inv X pins σ (bE H p (.tup xs)) {s with heap:=h',toks:=t'}:=by
 have hn:H p=none:=I.hok.fresh hp;have nit:∀b u,H b=some u->b∉fp:=λb u e z=>by rw[(hf b z).1] at e;cases e
 have nep:∀{b:Addr}{o:Obj},s.heap.get? b=some o->b≠p:=λe=>ao (aw (al e) hp)
 refine I.step (g':=s.gens) (d':=s.drawn) (ch:=fp) (λb hb=>?_) (λb o _ _ hc e _=>k b o hc e) (λb o _ _ hc e _=>⟨o.slots,k b o hc e⟩) (λb o _ e n=>by rw[aE (nep e)];exact n)
  (λb o hc e=>⟨o,k b o hc e⟩) (λb ys e=>by rw[aE (aG e hn)];exact e) (λb o u e=>by rw[aE (aG e hn)];exact e) (λb ps e=>⟨#[],by rw[aE (aG e hn),e];simp⟩) (λm hm=>?_) (λb u e=>?_) I.bare
 ·obtain⟨f0,f1,f2,f3,f4,f5⟩:=hf b hb;exact⟨f3,f1,f4,f5⟩
 ·obtain⟨o,es,ep,ho,r⟩:=hm;exact⟨o,es,ep,k _ o (λz=>(hf _ z).2.1 rfl) ho,r⟩
 ·by_cases hb:b=p
  ·subst hb;rw[bi] at e;cases e;exact new
  ·rw[aE hb] at e;refine(I.hok b u e).stay (λc v hc q=>k c v ?_ q) (λc q=>by rw[aE (aG q hn)];exact q) λc ys q=>by rw[aE (aG q hn)];exact q
   rcases hc with z|z
   ·rw[z];exact nit b u e
   ·exact nit c _ z
noncomputable def br(X:Cx)(x y:Str)(scope:Scope)(fp:List Addr)(s:Shared)(H:Hp):Cx:={bG X x scope fp s H with N:=x::y::fS scope X.N}
theorem uh{X:Cx}{σ:St}{H:Hp}(I:Inv X pins σ H s)(C:CompScope X x scope)(hf:∀b∈fp,ei X pins H b)(ho:∀b∈fp,∃o,s.heap.get? b=some o):
  (br X x y scope fp s H).Ok:=by
 have h:=fV I C hf ho;exact⟨h.mod,h.kind,h.glob,h.blt,h.above,h.inj,h.has,h.cab,h.hd,h.frames,h.stk,h.exf,h.bs,h.bsz,h.noex,h.exfs,h.funs,h.frf⟩
theorem re{X:Cx}{σ:St}{H:Hp}{h':Heap}{tk:Nat}{m:Str->Option Value}(I:Inv X pins σ H s)(C:CompScope X x scope)(hf:∀b∈fp,ei X pins H b)(ho:∀b∈fp,∃o,s.heap.get? b=some o)
  (hn:h'.Ns s.heap.objs.size m)(k:∀b o,s.heap.get? b=some o->h'.get? b=some o):Inv (br X x y scope fp s H) pins (none::none::σ) H {s with heap:=h',toks:=tk}:=by
 have J:=nG (x:=x) (scope:=scope) (fp:=fp) (h':=h') (tk:=tk) I C hf ho hn k;refine⟨uh I C hf ho,J.os,J.bare,J.base,?_,J.cell,J.free,J.freeC,J.pin,J.hok,?_⟩
 ·obtain⟨m',hn',hl⟩:=J.loc;refine⟨m',hn',λi z v h1 h2 h3=>?_⟩;cases i with
  |zero=>simp at h2
  |succ i=>
   cases i with
   |zero=>simp at h2
   |succ i=>exact hl (i+1) z v (by simpa[bG,br] using h1) (by simpa using h2) h3
 ·show(none::none::σ).length=(x::y::fS scope X.N).length;rw[List.length_cons,List.length_cons,List.length_cons,List.length_cons,I.len,fS,List.length_map]
theorem kK{X:Cx}{σ σ':St}{H H':Hp}{s':Shared}{h':Heap}(I:Inv X pins σ H s)(hf:∀b∈fp,ei X pins H b)(J:Inv (br X x y scope fp s H) pins σ' H' s')
  (sb:Heap.SameBut s.heap.objs.size s'.heap h'):Inv X pins σ H' {s' with heap:=h'}:=by
 have hC:H' s.heap.objs.size=none:=J.free;have ne:∀b o,s.heap.get? b=some o->b≠s.heap.objs.size:=λb o e=>ao (al e)
 have u:Un (qV X.stack) fp H H' s.heap h':=
  ⟨λb o e n hb hx=>(sb.2 b (ne b o e)).trans (J.base.keep b o e n hb hx),λb o e n hb hx=>by
    obtain⟨sl,q⟩:=J.base.slot b o e n hb hx;exact⟨sl,(sb.2 b (ne b o e)).trans q⟩,J.base.free,λb o e hx=>by
    obtain⟨o',q⟩:=J.base.there b o e hx;exact⟨o',(sb.2 b (ne b o e)).trans q⟩,J.base.tups,J.base.frzs,J.base.tbls⟩
 have hok:gb X.prog X.w H' h':=λb ob e=>by
  refine(J.hok b ob e).stay (λc w' hc q=>(sb.2 c ?_).trans q) (λ_ q=>q) λ_ _ q=>q;intro z;rcases hc with y|y
  ·rw[z] at y;rw[<-y,hC] at e;cases e
  ·rw[z,hC] at y;cases y
 exact I.call' (s':={s' with heap:=h'}) J.os u hok J.bare λb hb=>⟨(hf b hb).2.2.2.1,(hf b hb).2.1,(hf b hb).2.2.2.2.1,(hf b hb).2.2.2.2.2⟩
end L2
namespace PySem
open Sem (wp)
open AutoSeq1 (wpAny_loadPart')
variable{h h':Heap}
section
variable{prog:Program}{w:World}{A:Around}{E:Value->Shared->Prop}{s:Shared}{it t:Addr}{i:Nat}{items:Array Value}{Q:Value->Shared->Prop}
theorem rY{x:Value}(hit:s.heap.IsTupleIter it t i)(ht:s.heap.IsTuple t items)(hx:items[i]? =some x)(hQ:∀h',h'.IsTupleIter it t (i+1)->Heap.SameBut it s.heap h'->Q x {s with heap:=h'}):
  wpAny (model prog w) A (Builtin.SmallTypes.nextOf (.ref it)) Q E s:=by
 obtain⟨o,ho,hc,hd⟩:=id hit;obtain⟨ol,hol,_,nl,hdl⟩:=ht;unfold Builtin.SmallTypes.nextOf;refine aa (wpAny_callSpecial?_slot (name:=Str.ofString "__next__") hit.typeIs F.slot_tuple_iterator_next (wpAny_call_entry F.slot_tuple_iterator_next hit.typeIs F.entry_tuple_iterator_next ?_ (F.args_tuple_iterator_next_1 _)));refine aa (m:=field (.ref it) 0) (aV ho hd (x:= .ref t) rfl ?_);refine aa (m:=field (.ref it) 1) (aV ho hd (x:= .int i 0) rfl ?_);refine aa (m:=seqItems? (.ref t)) (wpAny_seqItems hol hdl ?_);simp only[Int.toNat_natCast,hx];refine aa (wpAny_setField ho hd (by simp) (af ⟨x,rfl,af (hQ _ ⟨_,Heap.get?_update_self _ ho (Obj.isFreed_of_fields (Obj.data_mapFields hd _)),(Obj.cls_mapFields ..).trans hc,?_⟩ (Heap.SameBut.update ..))⟩))
 rw[Obj.data_mapFields hd];simp[rawInt]
theorem uQ(hh:A.handled=none)(hit:s.heap.IsTupleIter it t i)(ht:s.heap.IsTuple t items)(hx:items[i]? =none)
  (hE:∀h' e,Heap.ExtBut it s.heap h'->(∃o,h'.get? e=some o/\o.cls=.type "StopIteration")->E (.ref e) {s with heap:=h'}):wpAny (model prog w) A (Builtin.SmallTypes.nextOf (.ref it)) Q E s:=by
 obtain⟨o,ho,hc,hd⟩:=id hit;obtain⟨ol,hol,_,nl,hdl⟩:=ht;unfold Builtin.SmallTypes.nextOf;refine aa (wpAny_callSpecial?_slot (name:=Str.ofString "__next__") hit.typeIs F.slot_tuple_iterator_next (wpAny_call_entry F.slot_tuple_iterator_next hit.typeIs F.entry_tuple_iterator_next ?_ (F.args_tuple_iterator_next_1 _)));refine aa (m:=field (.ref it) 0) (aV ho hd (x:= .ref t) rfl ?_);refine aa (m:=field (.ref it) 1) (aV ho hd (x:= .int i 0) rfl ?_);refine aa (m:=seqItems? (.ref t)) (wpAny_seqItems hol hdl ?_);simp only[Int.toNat_natCast,hx];refine aa (wpAny_rule (aa (wpAny_setField ho hd (by simp) (aa (m:=newExc (.type "StopIteration") []) ?_))))
 unfold newExc newTuple;refine aa (wpAny_newObj_type (aa (m:=firstArgMember _ _) (wpAny_of_eq (a:=Value.none) (by first|rfl|(simp only[firstArgMember];rfl)) (wpAny_newObj_type ?_ (by size_fits)))) (by size_fits))
 unfold raiseNew;refine aa (wpAny_handled ?_);rw[show A.in1.handled=none from hh];exact aa (af (wpAny_throw (hE _ _ (((Heap.SameBut.update ..).extBut.push _).push _) ⟨_,am _ rfl,rfl⟩)))
theorem gp{a:Addr}(x:h.IsTuple a items)(k:∀o,h.get? a=some o->h'.get? a=some o):h'.IsTuple a items:=let⟨o,ho,r⟩:=x;⟨o,k o ho,r⟩
theorem fN{a b:Addr}(x:h.IsTupleIter a b i)(k:∀o,h.get? a=some o->h'.get? a=some o):h'.IsTupleIter a b i:=let⟨o,ho,r⟩:=x;⟨o,k o ho,r⟩
end
end PySem
namespace L2
open PySem PySem.Spec PyProof.Rows
end L2
namespace PySem
open Sem (wp)
open AutoSeq1 (wpAny_loadPart')
theorem lF:typeLookup (.type "tuple") "keys"=pure none:=by rw[typeLookup_type,builtinLookup_eq_fast];kernel_rfl
section
variable{prog:Program}{w:World}{K:Type}[DecidableEq K]{kn:KeyKind prog w K}{A:Around}{E:Value->Shared->Prop}
theorem lC{R:Result->Shared->Prop}(hh:A.handled=none){h0:Heap}{d it l:Addr}(hd0:h0.get? d=none)(hi0:h0.get? it=none)(hdi:d≠it){items:Array Value}{ps:List (K×Value)}(hsz:items.size<=sizeLine)
  (hl:h0.IsTuple l items)(hp:oY kn h0 items ps):∀(k i:Nat)(s:Shared),items.size - i=k->i<=items.size->s.heap.IsTupleIter it l i->(∀b o,h0.get? b=some o->s.heap.get? b=some o)->s.heap.DictOf kn d (eV (ps.take i) [])->
  (∀h' tk,h'.DictOf kn d (eV ps [])->(∀b o,h0.get? b=some o->h'.get? b=some o)->R (.ok (.ret .none)) {s with heap:=h',toks:=tk})->
  codeAny (model prog w) A (.builtin "dict.update.loop" ⟨[.ref d,.ref it,rawInt i,.none],[]⟩) R s:=by
 have nd:∀{b:Addr}{o:Obj},h0.get? b=some o->b≠d:=λe z=>by rw[z,hd0] at e;cases e
 have ni:∀{b:Addr}{o:Obj},h0.get? b=some o->b≠it:=λe z=>by rw[z,hi0] at e;cases e
 intro k
 induction k with
 |zero=>
  intro i s hk hi hit kp hd hR;have hin:i=items.size:=by omega
  subst hin;refine codeAny_builtin F.jP ?_;rw[Around.under_plainId F.ez _];show wpAny _ A.in1 (pyNext (.ref it)>>=_) _ _ s;refine aa (wpAny_pyNext_tuple_end hh hit (gp hl λo e=>kp _ _ e) (by simp) λh' eb=>?_)
  show wpAny _ _ (Builtin.Dict.addKeywords d []>>=_) _ _ _;refine aa (af (af ?_));rw[hp.1,List.take_length] at hd;exact hR h' s.toks (hd.at λo e=>eb d o hdi e) (λb o e=>eb b o (ni e) (kp b o e))
 |succ k ih=>
  intro i s hk hi hit kp hd hR;have hlt:i<items.size:=by omega
  have hlp:i<ps.length:=by rw[<-hp.1];exact hlt
  obtain⟨t,ot,nt,u,e1,e2,e3,e4,e5⟩:=hp.2 i ps[i] (by simp[hlp])
  refine codeAny_builtin F.jP ?_;rw[Around.under_plainId F.ez _];show wpAny _ A.in1 (pyNext (.ref it)>>=_) _ _ s;refine aa (wpAny_pyNext_tuple_item hit (gp hl λo e=>kp _ _ e) e1 λh1 hit1 hs1=>?_)
  replace hs1:Heap.SameBut it s.heap h1:=hs1
  have kp1:∀b o,h0.get? b=some o->h1.get? b=some o:=λb o e=>hs1.extBut b o (ni e) (kp b o e);have t1:h1.get? t=some ot:=kp1 t ot e2;refine aa (wpAny_holding (aa (wpAny_tryCatch ?_)));unfold Builtin.Dict.pairItems;refine aa (wpAny_typeOf (T:= "tuple") ⟨ot,t1,e3⟩ ?_);rw[if_pos (by decide)]
  refine aa (wpAny_seqItems t1 e4 (af ?_));show wpAny _ _ (holding [u,ps[i].2] (dictSet d u ps[i].2)) _ _ _;have hd1:h1.DictOf kn d (eV (ps.take i) []):=hd.at λo e=>hs1.extBut d o hdi e;have fl:=kD (ps.take i) ([]:List (K×Value))
  have hfl:(eV (ps.take i) []).length<=sizeLine:=by rw[List.length_take] at fl;simp at fl;omega
  refine wpAny_holding (wpAny_dictSet_pairs (s:={s with heap:=h1}) e5 hd1 (λh2 hd2 hs2=>?_) hfl)
  replace hs2:Heap.SameBut d h1 h2:=hs2
  refine af ⟨plainId_quiet F.ez _,?_⟩;have c1:((i+1:Nat):Int)=(i:Int)+1:=by omega
  have ht:ps.take (i+1)=ps.take i++[ps[i]]:=by rw[List.take_succ,aC hlp];rfl
  rw[<-oS,<-ht] at hd2;have:=λtk=>ih (i+1) {s with heap:=h2,toks:=tk} (by omega) (by omega) (fN hit1 λo q=>(hs2.2 it (Ne.symm hdi)).trans q) (λb o e=>(hs2.2 b (nd e)).trans (kp1 b o e)) hd2 hR
  rw[c1] at this;exact this _
theorem qr{s:Shared}{a:Addr}{xs:Array Value}{k:Nat}{sl:Array (Option Value)}{Q:Option Value->Shared->Prop}(hx:s.heap.get? a=some {cls:= .type "tuple",dict:=none,data:= .seq xs k,slots:=sl})(hA:A.handled=none)
  (h:∀h' tk,(∀b o,s.heap.get? b=some o->h'.get? b=some o)->Q none {s with heap:=h',toks:=tk}):wpAny (model prog w) A (getAttr? (.ref a) "keys") Q E s:=by
 obtain⟨hp,g,d,tk,os⟩:=s;have hT:∀tk',(⟨hp,g,d,tk',os⟩:Shared).TypeIs (.ref a) "tuple":=λ_=>⟨_,hx,rfl⟩;have f1:=sub_AttributeError;have f3:=F.slot_tuple_getattribute.lookup;have f4:=F.slot_tuple_getattribute.bind (.ref a);have f5:=am_tuple_getattr_none;unfold getAttr? getAttrBy? getAttrBy
 iterate 29 (any_goals (first|assumption|exact hT _|wp_step))
 refine call_meets F.slot_tuple_getattribute (hT _) am_entry_tuple_getattribute (F.args_tuple_getattribute_2 _ _) (meets_getattribute_miss_tuple a xs k sl "keys" _ lF (by decide+kernel) (by size_fits)) ⟨hx,hA,λh' tk' e hx'=>?_⟩
 obtain⟨t',u',he⟩:=hx'.there;show wpAny _ _ (getattributeRaised _ _ _ _ _ _ _) _ _ _;unfold getattributeRaised
 repeat (any_goals (first|assumption|wp_step))
 exact h _ _ hx'.keeps
theorem iZ{s:Shared}{l:Addr}{items:Array Value}{c:Nat}{sl:Array (Option Value)}{ps:List (K×Value)}{Q:Value->Shared->Prop}(hh:A.handled=none)(hl:s.heap.get? l=some {cls:= .type "tuple",dict:=none,data:= .seq items c,slots:=sl})(hp:oY kn s.heap items ps)(hsz:items.size<=sizeLine)
  (hQ:∀h' tk,h'.DictOf kn s.heap.objs.size (eV ps [])->(∀b o,s.heap.get? b=some o->h'.get? b=some o)->Q (.ref s.heap.objs.size) {s with heap:=h',toks:=tk}):wpAny (model prog w) A (call (.type "dict") [.ref l]) Q E s:=by
 refine callType_codes (Q₁:=λobj s₁=>obj=.ref s.heap.objs.size/\s₁={s with heap:=s.heap.push {cls:= .type "dict",data:= .dict #[]}}) F.kt_called_dict (F.kt_typeCall_dict_1 _) F.entry_dict_init (kt_code_dict_new _ ⟨rfl,rfl⟩) ?_;rintro obj s₁ ⟨rfl,rfl⟩;have hnew:(s.heap.push {cls:= .type "dict",data:= .dict #[]}).DictOf kn s.heap.objs.size []:=Heap.DictOf.new s.heap;have g0:(s.heap.push {cls:= .type "dict",data:= .dict #[]}).get? s.heap.objs.size=some {cls:= .type "dict",data:= .dict #[]}:=am _ rfl;refine⟨hnew.typeIs,F.args_dict_init_2 _ _,?_⟩;unfold Builtin.«dict.__init__» Builtin.Dict.selfAndRest;refine aa (aa (wpAny_notOrdered_dict hnew.typeIs ?_));show wpAny _ _ (pure (s.heap.objs.size,[Value.ref l])) _ _ _;refine af ?_;show wpAny _ _ (Builtin.Dict.updateFrom "dict.__init__" s.heap.objs.size (.ref l) [] .none) _ _ _;unfold Builtin.Dict.updateFrom;have hl':=ae {cls:= .type "dict",data:= .dict #[]} hl;refine aa (wpAny_typeOf (T:= "tuple") ⟨_,hl',rfl⟩ ?_);rw[if_pos (by decide)]
 refine aa (qr hl' hh λh1 tk1 k1=>?_);simp only[Option.isNone_none,if_true];refine aa (wpAny_rule ?_);have hl1:h1.IsTuple l items:=⟨_,k1 _ _ hl',rfl,_,rfl⟩;refine aa (wpAny_pyIter_tuple (s:={s with heap:=h1,toks:=tk1}) hl1 ?_);refine af ⟨plainId_quiet F.ez _,?_⟩;have lt1:s.heap.objs.size<h1.objs.size:=al (k1 _ _ g0);have no:∀{a:Addr},s.heap.objs.size<=a->s.heap.get? a=none:=λh=>Heap.get?_none_of_le h
 refine lC (A:=A.in1) (kn:=kn) (h0:=s.heap) hh (no (ah _)) (no (Nat.le_of_lt lt1)) (ao lt1) hsz ⟨_,hl,rfl,_,rfl⟩ hp items.size 0 _ (by omega) (by omega) ⟨_,am _ rfl,rfl,rfl⟩
  (λb o e=>ae _ (k1 b o (ae _ e))) (hnew.at λo e=>ae _ (k1 _ o e)) λh' tk a b=>⟨rfl,hQ h' tk a b⟩
end
end PySem
namespace L2
open PySem PySem.Spec PyProof.Rows
section
variable{X:Cx}{pins:List (Addr×Obj)}{σ:St}{H:Hp}{s:Shared}{a:Addr}
theorem Inv.tupN{xs:List V}(I:Inv X pins σ H s)(h:f6 X.K H a xs):∃(its:List Value)(n:Nat)(sl:Array (Option Value)),bm xs its/\s.heap.get? a=some {cls:= .type "tuple",dict:=none,data:= .seq its.toArray n,slots:=sl}/\xs.length<=sizeLine:=by
 rcases h with h|⟨o,its,n,hk,hc,hs,hz,r⟩
 ·obtain⟨z,its,r,o,e,hc,n,hd⟩:=h.ok I.hok;obtain⟨c,d,dt,sl⟩:=o;obtain⟨rfl,rfl⟩:=(show c=_/\d=_ from hc);cases(show dt=_ from hd);exact⟨its,n,sl,r,e,z⟩
 ·obtain⟨c,d,dt,sl⟩:=o;obtain⟨rfl,rfl⟩:=(show c=_/\d=_ from hc);cases(show dt=_ from hs);refine⟨its.toList,n,sl,r,by simpa using I.kIn a _ hk,?_⟩
  have e:=r.length;simp only[Array.length_toList] at e;omega
theorem oV(hc:X.calm=true):eZ X (.type "dict") (λxs H Q=>∃l ys ps,xs=[.ref l]/\f6 X.K H l ys/\BC X.K H ps ys/\∀p,H p=none->Q (.ref p) (bE H p (.dK (yr ps)))):=by
 intro pins s σ H xs us Q I r h;obtain⟨l,ys,ps,rfl,e,hp,q⟩:=h;obtain⟨u,rfl,rx⟩:=vals1 r;cases rx;obtain⟨its,m,sl,rr,el,hlen⟩:=I.tupN e;obtain⟨trs,h1,h2⟩:=qF I hp rr;have lp:=Paired.length hp;have lr:=Paired.length rr;refine iZ (I.ok.hd hc) el h1 (by rw[List.size_toArray];omega) λh' tk dr kp=>?_
 have fr:H s.heap.objs.size=none:=I.hok.fresh (ah _);have:=jL ps [];refine⟨.ref s.heap.objs.size,_,I.laid (t':=tk) kp (ah _) (l9 (by simp at this;omega) (beq_eq_false_iff_ne.mpr (bC I.big)) (vD h2 .nil) dr),rfl,q _ fr⟩
end
section
end
end L2
namespace PySem
open Sem (wp)
variable{h h':Heap}{Q:Option Value->Shared->Prop}
noncomputable def Heap.RawD(h:Heap)(d:Addr)(es:Array DictEntry)(ep:Nat):Prop:=∃o,h.get? d=some o/\o.ExactDict/\o.data=.dict es ep
section
variable{prog:Program}{w:World}{A:Around}{E:Value->Shared->Prop}{s:Shared}{d it v:Addr}{es:Array DictEntry}{i ep:Nat}
theorem Heap.RawD.ty(x:s.heap.RawD d es ep):s.TypeIs (.ref d) "dict":=let⟨o,ho,hc,_⟩:=x;⟨o,ho,hc.1⟩
theorem Heap.RawD.at(x:h.RawD d es ep)(e:∀o,h.get? d=some o->h'.get? d=some o):h'.RawD d es ep:=let⟨o,ho,r⟩:=x;⟨o,e _ ho,r⟩
theorem sA{Q:Value->Shared->Prop}(hd:(d==sysModules)=false)(x:s.heap.RawD d es ep)
  (hQ:Q (.ref s.heap.objs.size) {s with heap:=s.heap.push {cls:= .type "dict_keyiterator",data:= .fields #[.ref d,.int 0 0,.int es.size 0,.int ep 0]}}):wpAny (model prog w) A (pyIter (.ref d)) Q E s:=by
 obtain⟨o,ho,hc,hdat⟩:=id x;have hT:=x.ty;refine wpAny_pyIter_slot hT F.slot_dict_iter (wpAny_call_entry F.slot_dict_iter hT F.entry_dict_iter ?_ (F.args_dict_iter_1 _));unfold Builtin.«dict.__iter__» Builtin.Dict.dictSlotNone;refine aa (aa (wpAny_notOrdered_dict hT (af ?_)));show wpAny _ _ (Builtin.Dict.showsAll d>>=_) _ _ s;unfold Builtin.Dict.showsAll;rw[if_neg (by rw[hd];decide)]
 refine aa (af (aa (wpAny_dictEntries ho hdat (aa (wpAny_dictEpoch ho hdat (aa (wpAny_newObj_type (af ⟨_,rfl,"dict_keyiterator",_,⟨_,am _ rfl,rfl⟩,F.slot_dict_keyiterator_next.lookup,?_⟩))))))));simpa[rawInt] using hQ
noncomputable def Heap.RawIt(h:Heap)(T:String)(it d:Addr)(i n ep:Nat):Prop:=∃o,h.get? it=some o/\o.cls=.type T/\o.data=.fields #[.ref d,.int i 0,.int n 0,.int ep 0]
theorem Heap.RawIt.ty{T:String}{n:Nat}(x:s.heap.RawIt T it d i n ep):s.TypeIs (.ref it) T:=let⟨o,ho,hc,_⟩:=x;⟨o,ho,hc⟩
theorem Heap.RawIt.at{T:String}{n:Nat}(x:h.RawIt T it d i n ep)(e:∀o,h.get? it=some o->h'.get? it=some o):h'.RawIt T it d i n ep:=let⟨o,ho,r⟩:=x;⟨o,e _ ho,r⟩
theorem Heap.RawIt.moved{T:String}{n:Nat}{o:Obj}(ho:h.get? it=some o)(hc:o.cls=.type T)(hd:o.data=.fields #[.ref d,.int i 0,.int n 0,.int ep 0]):
  (h.update it (Obj.mapFields (·.setIfInBounds 1 (rawInt ((i:Int)+1))))).RawIt T it d (i+1) n ep:=
 ⟨_,Heap.get?_update_self _ ho (Obj.isFreed_of_fields (Obj.data_mapFields hd _)),(Obj.cls_mapFields ..).trans hc,by rw[Obj.data_mapFields hd];simp[rawInt]⟩
theorem iI(hh:A.handled=none)(hs:Heap.ExtBut it s.heap h')(hQ:∀h',Heap.ExtBut it s.heap h'->Q none {s with heap:=h'}):
  wpAny (model prog w) A.in1 (newExc (.type "StopIteration") []>>=λe=>raiseNew (α:=Fin) e) (λfin s'=>∃v,fin=.done (.ret v)/\wpAny (model prog w) A (pure (some v)) Q E s')
   (λe s'=>wpAny (model prog w) A (isInstance e (.type "StopIteration")>>=λb=>if b=true then pure none else throw e) Q E s') {s with heap:=h'}:=by
 refine aa ?_;simp only[newExc,newTuple];refine aa (wpAny_newObj_type (aa (m:=firstArgMember _ _) (wpAny_of_eq (a:=Value.none) (by first|rfl|(simp only[firstArgMember];rfl)) (wpAny_newObj_type ?_ (by size_fits)))) (by size_fits))
 simp only[raiseNew];refine aa (wpAny_handled ?_);rw[show A.in1.handled=none from hh];refine aa (af (wpAny_throw ?_));refine aa (wpAny_isInstance (T:= "StopIteration") (b:=true) ⟨_,am _ rfl,rfl⟩ isSubtype_stop (af (hQ _ ((hs.push _).push _))))
theorem tm(hit:s.heap.RawIt "dict_keyiterator" it d i es.size ep)(x:s.heap.RawD d es ep)(hi:i<es.size)
  (hQ:∀h',h'.RawIt "dict_keyiterator" it d (i+1) es.size ep->Heap.SameBut it s.heap h'->Q (some es[i].key) {s with heap:=h'}):wpAny (model prog w) A (pyNext (.ref it)) Q E s:=by
 obtain⟨o,ho,hc,hd⟩:=id hit;obtain⟨od,hod,_,hdd⟩:=id x;have hT:=hit.ty;have mv:=Heap.RawIt.moved ho hc hd;unfold pyNext;refine aa (wpAny_attempt (wpAny_callSpecial?_slot (name:=Str.ofString "__next__") hT F.slot_dict_keyiterator_next (wpAny_call_entry F.slot_dict_keyiterator_next hT F.entry_dict_keyiterator_next ?_ (F.args_dict_keyiterator_next_1 _))));refine aa (af (aa (aa (aa (wpAny_typeNameOfWhole_keyiter hT (af (aa (wpAny_fieldsOf ho hd ?_))))))));rw[show Builtin.Dict_items.ownsTuple "dict_keyiterator"=false from by decide]
 show wpAny _ _ (if(Value.ref d==Value.none)=true then _ else _) _ _ s
 rw[if_neg (by simp)]
 refine aa (af (aa (wpAny_dictEntries hod hdd ?_)));rw[if_neg (by simp)]
 refine aa (af (aa (wpAny_dictEpoch hod hdd ?_)));rw[if_neg (by simp)]
 refine af ?_;simp only[show ¬((i:Int)<0) from by omega,if_false,Int.toNat_natCast,Array.getElem?_eq_getElem hi]
 refine aa (aa (wpAny_typeNameOfWhole_keyiter hT (af (aa (wpAny_isOneOf_keyiter hT ?_)))));show wpAny _ _ (setField (.ref it) 1 (rawInt ((i:Int)+1))>>=_) _ _ s;refine aa (wpAny_setField ho hd (by simp) (aa (wpAny_holding (aa (wpAny_isOneOf_keyiter (Heap.RawIt.ty (s:={s with heap:=_}) mv) ?_)))))
 exact af (af ⟨_,rfl,af (hQ _ mv (Heap.SameBut.update ..))⟩)
theorem vF(hh:A.handled=none)(hit:s.heap.RawIt "dict_keyiterator" it d i es.size ep)(x:s.heap.RawD d es ep)(hi:es.size<=i)
  (hQ:∀h',Heap.ExtBut it s.heap h'->Q none {s with heap:=h'}):wpAny (model prog w) A (pyNext (.ref it)) Q E s:=by
 obtain⟨o,ho,hc,hd⟩:=id hit;obtain⟨od,hod,_,hdd⟩:=id x;have hT:=hit.ty;unfold pyNext;refine aa (wpAny_attempt (wpAny_callSpecial?_slot (name:=Str.ofString "__next__") hT F.slot_dict_keyiterator_next (wpAny_call_entry F.slot_dict_keyiterator_next hT F.entry_dict_keyiterator_next ?_ (F.args_dict_keyiterator_next_1 _))));refine aa (af (aa (aa (aa (wpAny_typeNameOfWhole_keyiter hT (af (aa (wpAny_fieldsOf ho hd ?_))))))));rw[show Builtin.Dict_items.ownsTuple "dict_keyiterator"=false from by decide]
 show wpAny _ _ (if(Value.ref d==Value.none)=true then _ else _) _ _ s
 rw[if_neg (by simp)]
 refine aa (af (aa (wpAny_dictEntries hod hdd ?_)));rw[if_neg (by simp)]
 refine aa (af (aa (wpAny_dictEpoch hod hdd ?_)));rw[if_neg (by simp)]
 refine af ?_;simp only[show ¬((i:Int)<0) from by omega,if_false,Int.toNat_natCast,Array.getElem?_eq_none hi]
 refine aa (aa (wpAny_typeNameOfWhole_keyiter hT (af ?_)));show wpAny _ _ (setField (.ref it) 0 .none>>=_) _ _ s;exact aa (wpAny_setField ho hd (by simp) (iI hh (Heap.SameBut.update ..).extBut hQ))
theorem oq{Q:Value->Shared->Prop}(hd:(d==sysModules)=false)(x:s.heap.RawD d es ep)(hQ:Q (.ref s.heap.objs.size) {s with heap:=s.heap.push {cls:= .type "dict_values",data:= .fields #[.ref d]}}):
  wpAny (model prog w) A (call (.builtin "dict.values") [.ref d]) Q E s:=by
 have hT:=x.ty;refine wpAny_call_entry F.slot_dict_values hT F.entry_dict_values ?_ (F.args_dict_values_1 _);refine aa ?_;unfold Builtin.Dict.noArgs;refine aa (wpAny_notOrdered_dict hT (af ?_));show wpAny _ _ (Builtin.Dict.showsAll d>>=_) _ _ s;unfold Builtin.Dict.showsAll;rw[if_neg (by rw[hd];decide)]
 exact aa (af (aa (wpAny_newObj_type (af ⟨_,rfl,hQ⟩))))
theorem qy{Q:Value->Shared->Prop}(hv:s.heap.IsValuesView v d)(x:s.heap.RawD d es ep)
  (hQ:Q (.ref s.heap.objs.size) {s with heap:=s.heap.push {cls:= .type "dict_valueiterator",data:= .fields #[.ref d,.int 0 0,.int es.size 0,.int ep 0]}}):wpAny (model prog w) A (pyIter (.ref v)) Q E s:=by
 obtain⟨ov,hov,_,hdv⟩:=id hv;obtain⟨o,ho,_,hdat⟩:=id x;refine wpAny_pyIter_slot hv.typeIs F.slot_dict_values_iter (wpAny_call_entry F.slot_dict_values_iter hv.typeIs F.entry_dict_values_iter ?_ (F.args_dict_values_iter_1 _));unfold Builtin.«dict_values.__iter__» Builtin.Dict_items.dictOf Builtin.Dict_items.newIterator;refine aa (af (aa (aa (aV hov hdv (x:= .ref d) rfl (af (aa (aa (wpAny_dictEntries ho hdat (aa (wpAny_dictEpoch ho hdat ?_))))))))));simp only[show Builtin.Dict_items.ownsTuple "dict_valueiterator"=false from by decide,Bool.false_eq_true,if_false]
 refine wpAny_newObj_type (af ⟨_,rfl,"dict_valueiterator",_,⟨_,am _ rfl,rfl⟩,F.slot_dict_valueiterator_next.lookup,?_⟩);simpa[rawInt] using hQ
theorem rT(hit:s.heap.RawIt "dict_valueiterator" it d i es.size ep)(x:s.heap.RawD d es ep)(hi:i<es.size)
  (hQ:∀h',h'.RawIt "dict_valueiterator" it d (i+1) es.size ep->Heap.SameBut it s.heap h'->Q (some es[i].val) {s with heap:=h'}):wpAny (model prog w) A (pyNext (.ref it)) Q E s:=by
 obtain⟨o,ho,hc,hd⟩:=id hit;obtain⟨od,hod,_,hdd⟩:=id x;have hT:=hit.ty;have mv:=Heap.RawIt.moved ho hc hd;unfold pyNext;refine aa (wpAny_attempt (wpAny_callSpecial?_slot (name:=Str.ofString "__next__") hT F.slot_dict_valueiterator_next (wpAny_call_entry F.slot_dict_valueiterator_next hT F.entry_dict_valueiterator_next ?_ (F.args_dict_valueiterator_next_1 _))));refine aa (af (aa (aa (aa (wpAny_typeNameOfWhole_valiter hT (af (aa (wpAny_fieldsOf ho hd ?_))))))));rw[show Builtin.Dict_items.ownsTuple "dict_valueiterator"=false from by decide]
 show wpAny _ _ (if(Value.ref d==Value.none)=true then _ else _) _ _ s
 rw[if_neg (by simp)]
 refine aa (af (aa (wpAny_dictEntries hod hdd ?_)));rw[if_neg (by simp)]
 refine aa (af (aa (wpAny_dictEpoch hod hdd ?_)));rw[if_neg (by simp)]
 refine af ?_;simp only[show ¬((i:Int)<0) from by omega,if_false,Int.toNat_natCast,Array.getElem?_eq_getElem hi]
 refine aa (aa (wpAny_typeNameOfWhole_valiter hT (af (aa (wpAny_isOneOf_valiter hT ?_)))));show wpAny _ _ (setField (.ref it) 1 (rawInt ((i:Int)+1))>>=_) _ _ s;refine aa (wpAny_setField ho hd (by simp) (aa (wpAny_holding (aa (wpAny_isOneOf_valiter (Heap.RawIt.ty (s:={s with heap:=_}) mv) ?_)))))
 refine aa (wpAny_isOneOf_valiter (Heap.RawIt.ty (s:={s with heap:=_}) mv) ?_);exact af (af ⟨_,rfl,af (hQ _ mv (Heap.SameBut.update ..))⟩)
theorem uP(hh:A.handled=none)(hit:s.heap.RawIt "dict_valueiterator" it d i es.size ep)(x:s.heap.RawD d es ep)(hi:es.size<=i)
  (hQ:∀h',Heap.ExtBut it s.heap h'->Q none {s with heap:=h'}):wpAny (model prog w) A (pyNext (.ref it)) Q E s:=by
 obtain⟨o,ho,hc,hd⟩:=id hit;obtain⟨od,hod,_,hdd⟩:=id x;have hT:=hit.ty;unfold pyNext;refine aa (wpAny_attempt (wpAny_callSpecial?_slot (name:=Str.ofString "__next__") hT F.slot_dict_valueiterator_next (wpAny_call_entry F.slot_dict_valueiterator_next hT F.entry_dict_valueiterator_next ?_ (F.args_dict_valueiterator_next_1 _))));refine aa (af (aa (aa (aa (wpAny_typeNameOfWhole_valiter hT (af (aa (wpAny_fieldsOf ho hd ?_))))))));rw[show Builtin.Dict_items.ownsTuple "dict_valueiterator"=false from by decide]
 show wpAny _ _ (if(Value.ref d==Value.none)=true then _ else _) _ _ s
 rw[if_neg (by simp)]
 refine aa (af (aa (wpAny_dictEntries hod hdd ?_)));rw[if_neg (by simp)]
 refine aa (af (aa (wpAny_dictEpoch hod hdd ?_)));rw[if_neg (by simp)]
 refine af ?_;simp only[show ¬((i:Int)<0) from by omega,if_false,Int.toNat_natCast,Array.getElem?_eq_none hi]
 refine aa (aa (wpAny_typeNameOfWhole_valiter hT (af ?_)));show wpAny _ _ (setField (.ref it) 0 .none>>=_) _ _ s;exact aa (wpAny_setField ho hd (by simp) (iI hh (Heap.SameBut.update ..).extBut hQ))
end
end PySem
namespace L2
open PySem PySem.Spec PyProof.Rows
variable{ifs:List Expr}{scope:Scope}{x y:Str}{e elt iter tg:Expr}{X:Cx}
noncomputable def i6(wi:TI)(g:TG)(tc:TT)(te:TE):TE:=λσ H Q=>wi σ H λJ H1=>∀D,H1 D=none->∃W:Nat->Nat->List V->Hp->Prop,(∃m,W 0 m [] (bE H1 D (.lst [])))/\∀i m ys H2,W i m ys H2->
 (J.stop i H2/\Q (.ref D) H2)∨(J.go i H2/\∃N:List V->Hp->Prop,(∀ys' H',N ys' H'->∃m',m'<m/\W (i+1) m' ys' H')/\
  ∀x H',J.yld i H2 x H'->∀o1 o2,g x (o1::o2::σ) H' λσ2 H3=>(∃p1 p2,σ2=p1::p2::σ)/\tc σ2 H3 λb H5=>if b=true then te σ2 H5 λy H4=>H4 D=some (.lst ys)/\ys.length<sizeLine/\N (ys++[y]) (bE H4 D (.lst (ys++[y]))) else N ys H5)
theorem jR{pos:Pos}{wi:TI}{g:TG}{tc:TT}{te:TE}(hc:X.calm=true)(C:CompScope X x scope)
  (hi:PI X tg iter wi)(hg:∀fp s H,PG (br X x y scope fp s H) tg g)(ht:∀fp s H,uI (br X x y scope fp s H) ifs tc)(he:∀fp s H,PE (br X x y scope fp s H) elt te)
  (hs:∀x,foldedSetIterable iter X.env x=pure x){pins:List (Addr×Obj)}{s:Shared}{σ:St}{H:Hp}{Q:VK}(I:Inv X pins σ H s)(h:i6 wi g tc te σ H Q)
  {use:Option (Value->Sem Unit)}{QQ:Value->Shared->Prop}{ppos:Pos}
  (fin:∀{fp:List Addr}{s3 s5:Shared}{H3 H4:Hp}{D:Addr}{o1 o2:Option V},Inv X pins σ H3 s3->(∀b∈fp,ei X pins H3 b)->Inv (br X x y scope fp s3 H3) pins (o1::o2::σ) H4 s5->Q (.ref D) H4->compPost (model X.prog X.w) X.A X.xe use QQ (.ref D) s3.heap.objs.size (.ok .next) s5):
  wpAny (model X.prog X.w) X.A (comprehension (.ListComp elt [⟨tg,iter,ifs,0⟩] scope pos) scope X.env ppos (newList []) false (eval iter X.env) use) QQ X.xe s:=by
 refine wpAny_comprehension_free rfl hs (eX (C.cells I.ok)) C.kind C.locs (bU (hi pins s σ H _ I h) λv s1 h1=>bU h1 λitv s2 h2=>?_);obtain⟨it,fp,tn,J,H2,e,I2,T,st2,f2,R⟩:=h2;subst e;have hD:H2 s2.heap.objs.size=none:=I2.hok.fresh (ah _);obtain⟨W,⟨m0,w0⟩,turn⟩:=R _ hD;refine wpAny_newObj_type (wpAny_newFunctionEnv C.nocell (by intro y hy;simp at hy) (λh₁ hns₁ hsb₁=>?_) C.kind)
 dsimp only at hns₁ hsb₁ ⊢
 have I3:Inv X pins σ (bE H2 s2.heap.objs.size (.lst [])) {s2 with heap:=s2.heap.push {cls:= .type "list",dict:=none,data:= .seq ([]:List Value).toArray}}:=
  I2.laid (t':=s2.toks) (o:= .lst []) (λb ob q=>ae _ q) (ah _) ⟨Nat.zero_le _,[],0,.nil,am _ rfl⟩
 have f3:∀b∈fp,ei X pins (bE H2 s2.heap.objs.size (.lst [])) b:=λb hb=>by
  obtain⟨o,e,_⟩:=T.obj _ _ st2 b hb;obtain⟨g0,g⟩:=f2 b hb;exact⟨by rw[aE (ao (al e))];exact g0,g⟩
 have o3:∀b∈fp,∃o,(s2.heap.push {cls:= .type "list",dict:=none,data:= .seq ([]:List Value).toArray}).get? b=some o:=λb hb=>by obtain⟨o,e,_⟩:=T.obj _ _ st2 b hb;exact⟨o,ae _ e⟩
 have old:∀b o,(s2.heap.push {cls:= .type "list",dict:=none,data:= .seq ([]:List Value).toArray}).get? b=some o->h₁.get? b=some o:=λb o e=>
  hsb₁.extBut b o (ao (al e)) (ae _ e)
 have K0:=re (x:=x) (y:=y) (scope:=scope) (fp:=fp) (h':=h₁) (tk:=s2.toks) I3 C f3 o3 hns₁ old;have st3:tn 0 h₁:=T.keep _ _ _ st2 λb _ o e=>old b o (ae _ e);generalize hs3:({s2 with heap:=s2.heap.push {cls:= .type "list",dict:=none,data:= .seq ([]:List Value).toArray}}:Shared)=s3 at I3 K0;have es3:s2.heap.push {cls:= .type "list",dict:=none,data:= .seq ([]:List Value).toArray}=s3.heap:=by rw[<-hs3]
 generalize hH3:bE H2 s2.heap.objs.size (.lst [])=H3 at I3 K0 f3 w0
 have stat:∀{H':Hp},(∀b∈fp,H' b=none)->∀b∈fp,ei (br X x y scope fp s3 H3) pins H' b:=λ{H'} hn b hb=>by
  obtain⟨o,e⟩:=o3 b hb;rw[es3] at e;obtain⟨g0,g1,g2,g3,g4,g5⟩:=f3 b hb;refine⟨hn b hb,ao (al e),λz=>?_,.inl hb,λy c h=>g4 y c (C.cell_of I.ok h).2,g5⟩;rcases List.mem_cons.mp (I3.stkSub _ z) with q|q
  ·exact g1 q
  ·exact g2 q
 have loop:codeAny (model X.prog X.w) X.A (.compLoop (.ListComp elt [⟨tg,iter,ifs,0⟩] scope pos) 0 (.ref it) (.ref s2.heap.objs.size) (br X x y scope fp s3 H3).env)
   (compPost (model X.prog X.w) X.A X.xe use QQ (Value.ref s2.heap.objs.size) s3.heap.objs.size) {s3 with heap:=h₁,toks:=s2.toks}:=by
  refine iO (λn s'=>∃i o1 o2 ys H',Inv (br X x y scope fp s3 H3) pins (o1::o2::σ) H' s'/\tn i s'.heap/\(∀b∈fp,H' b=none)/\W i n ys H') ?_ m0 ⟨0,none,none,[],H3,K0,st3,λb hb=>(f3 b hb).1,w0⟩;rintro n s4 ⟨i,o1,o2,ys,H4,I4,st4,fr4,w4⟩;rcases turn i n ys H4 w4 with⟨stop,qn⟩|⟨go,N,hNN,step⟩
  ·refine bU (T.done (br X x y scope fp s3 H3) rfl rfl rfl hc i pins s4 (o1::o2::σ) H4 _ I4 (stat fr4) st4 stop) λr s5 ⟨hr,I5⟩=>?_;subst hr;exact fin I3 f3 I5 qn
  ·refine bU (T.item (br X x y scope fp s3 H3) rfl rfl rfl hc i pins s4 (o1::o2::σ) H4 _ I4 (stat fr4) st4 go) λr s5 hp=>?_;obtain⟨u,hr,h5⟩:=hp;subst hr;refine bU h5 λ_ s6 hp=>?_;obtain⟨yv,H6,I6,r6,y6,st6,fr6⟩:=hp;have I6':=I6.pinned (stat fr6) (T.obj _ _ st6)
   have keepS:∀{q1 q2:Option V}{H':Hp}{s':Shared},Inv (br X x y scope fp s3 H3) (pins++ik fp s6.heap) (q1::q2::σ) H' s'->tn (i+1) s'.heap/\∀b∈fp,H' b=none:=λ{q1 q2 H' s'} I'=>by refine⟨T.keep _ _ _ st6 λb hb o e=>(I'.pin (b,o) (aH _ (aH _ (cQ hb e)))).1,λb hb=>?_⟩;obtain⟨o,e,d⟩:=T.obj _ _ st6 b hb;exact(I'.pin (b,o) (aH _ (aH _ (cQ hb e)))).2.1
   refine aQ (hg fp s3 H3 _ s6 (o1::o2::σ) H6 yv u _ I6' r6 (step yv H6 y6 o1 o2)) (λ_ s7 ⟨σ7,H7,I7,⟨p1,p2,hσ⟩,q7⟩=>?_) λ_ _ z=>False.elim z;subst hσ;refine aQ (ht fp s3 H3 _ s7 (p1::p2::σ) H7 _ I7 q7) (λbb s8 ⟨H8,I8,q8⟩=>?_) λ_ _ z=>False.elim z;cases bb with
   |false=>rw[if_neg aF] at q8 ⊢;obtain⟨m',hm,w8⟩:=hNN ys H8 q8;obtain⟨a1,a2⟩:=keepS I8;exact⟨m',hm,i+1,p1,p2,ys,H8,I8.unpinned,a1,a2,w8⟩
   |true=>
   rw[if_pos rfl] at q8 ⊢;refine aQ (he fp s3 H3 _ s8 (p1::p2::σ) H8 _ I8 q8) (λv9 s9 ⟨y9,H9,I9,r9,hacc,hsz,q9⟩=>?_) λ_ _ z=>False.elim z;refine aQ (ip (X:=br X x y scope fp s3 H3) _ s9 (p1::p2::σ) H9 (.ref s2.heap.objs.size) [y9] _ [v9] (λ_ H'=>N (ys++[y9]) H') I9 rfl (.cons r9 .nil) ⟨_,_,_,rfl,rfl,hacc,hsz,q9⟩) (λ_ s10 ⟨_,H10,I10,_,q10⟩=>?_) λ_ _ z=>False.elim z;obtain⟨m',hm,w10⟩:=hNN _ H10 q10;obtain⟨a1,a2⟩:=keepS I10;exact⟨m',hm,i+1,p1,p2,_,H10,I10.unpinned,a1,a2,w10⟩
 have eC:(s2.heap.push {cls:= .type "list",dict:=none,data:= .seq ([]:List Value).toArray}).objs.size=s3.heap.objs.size:=by rw[es3]
 rw[eC];have es4:({heap:=h₁,gens:=s2.gens,drawn:=s2.drawn,toks:=s2.toks+([]:List (Str×Value)).length,os:=s2.os}:Shared)={s3 with heap:=h₁,toks:=s2.toks}:=by rw[<-hs3];rfl
 rw[es4];exact codeAny_compStart_list loop (T.self _ 0 _ _ _ st3 loop)
theorem kt{pos:Pos}{wi:TI}{g:TG}{tc:TT}{te:TE}(hc:X.calm=true)(C:CompScope X x scope)
  (hi:PI X tg iter wi)(hg:∀fp s H,PG (br X x y scope fp s H) tg g)(ht:∀fp s H,uI (br X x y scope fp s H) ifs tc)(he:∀fp s H,PE (br X x y scope fp s H) elt te)
  (hs:∀x,foldedSetIterable iter X.env x=pure x):PE X (.ListComp elt [⟨tg,iter,ifs,0⟩] scope pos) (i6 wi g tc te):=by
 intro pins s σ H Q I h;rw[eval_ListComp];refine jR (use:=none) hc C hi hg ht he hs I h λI3 f3 I5 qn=>?_;obtain⟨m5,hn5,_⟩:=id I5.loc;exact⟨m5,hn5,λh' sb=>⟨.ref _,_,kK I3 f3 I5 sb,rfl,qn⟩⟩
theorem mL{z:Str}{p1 p2 p3 pz:Pos}{k:Nat}{pos spos:Pos}{wi:TI}{g:TG}{tc:TT}{te:TE}{i:Nat}(hc:X.calm=true)(C:CompScope X x scope)(hN:X.N.Nodup)
  (hi:PI X (.Tuple [.Name x p1,.Name y p2] k p3) iter wi)(hg:∀fp s H,PG (br X x y scope fp s H) (.Tuple [.Name x p1,.Name y p2] k p3) g)(ht:∀fp s H,uI (br X x y scope fp s H) ifs tc)(he:∀fp s H,PE (br X x y scope fp s H) elt te)
  (hs:∀x,foldedSetIterable iter X.env x=pure x)(hy:X.N[i]? =some z)(hl:Loc X.env.scope z)(hf:X.fn z=true∨X.env.scope.names.lookup z=some .local):
  PS X (.Assign [.Name z pz] (.ListComp elt [⟨.Tuple [.Name x p1,.Name y p2] k p3,iter,ifs,0⟩] scope pos) spos) (nZ (i6 wi g tc te) (d7 i)):=by
 have hb:∃b,swapsWith (.ListComp elt [⟨.Tuple [.Name x p1,.Name y p2] k p3,iter,ifs,0⟩] scope pos) (some (.Name z pz)) spos.line X.env=pure b:=⟨_,rfl⟩;obtain⟨b,hb⟩:=hb;cases b with
 |false=>exact ow hN hy hl (kt hc C hi hg ht he hs) hb hf
 |true=>
  intro pins s σ H D I h;rw[exec_Assign_Name_used _ _ _ _ hb];refine aa (wpAny_standAt (aa ?_));show wpAny _ X.A (do let _ <-comprehension (.ListComp elt [⟨.Tuple [.Name x p1,.Name y p2] k p3,iter,ifs,0⟩] scope pos) scope X.env _ (newList []) false (eval iter X.env) (some (assign (.Name z pz) X.env))) _ _ s
  refine aa (aQ (jR (use:=some (assign (.Name z pz) X.env)) (QQ:=λ_ s'=>SP X pins D .next s') hc C hi hg ht he hs I h λ{fp s3 s5 H3 H4 Dd o1 o2} I3 f3 I5 qn=>?_) (λ_ s' hq=>af (af hq)) λ_ _ e=>e)
  have I6:Inv X pins σ H4 s5:=by have:=kK I3 f3 I5 (Heap.SameBut.refl _ _);exact this
  obtain⟨m5,hn5,_⟩:=id I5.loc;have hC0:H4 s3.heap.objs.size=none:=I5.free;have hCL:X.env.locals≠s3.heap.objs.size:=ao I3.lt;show wpAny _ X.A (assign (.Name z pz) X.env (.ref Dd)) _ _ _;refine wpAny_assign_Name (h_ (v:= .ref Dd) I6 hN hy hl rfl (λs7 I7 hch=>?_) hf);obtain⟨a,sb,ha⟩:=hch
  have hCa:s3.heap.objs.size≠a:=by
   rcases ha with rfl|ha
   ·exact hCL.symm
   ·obtain⟨v,q⟩:=I3.cell z a ha;exact(ao q.lt).symm
  refine⟨m5,hn5.sameBut sb hCa,λh' sb'=>⟨_,H4,?_,qn⟩⟩;refine I7.turned (t':=s7.toks) (it:=s3.heap.objs.size) (λb o hb e=>(sb'.2 b hb).trans e) hC0 hCL.symm (.inr I3.sz) (λz c e=>?_) λp hp=>?_
  ·obtain⟨v,q⟩:=I3.cell z c e;exact ao q.lt
  ·exact ao (al (I3.pin p hp).1)
section
variable{X:Cx}{pins:List (Addr×Obj)}{σ:St}{H:Hp}{s:Shared}{a:Addr}{o:Obj}{kvs:List (Key×V)}
theorem Inv.swapD{u u':HO}(I:Inv X pins σ H s)(e:H a=some u)(nu:∀xs,u≠ .tup xs)(no:∀x,u≠ .own x)(nt:∀ps,u≠ .tbl ps)(nf:∀o w,X.H₀ a≠some (.frz o w))(new:bM X.prog X.w (bE H a u') s.heap a u'):Inv X pins σ (bE H a u') s:=by
 have na:∀{b:Addr},H b=none->b≠a:=λq z=>by rw[z,e] at q;cases q
 refine⟨I.ok,I.os,I.bare,⟨I.base.keep,I.base.slot,λb ob q n hx=>?_,I.base.there,λb xs q=>?_,λb ob w q=>?_,λb ps q=>?_⟩,I.loc,I.cell,?_,λx c q=>?_,λp hp=>?_,λb w q=>?_,I.len⟩
 ·have z:=I.base.free b ob q n hx;rw[aE (na z)];exact z
 ·have z:=I.base.tups b xs q;rw[aE (cM z e λy=>nu _ y.symm)];exact z
 ·have z:=I.base.frzs b ob w q;refine(aE λy=>?_).trans z;rw[y] at q;exact nf _ _ q
 ·obtain⟨m,z⟩:=I.base.tbls b ps q;exact⟨m,by rw[aE (cM z e λy=>nt _ y.symm)];exact z⟩
 ·rw[aE (na I.free)];exact I.free
 ·rw[aE (na (I.freeC x c q))];exact I.freeC x c q
 ·obtain⟨h1,h2,h3⟩:=I.pin p hp;exact⟨h1,by rw[aE (na h2)];exact h2,h3⟩
 ·by_cases hb:b=a
  ·subst hb;rw[bi] at q;cases q;exact new
  ·rw[aE hb] at q;exact(I.hok b w q).stay (λ_ _ _ z=>z) (λc z=>by rw[aE (cM z e λy=>no _ y.symm)];exact z) λc xs z=>by rw[aE (cM z e λy=>nu _ y.symm)];exact z
theorem Inv.freezeD(I:Inv X pins σ H s)(e:H a=some (.dK kvs))(ho:s.heap.get? a=some o):Inv X pins σ (bE H a (.frz o (.dK kvs))) s:=
 I.swapD e (λ_ z=>nomatch z) (λ_ z=>nomatch z) (λ_ z=>nomatch z) (λo' w z=>by rw[I.base.frzs _ _ _ z] at e;cases e) ⟨ho,I.hok a _ e⟩
theorem Inv.thawD(I:Inv X pins σ H s)(e:H a=some (.frz o (.dK kvs)))(nf:∀o w,X.H₀ a≠some (.frz o w)):Inv X pins σ (bE H a (.dK kvs)) s:=
 I.swapD e (λ_ z=>nomatch z) (λ_ z=>nomatch z) (λ_ z=>nomatch z) nf (show bM _ _ H s.heap a (.frz o (.dK kvs)) from I.hok a _ e).2
theorem Inv.nofrzD(I:Inv X pins σ H s)(e:H a=some (.dK kvs)):∀o' w,X.H₀ a≠some (.frz o' w):=λo' w z=>by rw[I.base.frzs _ _ _ z] at e;cases e
end
noncomputable def yM(X:Cx)(Q:Hp->Prop)(H:Hp):Prop:=∃a o kvs,H a=some (.frz o (.dK kvs))/\(∀o w,X.H₀ a≠some (.frz o w))/\Q (bE H a (.dK kvs))
theorem PE.thawD{t:TE}(h:PE X e t):PE X e λσ H Q=>t σ H λv H1=>yM X (Q v) H1:=λpins s σ H Q I q=>
 bU (h pins s σ H _ I q) λu s1 ⟨x,H1,I1,r1,a,o,kvs,e,nf,q2⟩=>⟨x,_,I1.thawD e nf,r1,q2⟩
theorem t7{P:Program}{w:World}{H:Hp}{h:Heap}{a:Addr}{kvs:List (Key×V)}(x:bM P w H h a (.dK kvs)):∃o es ep vs,h.get? a=some o/\o.ExactDict/\o.data=.dict es ep/\KV kvs vs/\Pairs (bf P w) es.toList vs/\es.size=kvs.length/\(a==sysModules)=false:=by
 obtain⟨z,y,vs,r,o,es,ep,h1,h2,h3,h4,h5,h6⟩:=x;exact⟨o,es,ep,vs,h1,h2,h3,r,h5,by rw[<-Array.length_toList,h5.length,<-r.length],y⟩
theorem t9{P:Program}{w:World}:∀{kvs:List (Key×V)}{vs:List (Key×Value)}{es:List DictEntry}{i:Nat}{p:Key×V}{e:DictEntry},KV kvs vs->Pairs (bf P w) es vs->kvs[i]? =some p->es[i]? =some e->RelV (kV p.1) e.key
 |_,_,_,i,p,e,.nil,.nil,h,_=>by simp at h
 |_,_,_,0,p,e,.cons r _,.cons h1 h2 _,h,h'=>by
  simp only[List.getElem?_cons_zero,Option.some.injEq] at h h';subst h h';rw[r.1];rcases bx (show eU _ _=true from h1) with⟨i,t,e1,e2⟩|⟨x,t,e1,e2⟩
  ·rw[e1,e2];exact⟨t,rfl⟩
  ·rw[e1,e2];exact⟨t,rfl⟩
 |_,_,_,i+1,p,e,.cons _ t,.cons _ _ u,h,h'=>t9 t u (by simpa using h) (by simpa using h')
noncomputable def BR(o:Obj)(d:Addr)(kvs:List (Key×V)):It:=
 ⟨λi H=>H d=some (.frz o (.dK kvs))/\∃p,kvs[i]? =some p,λi H x H'=>H'=H/\∃p,kvs[i]? =some p/\x=kV p.1,λi H=>H d=some (.frz o (.dK kvs))/\kvs.length<=i⟩
noncomputable def BV(o:Obj)(it d:Addr)(i:Nat)(h:Heap):Prop:=∃es ep,o.data=.dict es ep/\h.RawIt "dict_keyiterator" it d i es.size ep
theorem sd{pins:List (Addr×Obj)}{σ:St}{H:Hp}{s:Shared}{d:Addr}{o:Obj}{kvs:List (Key×V)}{es:Array DictEntry}{ep:Nat}(I:Inv X pins σ H s)(e:H d=some (.frz o (.dK kvs)))(ho:o.data=.dict es ep):
  s.heap.RawD d es ep/\es.size=kvs.length/\∃vs,KV kvs vs/\Pairs (bf X.prog X.w) es.toList vs:=by
 obtain⟨e1,e2⟩:=(show bM X.prog X.w H s.heap d (.frz o (.dK kvs)) from I.hok d _ e);obtain⟨o',es',ep',vs,h1,h2,h3,h4,h5,h6,_⟩:=t7 e2;rw[e1] at h1;cases h1;rw[ho] at h3;cases h3;exact⟨⟨o,e1,h2,ho⟩,h6,vs,h4,h5⟩
theorem nV{P:Program}{w:World}{K:av}(o:Obj)(d it:Addr)(kvs:List (Key×V)):Turn P w K tg (BR o d kvs) [it] it (BV o it d) where
 mem:=by simp
 obj:=λi h ⟨es,ep,_,ob,ho,_,hd⟩ b hb=>by
  have:b=it:=by simpa using hb
  subst this;exact⟨ob,ho,λv z=>by rw[hd] at z;cases z⟩
 keep:=λi h h' ⟨es,ep,hd,st⟩ kk=>⟨es,ep,hd,st.at λo q=>kk it (by simp) o q⟩
 item:=by
  intro X hP hw hK hc i pins s σ H E I hf st hg;subst hP hw hK;obtain⟨es,ep,hd,hit⟩:=st;obtain⟨e,p,hp⟩:=hg;obtain⟨raw,h5,vs,r,h4⟩:=sd I e hd;have hi:i<es.size:=by rw[h5];exact(au hp).1
  have k1:=t9 (e:=es[i]) r h4 hp (by simp[hi])
  obtain⟨f0,f1,f2,f3,f4,f5⟩:=hf it (by simp)
  refine tm hit raw hi λh' hit' hs'=>?_
  replace hs':Heap.SameBut it s.heap h':=hs'
  obtain⟨ob,ho,hcl,hda⟩:=id hit';refine⟨_,rfl,p0 (s:={s with heap:=h'}) (n:= "dict_keyiterator") ho hcl hda (by decide) ⟨kV p.1,H,I.turned (t':=s.toks) (λc q hc e=>hs'.extBut c q hc e) f0 f1 f3 f4 f5,k1,⟨rfl,p,hp,rfl⟩,⟨es,ep,hd,hit'⟩,λc hc=>(hf c hc).1⟩⟩
 done:=by
  intro X hP hw hK hc i pins s σ H E I hf st hg;subst hP hw hK;obtain⟨es,ep,hd,hit⟩:=st;obtain⟨e,hl⟩:=hg;obtain⟨raw,h5,vs,r,h4⟩:=sd I e hd;obtain⟨f0,f1,f2,f3,f4,f5⟩:=hf it (by simp)
  exact vF (I.ok.hd hc) hit raw (by omega) λh' eb=>⟨rfl,I.turned (t':=s.toks) (λb o hb e=>eb b o hb e) f0 f1 f3 f4 f5⟩
 self:=λ_ _ _ _ _ ⟨es,ep,_,st⟩ h=>wpAny_pyIter_keyiter (show Heap.IsKeyIter _ _ _ _ _ _ from st) h
noncomputable def Bs(X:Cx)(tl:TE):TI:=λσ H R=>tl σ H λx H1=>∃a kvs,x=.ref a/\H1 a=some (.dK kvs)/\∀o,(∀o' w,X.H₀ a≠some (.frz o' w))->R (BR o a kvs) (bE H1 a (.frz o (.dK kvs)))
theorem qC{l:Expr}{tl:TE}(hl:PE X l tl):PI X tg l (Bs X tl):=by
 intro pins s σ H R I h;refine bU (hl pins s σ H _ I h) λv s1 ⟨x,H1,I1,r1,a,kvs,ex,e,q⟩=>?_;subst ex;cases r1;obtain⟨o,es,ep,vs,h1,h2,h3,h4,h5,h6,lo⟩:=t7 (I1.hok a _ e);have nf:=I1.nofrzD e;refine sA lo ⟨o,h1,h2,h3⟩ ?_;have I2:=(I1.freezeD e h1).kept (t':=s1.toks) (h':=s1.heap.push {cls:= .type "dict_keyiterator",data:= .fields #[.ref a,.int 0 0,.int es.size 0,.int ep 0]}) λb q z=>ae _ z;refine⟨s1.heap.objs.size,[s1.heap.objs.size],_,_,_,rfl,I2,nV o a _ kvs,⟨es,ep,h3,_,am _ rfl,rfl,rfl⟩,λb hb=>?_,q o nf⟩;have eb:b=s1.heap.objs.size:=by simpa using hb
 subst eb;exact(I1.freezeD e h1).fpOk (ah _) ((I1.freezeD e h1).hok.fresh (ah _))
noncomputable def wX(td ty tx:TE):TE:=λσ H Q=>td σ H λx H1=>∃a,x=.ref a/\BS H1 a/\ty σ H1 λy H2=>tx σ H2 λz H3=>(∃o,gq H3 a y o/\Q (o.getD z) H3)∨(y=.non/\(∃kvs,Rd H3 a (.dK kvs))/\Q z H3)
theorem sP{o f:Expr}{apos cpos:Pos}{td ty tx:TE}(hu:X.A.units+1<cLine)(ho:PE X o td)(he:PE X e ty)(hf:PE X f tx)(m:M2 X o "get" apos e f cpos):PE X (.Call (.Attribute o "get" apos) [e,f] [] cpos) (wX td ty tx):=by
 intro pins s σ H Q I h;refine wpAny_Call_method m.base m.few m.line PySem.F.plainAttrs_dict PySem.F.slot_dict_get PySem.F.type_dict_get (bU (ho pins s σ H _ I h) λu s1 hp=>?_);obtain⟨x,H1,I1,rx,a,ex,d,q1⟩:=hp;subst ex;obtain rfl:u=Value.ref a:=rx;obtain⟨t1,t2,_⟩:=iw I1 d;refine⟨t1,t2,?_⟩;rw[m.trees]
 refine Calls.callWith_builtin rfl (Calls.evalArgs_plain (Calls.spliced_cons (bU (he pins s1 σ H1 _ I1 q1) λiv s2 ⟨y,H2,I2,ry,q2⟩=>
  Calls.spliced_cons (bU (hf pins s2 σ H2 _ I2 q2) λfv s3 ⟨z,H3,I3,rz,q3⟩=>Calls.spliced_nil ?_))))
 rcases q3 with⟨ov,g,q3⟩|⟨rfl,⟨kvs,e⟩,q3⟩
 ·exact yG hu I3 g ry rz λw' s4 I4 rw'=>⟨_,H3,I4,rw',q3⟩
 ·cases ry;exact yH I3 e λs4 I4=>⟨z,H3,I4,rz,q3⟩
theorem PS.thawD{e:Stmt}{t:TS}(h:PS X e t):PS X e λD σ H=>t {D with nx:=λσ H=>yM X (D.nx σ) H} σ H:=λpins s σ H D I q=>
 bU (h pins s σ H _ I q) λf s1 hq=>by
  cases f with
  |next=>obtain⟨σ',H',I',a,o,kvs,e,nf,q2⟩:=hq;exact⟨σ',_,I'.thawD e nf,q2⟩
  |_=>exact hq
end L2
namespace PySem
open Sem (wp)
open AutoSeq1 (wpAny_loadPart')
variable{i i1 i2 it l t z:Addr}{h h':Heap}{c c1 c2:Bool}{Q:Value->Shared->Prop}{d x y:Value}{qs:Array Value}
noncomputable def cF:Bool->Heap->Addr->Addr->Nat->Prop
 |true,h,i,l,k=>h.IsListIter i l k
 |false,h,i,l,k=>h.IsTupleIter i l k
noncomputable def da:Bool->Heap->Addr->Array Value->Prop
 |true,h,l,ps=>h.IsList l ps
 |false,h,l,ps=>h.IsTuple l ps
noncomputable def mY:Bool->String
 |true=> "list_iterator"
 |false=> "tuple_iterator"
theorem cF.at{k:Nat}(j:cF c h i l k)(f:∀o,h.get? i=some o->h'.get? i=some o):cF c h' i l k:=by
 cases c
 ·exact fN j f
 ·exact Heap.IsListIter.at j f
theorem da.at{ps:Array Value}(j:da c h l ps)(f:∀o,h.get? l=some o->h'.get? l=some o):da c h' l ps:=by
 cases c
 ·exact gp j f
 ·exact Heap.IsList.at j f
theorem cF.obj{k:Nat}(j:cF c h i l k):∃o,h.get? i=some o/\∀v,o.data≠ .cell v:=by
 cases c<;>obtain⟨o,q,_,d⟩:=j<;>exact⟨o,q,λv z=>by rw[d] at z;cases z⟩
theorem da.lt{ps:Array Value}(j:da c h l ps):l<h.objs.size:=by cases c<;>obtain⟨o,e,_⟩:=j<;>exact al e
section
variable{prog:Program}{w:World}{A:Around}{E:Value->Shared->Prop}{s:Shared}
theorem lJ{i:Nat}{items:Array Value}(hit:cF c s.heap it l i)(hl:da c s.heap l items)(hx:items[i]? =some x)(hQ:∀h',cF c h' it l (i+1)->Heap.SameBut it s.heap h'->Q x {s with heap:=h'}):
  wpAny (model prog w) A (Builtin.SmallTypes.nextOf (.ref it)) Q E s:=by
 cases c
 ·exact rY hit hl hx hQ
 ·exact wpAny_nextOf_list_item hit hl hx hQ
theorem tD{i:Nat}{items:Array Value}(hh:A.handled=none)(hit:cF c s.heap it l i)(hl:da c s.heap l items)(hx:items[i]? =none)
  (hE:∀h' e,Heap.ExtBut it s.heap h'->(∃o,h'.get? e=some o/\o.cls=.type "StopIteration")->E (.ref e) {s with heap:=h'}):wpAny (model prog w) A (Builtin.SmallTypes.nextOf (.ref it)) Q E s:=by
 cases c
 ·exact uQ hh hit hl hx hE
 ·exact wpAny_nextOf_list_end hh hit hl hx hE
theorem pX{items:Array Value}(hl:da c s.heap l items)
  (hQ:Q (.ref s.heap.objs.size) {s with heap:=s.heap.push {cls:= .type (mY c),data:= .fields #[.ref l,.int 0 0]}}):wpAny (model prog w) A (pyIter (.ref l)) Q E s:=by
 cases c
 ·exact wpAny_pyIter_tuple hl hQ
 ·exact wpAny_pyIter_list hl hQ
theorem cF.new(e:h.get? i=some {cls:= .type (mY c),data:= .fields #[.ref l,.int 0 0]}):cF c h i l 0:=by cases c<;>exact⟨_,e,rfl,rfl⟩
end
section
variable{prog:Program}{w:World}{A:Around}{E:Value->Shared->Prop}{s:Shared}
theorem rF{TI TO:Addr}{k:Nat}{ps:Array Value}{c:Value}(Z:ZipApart z TI TO i1 i2 t l)
  (gz:IsZip s.heap z TI TO .none)(gI:IsPair s.heap TI (.ref i1) (.ref i2))(gO:IsPair s.heap TO c d)(j1:cF c1 s.heap i1 t k)(j2:cF c2 s.heap i2 l k)(m1:da c1 s.heap t ps)(m2:da c2 s.heap l qs)(hx:ps[k]? =some x)(hy:qs[k]? =some y)
  (fin:∀g,IsZip g z TI TO (rawInt s.heap.objs.size)->IsPair g TO x y->cF c1 g i1 t (k+1)->cF c2 g i2 l (k+1)->IsPair g s.heap.objs.size x y->g.objs.size=s.heap.objs.size+1->
   (∀b o,b≠z->b≠TO->b≠i1->b≠i2->s.heap.get? b=some o->g.get? b=some o)->Q (.ref s.heap.objs.size) {s with heap:=g}):
  wpAny (model prog w) A (Builtin.«zip.__next__» ⟨[.ref z],[]⟩) (λr u=>∃v,r=.done (.ret v)/\Q v u) E s:=by
 show wpAny _ _ (field (.ref z) 2>>=_) _ _ _;refine aa (aV gz rfl (x:= .bool false) rfl ?_);show wpAny _ _ (field (.ref z) 3>>=_) _ _ _;refine aa (aV gz rfl (x:= .ref TI) rfl ?_);refine aa (wpAny_seqItems gI rfl ?_);show wpAny _ _ (Builtin.SmallTypes.ownedTupleIsFree (.ref z)>>=_) _ _ _;refine aa ?_;unfold Builtin.SmallTypes.ownedTupleIsFree;refine aa (aV gz rfl (x:= .none) rfl (af ?_));simp only[if_true];refine aa (wpAny_rule (aa (aV gz rfl (x:= .ref TO) rfl ?_)));refine aa (bA gz (by simp) λg1 z1 b1=>?_)
 replace z1:IsZip g1 z TI TO .ellipsis:=z1
 refine aa ?_;simp only[List.zipIdx_cons,List.zipIdx_nil,List.forIn_cons,List.forIn_nil];refine aa (aa (wpAny_onRaise ?_));show wpAny _ _ (Builtin.SmallTypes.nextOf (.ref i1)>>=_) _ _ _;have j1':cF c1 g1 i1 t k:=j1.at λo e=>b1.extBut _ _ Z.i1z e;have m1':da c1 g1 t ps:=m1.at λo e=>b1.extBut _ _ Z.l1z e;refine aa (lJ (s:={s with heap:=g1}) j1' m1' hx λg2 j12 b2=>af ?_)
 replace b2:Heap.SameBut i1 g1 g2:=b2
 have o2:IsPair g2 TO c d:=b2.extBut _ _ Z.TOi1 (b1.extBut _ _ Z.TOz gO);refine aa (wpAny_seqItems o2 rfl ?_);refine aa (wpAny_updateSeq_pair o2 λg3 o3 b3=>?_)
 replace o3:IsPair g3 TO x d:=o3
 replace b3:Heap.SameBut TO g2 g3:=b3
 refine aa (wpAny_letGo (af (aa (aa (wpAny_onRaise ?_)))));show wpAny _ _ (Builtin.SmallTypes.nextOf (.ref i2)>>=_) _ _ _;have up3:∀b o,b≠z->b≠i1->b≠TO->s.heap.get? b=some o->g3.get? b=some o:=λb o n1 n2 n3 e=>b3.extBut _ _ n3 (b2.extBut _ _ n2 (b1.extBut _ _ n1 e));refine aa (lJ (s:={s with heap:=g3}) (j2.at λo e=>up3 i2 o Z.i2z Z.i12.symm Z.TOi2.symm e) (m2.at λo e=>up3 l o Z.l2z Z.l2i1 Z.l2TO e) hy λg4 j24 b4=>af ?_)
 replace b4:Heap.SameBut i2 g3 g4:=b4
 have o4:IsPair g4 TO x d:=b4.extBut _ _ Z.TOi2 o3;refine aa (wpAny_seqItems o4 rfl ?_);refine aa (wpAny_updateSeq_pair o4 λg5 o5 b5=>?_)
 replace o5:IsPair g5 TO x y:=o5
 replace b5:Heap.SameBut TO g4 g5:=b5
 refine aa (wpAny_letGo (af (af (aa (wpAny_seqItems o5 rfl (aa (wpAny_newTuple ?_)))))));have sz5:g5.objs.size=s.heap.objs.size:=by rw[b5.1,b4.1,b3.1,b2.1,b1.1]
 have z5:IsZip g5 z TI TO .ellipsis:=b5.extBut _ _ Z.TOz.symm (b4.extBut _ _ Z.i2z.symm (b3.extBut _ _ Z.TOz.symm (b2.extBut _ _ Z.i1z.symm z1)));have up5:∀b o,b≠z->b≠TO->b≠i1->b≠i2->s.heap.get? b=some o->g5.get? b=some o:=λb o n1 n2 n3 n4 e=>b5.extBut _ _ n2 (b4.extBut _ _ n4 (up3 b o n1 n3 n2 e));have j15:cF c1 g5 i1 t (k+1):=j12.at λo e=>b5.extBut _ _ Z.TOi1.symm (b4.extBut _ _ Z.i12 (b3.extBut _ _ Z.TOi1.symm e));have j25:cF c2 g5 i2 l (k+1):=j24.at λo e=>b5.extBut _ _ Z.TOi2.symm e;have ltz:z<g5.objs.size:=al z5;show wpAny _ _ (Builtin.SmallTypes.ownedTupleHandOut (.ref z) (.ref g5.objs.size)>>=_) _ _ _;refine aa ?_;unfold Builtin.SmallTypes.ownedTupleHandOut;have z6:IsZip (g5.push {cls:= .type "tuple",data:= .seq #[x,y]}) z TI TO .ellipsis:=ae _ z5;refine aa (bA z6 (by simp) λg7 z7 b7=>?_)
 replace z7:IsZip g7 z TI TO (rawInt g5.objs.size):=z7
 refine bA z7 (by simp) λg8 z8 b8=>?_
 replace z8:IsZip g8 z TI TO (rawInt g5.objs.size):=z8
 have up8:∀b o,b≠z->g5.get? b=some o->g8.get? b=some o:=λb o n e=>b8.extBut _ _ n (b7.extBut _ _ n (ae _ e));have t8:IsPair g8 g5.objs.size x y:=b8.extBut _ _ (bC ltz) (b7.extBut _ _ (bC ltz) (am _ rfl));have sz8:g8.objs.size=g5.objs.size+1:=by rw[b8.1,b7.1,Heap.size_push]
 rw[sz5] at z8 t8 sz8;refine af ⟨_,rfl,?_⟩;show Q (.ref g5.objs.size) _;rw[sz5];exact fin g8 z8 (up8 _ _ Z.TOz o5) (j15.at λo e=>up8 _ o Z.i1z e) (j25.at λo e=>up8 _ o Z.i2z e) t8 sz8 λb o n1 n2 n3 n4 e=>up8 b o n1 (up5 b o n1 n2 n3 n4 e)
theorem rC{TI TO:Addr}{k:Nat}{ps:Array Value}{c:Value}{Q:Fin->Shared->Prop}(hh:A.handled=none)(Z:ZipApart z TI TO i1 i2 t l)
  (gz:IsZip s.heap z TI TO .none)(gI:IsPair s.heap TI (.ref i1) (.ref i2))(gO:IsPair s.heap TO c d)(j1:cF c1 s.heap i1 t k)(j2:cF c2 s.heap i2 l k)(m1:da c1 s.heap t ps)(m2:da c2 s.heap l qs)(hend:ps[k]? =none∨qs[k]? =none)
  (fin:∀g e,(∀b o,b≠z->b≠TO->b≠i1->b≠i2->s.heap.get? b=some o->g.get? b=some o)->(∃o,g.get? e=some o/\o.cls=.type "StopIteration")->E (.ref e) {s with heap:=g}):
  wpAny (model prog w) A (Builtin.«zip.__next__» ⟨[.ref z],[]⟩) Q E s:=by
 show wpAny _ _ (field (.ref z) 2>>=_) _ _ _;refine aa (aV gz rfl (x:= .bool false) rfl ?_);show wpAny _ _ (field (.ref z) 3>>=_) _ _ _;refine aa (aV gz rfl (x:= .ref TI) rfl ?_);refine aa (wpAny_seqItems gI rfl ?_);show wpAny _ _ (Builtin.SmallTypes.ownedTupleIsFree (.ref z)>>=_) _ _ _;refine aa ?_;unfold Builtin.SmallTypes.ownedTupleIsFree;refine aa (aV gz rfl (x:= .none) rfl (af ?_));simp only[if_true];refine aa (wpAny_rule (aa (aV gz rfl (x:= .ref TO) rfl ?_)));refine aa (bA gz (by simp) λg1 z1 b1=>?_)
 replace z1:IsZip g1 z TI TO .ellipsis:=z1
 refine aa ?_;simp only[List.zipIdx_cons,List.zipIdx_nil,List.forIn_cons,List.forIn_nil];refine aa (aa (wpAny_onRaise ?_));show wpAny _ _ (Builtin.SmallTypes.nextOf (.ref i1)>>=_) _ _ _;have j1':cF c1 g1 i1 t k:=j1.at λo e=>b1.extBut _ _ Z.i1z e;have m1':da c1 g1 t ps:=m1.at λo e=>b1.extBut _ _ Z.l1z e;cases hx:ps[k]? with
 |none=>
  refine aa (tD (s:={s with heap:=g1}) hh j1' m1' hx λg2 e b2 he=>?_)
  replace b2:Heap.ExtBut i1 g1 g2:=b2
  obtain⟨oe,he1,he2⟩:=he;have z2:IsZip g2 z TI TO .ellipsis:=b2 _ _ Z.i1z.symm z1;have ne:e≠z:=λq=>by subst q;rw[z2] at he1;cases he1;simp at he2
  exact bA z2 (by simp) λg3 _ b3=>fin g3 e (λb o n1 _ n3 _ q=>b3.extBut _ _ n1 (b2 _ _ n3 (b1.extBut _ _ n1 q))) ⟨oe,b3.extBut _ _ ne he1,he2⟩
 |some x=>
  have hy:qs[k]? =none:=by
   rcases hend with q|q
   ·rw[hx] at q;cases q
   ·exact q
  refine aa (lJ (s:={s with heap:=g1}) j1' m1' hx λg2 j12 b2=>af ?_)
  replace b2:Heap.SameBut i1 g1 g2:=b2
  have o2:IsPair g2 TO c d:=b2.extBut _ _ Z.TOi1 (b1.extBut _ _ Z.TOz gO);refine aa (wpAny_seqItems o2 rfl ?_);refine aa (wpAny_updateSeq_pair o2 λg3 o3 b3=>?_)
  replace b3:Heap.SameBut TO g2 g3:=b3
  refine aa (wpAny_letGo (af (aa (aa (wpAny_onRaise ?_)))));show wpAny _ _ (Builtin.SmallTypes.nextOf (.ref i2)>>=_) _ _ _;have up3:∀b o,b≠z->b≠i1->b≠TO->s.heap.get? b=some o->g3.get? b=some o:=λb o n1 n2 n3 e=>b3.extBut _ _ n3 (b2.extBut _ _ n2 (b1.extBut _ _ n1 e));refine aa (tD (s:={s with heap:=g3}) hh (j2.at λo e=>up3 i2 o Z.i2z Z.i12.symm Z.TOi2.symm e) (m2.at λo e=>up3 l o Z.l2z Z.l2i1 Z.l2TO e) hy λg4 e b4 he=>?_)
  replace b4:Heap.ExtBut i2 g3 g4:=b4
  obtain⟨oe,he1,he2⟩:=he;have z4:IsZip g4 z TI TO .ellipsis:=b4 _ _ Z.i2z.symm (b3.extBut _ _ Z.TOz.symm (b2.extBut _ _ Z.i1z.symm z1));have ne:e≠z:=λq=>by subst q;rw[z4] at he1;cases he1;simp at he2
  exact bA z4 (by simp) λg5 _ b5=>fin g5 e (λb o n1 n2 n3 n4 q=>b5.extBut _ _ n1 (b4 _ _ n4 (up3 b o n1 n3 n2 q))) ⟨oe,b5.extBut _ _ ne he1,he2⟩
theorem rE{TI TO:Addr}{k:Nat}{ps:Array Value}{c:Value}{Q:Option Value->Shared->Prop}(Z:ZipApart z TI TO i1 i2 t l)
  (gz:IsZip s.heap z TI TO .none)(gI:IsPair s.heap TI (.ref i1) (.ref i2))(gO:IsPair s.heap TO c d)(j1:cF c1 s.heap i1 t k)(j2:cF c2 s.heap i2 l k)(m1:da c1 s.heap t ps)(m2:da c2 s.heap l qs)(hx:ps[k]? =some x)(hy:qs[k]? =some y)
  (fin:∀g,IsZip g z TI TO (rawInt s.heap.objs.size)->IsPair g TO x y->cF c1 g i1 t (k+1)->cF c2 g i2 l (k+1)->IsPair g s.heap.objs.size x y->g.objs.size=s.heap.objs.size+1->
   (∀b o,b≠z->b≠TO->b≠i1->b≠i2->s.heap.get? b=some o->g.get? b=some o)->Q (some (.ref s.heap.objs.size)) {s with heap:=g}):wpAny (model prog w) A (pyNext (.ref z)) Q E s:=by
 have ty:s.TypeIs (.ref z) "zip":=⟨_,gz,rfl⟩;unfold pyNext
 exact aa (wpAny_attempt (wpAny_callSpecial?_slot (name:=Str.ofString "__next__") ty F.slot_zip_next (wpAny_call_entry F.slot_zip_next ty F.entry_zip_next
  (rF Z gz gI gO j1 j2 m1 m2 hx hy λg a1 a2 a3 a4 a5 a6 a7=>af (fin g a1 a2 a3 a4 a5 a6 a7)) (F.args_zip_next_1 _))))
theorem rG{TI TO:Addr}{k:Nat}{ps:Array Value}{c:Value}{Q:Option Value->Shared->Prop}(hh:A.handled=none)(Z:ZipApart z TI TO i1 i2 t l)
  (gz:IsZip s.heap z TI TO .none)(gI:IsPair s.heap TI (.ref i1) (.ref i2))(gO:IsPair s.heap TO c d)(j1:cF c1 s.heap i1 t k)(j2:cF c2 s.heap i2 l k)(m1:da c1 s.heap t ps)(m2:da c2 s.heap l qs)(hend:ps[k]? =none∨qs[k]? =none)
  (fin:∀g,(∀b o,b≠z->b≠TO->b≠i1->b≠i2->s.heap.get? b=some o->g.get? b=some o)->Q none {s with heap:=g}):wpAny (model prog w) A (pyNext (.ref z)) Q E s:=by
 have ty:s.TypeIs (.ref z) "zip":=⟨_,gz,rfl⟩;unfold pyNext;refine aa (wpAny_attempt (wpAny_callSpecial?_slot (name:=Str.ofString "__next__") ty F.slot_zip_next (wpAny_call_entry F.slot_zip_next ty F.entry_zip_next (rC hh Z gz gI gO j1 j2 m1 m2 hend λg e hk he=>?_) (F.args_zip_next_1 _))));obtain⟨o,h1,h2⟩:=he;exact aa (wpAny_isInstance (T:= "StopIteration") (b:=true) ⟨o,h1,h2⟩ isSubtype_stop (af (fin _ hk)))
end
noncomputable abbrev zA(c1:Bool)(h:Heap)(t:Addr):Heap:=h.push {cls:= .type (mY c1),data:= .fields #[.ref t,.int 0 0]}
noncomputable abbrev zB(c1 c2:Bool)(h:Heap)(t l:Addr):Heap:=(zA c1 h t).push {cls:= .type (mY c2),data:= .fields #[.ref l,.int 0 0]}
noncomputable abbrev zC(c1 c2:Bool)(h:Heap)(t l:Addr):Heap:=(zB c1 c2 h t l).push {cls:= .type "tuple",data:= .seq #[.ref h.objs.size,.ref (zA c1 h t).objs.size]}
noncomputable abbrev zD(c1 c2:Bool)(h:Heap)(t l:Addr):Heap:=(zC c1 c2 h t l).push {cls:= .type "tuple",data:= .seq #[.none,.none]}
noncomputable abbrev zE(c1 c2:Bool)(h:Heap)(t l:Addr):Heap:=(zD c1 c2 h t l).push {cls:= .type "zip",data:= .fields #[.none,.bool false,.bool false,.ref (zB c1 c2 h t l).objs.size,.ref (zC c1 c2 h t l).objs.size]}
theorem qK(c1 c2:Bool)(t l:Addr)(ps qs:Array Value):Meets (Builtin.«zip.__new__» ⟨[.type "zip",.ref t,.ref l],[]⟩) (λ_ R s=>da c1 s.heap t ps/\da c2 s.heap l qs/\R (.ok (.ret (.ref (zD c1 c2 s.heap t l).objs.size))) {s with heap:=zE c1 c2 s.heap t l}):=
 .of_wp λprog w A R s h=>by
  obtain⟨hp,g,d,tk,os⟩:=s;obtain⟨ht,hl,h⟩:=h;have hsub:=sub_zip;have hT:da c1 (Shared.heap ⟨hp,g,d,tk,os⟩) t ps:=ht;have hL:da c2 (Shared.heap ⟨hp.push {cls:= .type (mY c1),data:= .fields #[.ref t,.int 0 0]},g,d,tk,os⟩) l qs:=hl.at λo e=>ae _ e
  wp_walk using pX hT,pX hL
  exact⟨_,rfl,h⟩
theorem ul{prog:Program}{w:World}{A:Around}{E:Value->Shared->Prop}{s:Shared}{ps:Array Value}(ht:da c1 s.heap t ps)(hl:da c2 s.heap l qs)
  (fin:∀g,IsZip g (s.heap.objs.size+4) (s.heap.objs.size+2) (s.heap.objs.size+3) .none->IsPair g (s.heap.objs.size+2) (.ref s.heap.objs.size) (.ref (s.heap.objs.size+1))->IsPair g (s.heap.objs.size+3) .none .none->
   cF c1 g s.heap.objs.size t 0->cF c2 g (s.heap.objs.size+1) l 0->(∀b o,s.heap.get? b=some o->g.get? b=some o)->Q (.ref (s.heap.objs.size+4)) {s with heap:=g}):
  wpAny (model prog w) A (call (.type "zip") [.ref t,.ref l]) Q E s:=by
 refine callType_new F.called_zip (by decide) (F.typeCall_zip_2 _ _) (F.newCall_zip_2 _ _) (λobj=>F.args_object_init_3 obj _ _) F.entry_zip_new (qK c1 c2 t l ps qs) ⟨ht,hl,?_⟩
 have n1:(zA c1 s.heap t).objs.size=s.heap.objs.size+1:=Heap.size_push ..;have n2:(zB c1 c2 s.heap t l).objs.size=s.heap.objs.size+2:=by rw[Heap.size_push,n1]
 have n3:(zC c1 c2 s.heap t l).objs.size=s.heap.objs.size+3:=by rw[Heap.size_push,n2]
 have n4:(zD c1 c2 s.heap t l).objs.size=s.heap.objs.size+4:=by rw[Heap.size_push,n3]
 have c5:(zE c1 c2 s.heap t l).get? (zD c1 c2 s.heap t l).objs.size=some _:=am _ rfl;have c4:(zE c1 c2 s.heap t l).get? (zC c1 c2 s.heap t l).objs.size=some _:=ae _ (am _ rfl);have c3:(zE c1 c2 s.heap t l).get? (zB c1 c2 s.heap t l).objs.size=some _:=ae _ (ae _ (am _ rfl));have d2:(zE c1 c2 s.heap t l).get? (zA c1 s.heap t).objs.size=some _:=ae _ (ae _ (ae _ (am _ rfl)));have d1:(zE c1 c2 s.heap t l).get? s.heap.objs.size=some _:=ae _ (ae _ (ae _ (ae _ (am _ rfl))));show _/\_;rw[n2,n3,n4] at c5;rw[n1,n2] at c3;rw[n3] at c4;rw[n1] at d2;rw[n4]
 exact⟨⟨_,c5,rfl⟩,fin _ c5 c3 c4 (.new d1) (.new d2) λb o q=>
  ae _ (ae _ (ae _ (ae _ (ae _ q))))⟩
end PySem
namespace L2
open PySem PySem.Spec PyProof.Rows
variable{pins:List (Addr×Obj)}{a b i1 i2 t z:Addr}{c c1 c2:Bool}{elts:List Expr}
theorem Inv.turns{X:Cx}{σ:St}{H:Hp}{s:Shared}{h':Heap}{t':Nat}{fp:List Addr}(I:Inv X pins σ H s)(hf:∀b∈fp,ei X pins H b)
  (k:∀b o,b∉fp->s.heap.get? b=some o->h'.get? b=some o):Inv X pins σ H {s with heap:=h',toks:=t'}:=by
 have nit:∀b u,H b=some u->b∉fp:=λb u e z=>by rw[(hf b z).1] at e;cases e
 refine I.step (g':=s.gens) (d':=s.drawn) (ch:=fp) (λb hb=>?_) (λb o _ _ hc e _=>k b o hc e) (λb o _ _ hc e _=>⟨o.slots,k b o hc e⟩) (λb o _ e n=>n)
  (λb o hc e=>⟨o,k b o hc e⟩) (λb ys e=>e) (λb o u e=>e) (λb ps e=>⟨#[],by rw[e];simp⟩) (λm hm=>?_) (λb u e=>?_) I.bare
 ·obtain⟨f0,f1,f2,f3,f4,f5⟩:=hf b hb;exact⟨f3,f1,f4,f5⟩
 ·obtain⟨o,es,ep,ho,r⟩:=hm;exact⟨o,es,ep,k _ o (λz=>(hf _ z).2.1 rfl) ho,r⟩
 ·refine(I.hok b u e).stay (λc v hc q=>k c v ?_ q) (λc q=>q) λc ys q=>q;rcases hc with z|z
  ·rw[z];exact nit b u e
  ·exact nit c _ z
noncomputable def j5(K:av):Bool->Hp->Addr->List V->Prop
 |true,H,a,xs=>fW K H a xs
 |false,H,a,xs=>f6 K H a xs
theorem j5.inv{X:Cx}{σ:St}{H:Hp}{s:Shared}{xs:List V}(I:Inv X pins σ H s)(h:j5 X.K c H a xs):∃its:List Value,bm xs its/\da c s.heap a its.toArray:=by
 cases c
 ·obtain⟨its,rv,p,_⟩:=I.tuple h;exact⟨its,rv,(show s.heap.IsTuple a its.toArray from p)⟩
 ·obtain⟨its,rv,p,_⟩:=I.list h;exact⟨its,rv,p.isList⟩
theorem j5.inj{X:Cx}{σ:St}{H:Hp}{s:Shared}{xs ys:List V}(I:Inv X pins σ H s)(h:j5 X.K c H a xs)(h':j5 X.K c H a ys):xs=ys:=by
 cases c
 ·exact I.tuple_inj h h'
 ·exact I.list_inj h h'
noncomputable def BE(K:av)(c1 c2:Bool)(a b:Addr):It:=
 ⟨λi H=>∃xs ys x y,j5 K c1 H a xs/\j5 K c2 H b ys/\xs[i]? =some x/\ys[i]? =some y,
  λi H v H'=>∃p x y,v=.ref p/\H p=none/\H'=bE H p (.tup [x,y])/\(∀xs,j5 K c1 H a xs->xs[i]? =some x)/\∀ys,j5 K c2 H b ys->ys[i]? =some y,
  λi H=>∃xs ys,j5 K c1 H a xs/\j5 K c2 H b ys/\(xs.length<=i∨ys.length<=i)⟩
noncomputable def y3(c1 c2:Bool)(z TI TO i1 i2 a b:Addr)(i:Nat)(h:Heap):Prop:=IsZip h z TI TO .none/\IsPair h TI (.ref i1) (.ref i2)/\(∃c d,IsPair h TO c d)/\cF c1 h i1 a i/\cF c2 h i2 b i
theorem oZ{TI TO:Addr}{i:Nat}{h:Heap}(q:y3 c1 c2 z TI TO i1 i2 a b i h):∀x∈[z,TI,TO,i1,i2],∃o,h.get? x=some o/\∀v,o.data≠ .cell v:=by
 obtain⟨q1,q2,⟨c,d,q3⟩,q4,q5⟩:=q;intro x hx;simp only[List.mem_cons,List.not_mem_nil,or_false] at hx;rcases hx with rfl|rfl|rfl|rfl|rfl
 ·exact⟨_,q1,λv z=>by have z':Data.fields _=Data.cell v:=z;cases z'⟩
 ·exact⟨_,q2,λv z=>by have z':Data.seq _ _=Data.cell v:=z;cases z'⟩
 ·exact⟨_,q3,λv z=>by have z':Data.seq _ _=Data.cell v:=z;cases z'⟩
 ·exact q4.obj
 ·exact q5.obj
theorem rW{P:Program}{w:World}{K:av}{k:Nat}{pos:Pos}{TI TO:Addr}(Z:ZipApart z TI TO i1 i2 a b):Turn P w K (.Tuple elts k pos) (BE K c1 c2 a b) [z,TI,TO,i1,i2] z (y3 c1 c2 z TI TO i1 i2 a b) where
 mem:=by simp
 obj:=λi h st x hx=>oZ st x hx
 keep:=λi h h' ⟨q1,q2,⟨c,d,q3⟩,q4,q5⟩ kk=>⟨kk z (by simp) _ q1,kk TI (by simp) _ q2,⟨c,d,kk TO (by simp) _ q3⟩,q4.at λo q=>kk i1 (by simp) o q,q5.at λo q=>kk i2 (by simp) o q⟩
 item:=by
  intro X hP hw hK hc i pins s σ H E I hf st hg;subst hP hw hK;have live:=oZ st;obtain⟨q1,q2,⟨c,d,q3⟩,q4,q5⟩:=st;obtain⟨xs,ys,x,y,hq,hr,hx,hy⟩:=hg;obtain⟨its,rv,p⟩:=j5.inv I hq;obtain⟨jts,rw',p'⟩:=j5.inv I hr;obtain⟨u,hu,ru⟩:=rv.get hx;obtain⟨v,hv,rv'⟩:=rw'.get hy;refine rE Z q1 q2 q3 q4 q5 p p' (x:=u) (y:=v) (by simpa using hu) (by simpa using hv) λg a1 a2 a3 a4 a5 a6 a7=>?_
  refine⟨_,rfl,wpAny_letOwnedTupleGo_zip a1 λh2 b1 b2=>?_⟩
  replace b2:Heap.SameBut z g h2:=b2
  have lt:∀{x:Addr},x∈[z,TI,TO,i1,i2]->x<s.heap.objs.size:=λhx=>by obtain⟨o,e,_⟩:=live _ hx;exact al e
  have ltz:z<s.heap.objs.size:=lt (by simp)
  have hn:H s.heap.objs.size=none:=I.hok.fresh (ah _);have t2:IsPair h2 s.heap.objs.size u v:=b2.extBut _ _ (bC ltz) a5
  have I2:Inv X pins σ (bE H s.heap.objs.size (.tup [x,y])) {s with heap:=h2,toks:=s.toks}:=by
   refine I.turnLaid (fp:=[z,TI,TO,i1,i2]) hf (λe o he q=>?_) (ah _) ⟨(by show 2<=sizeLine;decide),[u,v],.cons ru (.cons rv' .nil),?_⟩
   ·simp only[List.mem_cons,List.not_mem_nil,or_false,not_or] at he;exact b2.extBut _ _ he.1 (a7 e o he.1 he.2.2.1 he.2.2.2.1 he.2.2.2.2 q)
   ·exact⟨_,t2,⟨rfl,rfl⟩,_,rfl⟩
  refine⟨.ref s.heap.objs.size,_,I2,rfl,⟨_,x,y,rfl,hn,rfl,λys hy=>by rw[j5.inj I hy hq];exact hx,λys' hy'=>by rw[j5.inj I hy' hr];exact hy⟩,⟨b1,b2.extBut _ _ Z.TIz (a7 _ _ Z.TIz Z.TITO Z.TIi1 Z.TIi2 q2),⟨u,v,b2.extBut _ _ Z.TOz a2⟩,a3.at λo q=>b2.extBut _ _ Z.i1z q,a4.at λo q=>b2.extBut _ _ Z.i2z q⟩,λe he=>?_⟩
  rw[aE (ao (lt he))];exact(hf e he).1
 done:=by
  intro X hP hw hK hc i pins s σ H E I hf st hg;subst hP hw hK;obtain⟨q1,q2,⟨c,d,q3⟩,q4,q5⟩:=st;obtain⟨xs,ys,hq,hr,hx⟩:=hg;obtain⟨its,rv,p⟩:=j5.inv I hq;obtain⟨jts,rw',p'⟩:=j5.inv I hr;have l1:=rv.length;have l2:=rw'.length;refine rG (I.ok.hd hc) Z q1 q2 q3 q4 q5 p p' (hx.imp (λq=>by simp;omega) λq=>by simp;omega) λg hk=>⟨rfl,I.turns (t':=s.toks) (fp:=[z,TI,TO,i1,i2]) hf λe o he q=>?_⟩
  simp only[List.mem_cons,List.not_mem_nil,or_false,not_or] at he;exact hk e o he.1 he.2.2.1 he.2.2.2.1 he.2.2.2.2 q
 self:=λ_ _ _ _ _ st h=>wpAny_pyIter_zip st.1 h
noncomputable def Br(K:av)(tl:TA):TI:=λσ H R=>tl σ H λvs H1=>∃c1 c2 a b,vs=[.ref a,.ref b]/\(∃xs,j5 K c1 H1 a xs)/\(∃ys,j5 K c2 H1 b ys)/\R (BE K c1 c2 a b) H1
theorem xB{X:Cx}{k:Nat}{tp:Pos}{a b:Expr}{ta:TA}{p pos:Pos}(hg:Gl X "zip")(hm:X.mg "zip"=none)(ha:PA X [a,b] ta)(hs:starEach [a,b] X.env=(false,eval a X.env)::starEach [b] X.env)(hs2:starEach [b] X.env=[(false,eval b X.env)]):
  PI X (.Tuple elts k tp) (.Call (.Name "zip" p) [a,b] [] pos) (Br X.K ta):=by
 intro pins s σ H R I h;refine Call_ (iq I hg hm boot_zip (bu (bU (ha pos pins s σ H _ I h) λus s1 ⟨vs,H1,I1,r1,q1⟩=>?_) hs (by rw[hs2];rfl)))
 obtain⟨c1,c2,a,b,e,⟨xs,hq⟩,⟨ys,hr⟩,q⟩:=q1;subst e;cases r1 with
 |cons r rr=>
  cases rr with
  |cons r' rr=>
   cases rr;cases r;cases r';obtain⟨its,rv,pt⟩:=j5.inv I1 hq;obtain⟨jts,rw',pl⟩:=j5.inv I1 hr;refine ul pt pl λg d1 d2 c3 c4 c5 hk=>?_;refine wpAny_pyIter_zip d1 ?_;have la:=pt.lt;have lb:=pl.lt;refine⟨_,[s1.heap.objs.size+4,s1.heap.objs.size+2,s1.heap.objs.size+3,s1.heap.objs.size,s1.heap.objs.size+1],_,_,H1,rfl,I1.kept (t':=s1.toks) hk,rW (PyProof.Rows.zipApart_new la lb),⟨d1,d2,⟨_,_,c3⟩,c4,c5⟩,λe he=>?_,q⟩
   have he':s1.heap.objs.size<=e:=by simp only[List.mem_cons,List.not_mem_nil,or_false] at he;rcases he with rfl|rfl|rfl|rfl|rfl<;>omega
   exact I1.fpOk he' (I1.hok.fresh he')
section
variable{prog:Program}{w:World}{A:Around}{E:Value->Shared->Prop}{s:Shared}
theorem kG{it t:Addr}{items:Array Value}(hne:t≠it):∀(n i:Nat)(s:Shared)(Q:List Value->Shared->Prop),s.heap.IsListIter it t i->s.heap.IsList t items->i+n<=items.size->
  (∀h',h'.IsListIter it t (i+n)->Heap.SameBut it s.heap h'->Q ((items.toList.drop i).take n) {s with heap:=h'})->wpAny (model prog w) A (draw (.ref it) n) Q E s
 |0,i,s,Q,hit,_,_,hQ=>by
  show wpAny _ _ (pure []) Q E s;exact af (by simpa using hQ s.heap hit (Heap.SameBut.refl ..))
 |n+1,i,s,Q,hit,ht,hle,hQ=>by
  have hlt:i<items.size:=by omega
  show wpAny _ _ (pyNext (.ref it)>>=_) Q E s;refine aa (wpAny_pyNext_list_item hit ht (x:=items[i]) (by simp[hlt]) λh₁ hit₁ hs₁=>?_)
  replace hs₁:Heap.SameBut it s.heap h₁:=hs₁
  refine aa (wpAny_holding (kG hne n (i+1) _ _ hit₁ (ht.at λo e=>(hs₁.2 t hne).trans e) (by omega) λh₂ hit₂ hs₂=>af ?_))
  have hd:items.toList.drop i=items[i]::items.toList.drop (i+1):=by simp[List.drop_eq_getElem_cons,hlt]
  have:=hQ h₂ (by rw[show i+(n+1)=i+1+n by omega];exact hit₂) (hs₁.trans hs₂)
  rw[hd,List.take_succ_cons] at this;exact this
theorem hZ{items:Array Value}{Q:List Value->Shared->Prop}(hh:A.handled=none)(ht:s.heap.IsList t items)
  (hQ:∀h',Heap.ExtBut s.heap.objs.size s.heap h'->Q items.toList {s with heap:=h'}):wpAny (model prog w) A (unpackItems (.ref t) items.size none) Q E s:=by
 have hlt:t≠s.heap.objs.size:=by obtain⟨o,ho,_⟩:=ht;exact ao (al ho)
 unfold unpackItems;refine aa ?_
 ·unfold notIterableAtAll;refine aa (wpAny_specialOf ht.typeIs slot_list_iter.lookup ?_);refine af ?_;simp only[Bool.false_eq_true,if_false];refine aa (wpAny_holding (wpAny_pyIter_list ht ?_));refine aa (wpAny_holding (kG hlt items.size 0 _ _ ⟨_,am _ rfl,rfl,rfl⟩ (ht.at λo e=>ae _ e) (by omega) λh₁ hit₁ hs₁=>?_))
  have hall:List.take items.size (List.drop 0 items.toList)=items.toList:=by
   rw[List.drop_zero];exact List.take_of_length_le (by simp)
  rw[hall];rw[if_neg (by simp)]
  have ht₁:h₁.IsList t items:=ht.at λo e=>(hs₁.2 t hlt).trans (ae _ e);refine aa (wpAny_holding (wpAny_pyNext_list_end hh hit₁ ht₁ (by simp) λh₂ he₂=>?_))
  simp only[Option.isSome_none,Bool.false_eq_true,if_false];refine af (hQ h₂ λb o hb e=>he₂ b o hb (hs₁.extBut b o hb (ae _ e)))
theorem hV{env:Env}{x1}{pos:Pos}{items:Array Value}{Q:Unit->Shared->Prop}(hh:A.handled=none)(ht:s.heap.IsList t items)
  (hn:(assignEach elts env).length=items.size)(hstar:(assignEach elts env).findIdx? (·.1)=none)
  (h:∀h',Heap.ExtBut s.heap.objs.size s.heap h'->wpAny (model prog w) A (assignInOrder ((assignEach elts env).map (·.2)) items.toList) Q E {s with heap:=h'}):
  wpAny (model prog w) A (assign (.Tuple elts x1 pos) env (.ref t)) Q E s:=by
 rw[assign_Tuple];refine aa (wpAny_standAt ?_);unfold unpack;rw[hn,hstar];exact aa (wpAny_holding (hZ hh ht h))
end
section
variable{X:Cx}{pos:Pos}
noncomputable def Af(K:av)(n:Nat)(t:uG):TG:=λv σ H Q=>∃a xs,v=.ref a/\(fW K H a xs∨f6 K H a xs)/\xs.length=n/\t xs σ H Q
theorem oA{es:List Expr}{k:Nat}{t:uG}{n:Nat}(hc:X.calm=true)(h:yW X es t)
  (hn:(assignEach es X.env).length=n)(hst:(assignEach es X.env).findIdx? (·.1)=none):PG X (.Tuple es k pos) (Af X.K n t):=by
 intro pins s σ H v u Q I r hw;obtain⟨a,xs,e1,hq,hl,hw⟩:=hw;subst e1;cases r;rcases hq with hq|hq
 ·obtain⟨its,rv,ht,hz⟩:=I.list hq;refine hV (I.ok.hd hc) ht.isList (by simp[hn,<-hl,rv.length]) hst λh' hx=>?_
  have I1:Inv X pins σ H {s with heap:=h'}:=I.kept (t':=s.toks) λb o e=>hx b o (ao (al e)) e;exact h pins _ σ H xs _ Q I1 (by simpa using rv) hw
 ·obtain⟨its,rv,ht,hz⟩:=I.tuple hq;refine assign_Tuple_tuple (I.ok.hd hc) ht (by simp[hn,<-hl,rv.length]) hst λh' hx=>?_
  have I1:Inv X pins σ H {s with heap:=h'}:=I.kept (t':=s.toks) λb o e=>hx b o (ao (al e)) e;exact h pins _ σ H xs _ Q I1 (by simpa using rv) hw
end
theorem mB{k:Key}:∀{xs:List (Key×V)}{p:Key×V},dX xs k=none->¬p.1=k->dX (xs++[p]) k=none
 |[],p,_,h=>by rw[List.nil_append,du h];rfl
 |q::xs,p,h,hp=>by
  by_cases e:q.1=k
  ·rw[fk e] at h;cases h
  ·rw[du e] at h;rw[List.cons_append,du e];exact mB h hp
theorem iJ:∀(more kvs:List (Key×V)),(more.map (·.1)).Nodup->(∀k∈more.map (·.1),dX kvs k=none)->fq kvs more=kvs++more
 |[],kvs,_,_=>by show kvs=kvs++[];simp
 |p::r,kvs,hn,hd=>by
  rw[List.map_cons,List.nodup_cons] at hn;show fq (putK kvs p.1 p.2) r=_;rw[sC p.2 (hd p.1 (by simp)),iJ r (kvs++[(p.1,p.2)]) hn.2 λk hk=>?_]
  ·simp
  ·refine mB (hd k (by simp[List.mem_map] at hk ⊢;exact .inr hk)) λe=>hn.1 (by rw[show p.1=k from e];exact hk)
end L2
namespace PySem.W
open PySem PySem.Calls PyProof.Rows
theorem sw{n i:Nat}(h:i<n):(List.toArray (List.range n)).getD i 0=i:=by simp[Array.getD,h]
theorem ur{cmp:Nat->Nat->(Bool->Shared->Prop)->Shared->Prop}{n:Nat}{s:Shared}{Q:Nat->Shared->Prop}(hc:∀i C,i+1<n->C false s->cmp (i+1) i C s)(h:Q n s):
  ∀f k,1<=k->k+f=n->(kas_asc (List.toArray (List.range n)) f k).kasWp cmp Q s
 |0,k,_,e=>by
  have:k=n:=by omega
  subst this;exact h
 |f+1,k,h1,e=>by
  obtain⟨j,rfl⟩:∃j,k=j+1:=⟨k - 1,by omega⟩
  show cmp ((List.toArray (List.range n)).getD (j+1) 0) ((List.toArray (List.range n)).getD (j+1 - 1) 0) (λb s'=>(if b=true then KasT.ret (j+1) else kas_asc (List.toArray (List.range n)) f (j+1+1)).kasWp cmp Q s') s
  rw[sw (by omega),Nat.add_sub_cancel,sw (by omega)]
  refine hc j _ (by omega) ?_
  rw[if_neg (by decide)]
  exact ur hc h f (j+2) (by omega) (by omega)
theorem uV{cmp:Nat->Nat->(Bool->Shared->Prop)->Shared->Prop}{n:Nat}{s:Shared}{Q:Array Nat->Shared->Prop}(h1:1<=n)(hc:∀i C,i+1<n->C false s->cmp (i+1) i C s)(h:Q (List.toArray (List.range n)) s):(kas_sort n).kasWp cmp Q s:=by
 unfold kas_sort;rw[KasT.kasWp_bind];unfold kas_count;rw[KasT.kasWp_bind];refine ur hc ?_ (n - 1) 1 (ah _) (by omega)
 rw[if_pos (by simp)]
 show(if n<n then _ else KasT.ret (List.toArray (List.range n)):KasT (Array Nat)).kasWp cmp Q s
 rw[if_neg (bF _)];exact h
section
variable{prog:Program}{w:World}{A:Around}{E:Value->Shared->Prop}{s:Shared}
theorem oneLt_int{i j:Int}{t u:Tok}{Q:Bool->Shared->Prop}(h:Q (decide (i<j)) s):wpAny (model prog w) A (oneLt' true (.int i t) (.int j u)) Q E s:=kat_lt_int h
theorem tf{a:Addr}{vs:List Value}{n:Nat}{ks:List (Int×Tok×Value)}{P:PySem.Fin->Shared->Prop}(ho:s.heap.get? a=some (seqObj "list" vs.toArray n))(h64:vs.length<64)(hl:vs.length=ks.length)
  (hv:∀(j:Nat)(v:Value)(k:Int×Tok×Value),vs[j]? =some v->ks[j]? =some k->∃x o m,v=.ref x/\x≠a/\s.heap.get? x=some o/\o.cls=.type "tuple" /\o.data=.seq #[.int k.1 k.2.1,k.2.2] m)
  (up:ks.Pairwise λx y=>x.1<y.1)
  (h:∀h' c,(∀b o,b≠a->s.heap.get? b=some o->h'.get? b=some o)->h'.get? a=some (seqObj "list" vs.toArray c)->P (.done (.ret .none)) {s with heap:=h'}):
  wpAny (model prog w) A (Builtin.«list.sort» ⟨[.ref a],[]⟩) P E s:=by
 have ha:a<s.heap.objs.size:=al ho;rw[list_sort_plain];refine aa (listItems_at ho rfl ?_);refine aa (listUpdate_at ho rfl ?_ (by rw[List.size_toArray,sizeLine_eq];omega) (Nat.zero_le _))
 obtain⟨e1,ho1⟩:∃e1,(s.heap.update a (Obj.mapSeq λ_=> #[])).get? a=some (seqObj "list" #[] e1):=⟨_,get?_update_seq ho (λ_=> #[])⟩;refine aa (seqEpoch_at ho1 rfl ?_);refine aa (wpAny_newTuple ?_ (by show vs.length<=_;rw[sizeLine_eq];omega))
 refine aa (wpAny_newList ?_ (Nat.zero_le _));refine wpAny_holding ?_;show wpAny (model prog w) A _ P E {s with heap:=((s.heap.update a (Obj.mapSeq λ_=> #[])).push (seqObj "tuple" vs.toArray 0)).push (seqObj "list" #[] 0)};generalize hz:((s.heap.update a (Obj.mapSeq λ_=> #[])).push (seqObj "tuple" vs.toArray 0)).push (seqObj "list" #[] 0)=hh
 have kept:∀b o,b≠a->s.heap.get? b=some o->hh.get? b=some o:=λb o hb e=>by
  rw[<-hz];exact ae _ (ae _ (by rw[Heap.get?_update_ne _ _ _ _ hb];exact e))
 have ho6:hh.get? a=some (seqObj "list" #[] e1):=by rw[<-hz];exact ae _ (ae _ ho1)
 dsimp only
 have fin:wpAny (model prog w) A (do
   Builtin.List.listUpdate (.ref a) λ_=>vs.toArray
   ret .none) P E {s with heap:=hh}:=by
  refine aa (listUpdate_at ho6 rfl ?_ (Nat.zero_le _) (by rw[List.size_toArray,sizeLine_eq];omega))
  refine af (h _ _ (λb o hb e=>?_) (get?_update_seq ho6 λ_=>vs.toArray));rw[Heap.get?_update_ne _ _ _ _ hb];exact kept b o hb e
 by_cases h2:vs.toArray.size<2
 ·rw[if_pos h2,if_pos h2];refine aa (af ?_);rw[StateT.run_pure];refine aa (af ?_);dsimp only;refine aa (seqEpoch_at ho6 rfl ?_)
  rw[show(arrOf (SortSt.mk' general' (vs.toArray.zip vs.toArray) #[] 7 none)).map (·.2)=vs.toArray from by show((vs.toArray.zip vs.toArray).map (·.2))=_;apply Array.toList_inj.mp;rw[Array.toList_map,Array.toList_zip];exact List.map_snd_zip (ah _)]
  simp only[bne_self_eq_false,Bool.false_eq_true,if_false];exact fin
 ·rw[if_neg h2,if_neg h2];rw[List.size_toArray] at h2;have h2':2<=vs.length:=by omega
  have tups:∀(ws:List Value)(js:List (Int×Tok×Value)),ws.length=js.length->(∀(j:Nat)(v:Value)(k:Int×Tok×Value),ws[j]? =some v->js[j]? =some k->∃x o m,v=.ref x/\x≠a/\s.heap.get? x=some o/\o.cls=.type "tuple" /\o.data=.seq #[.int k.1 k.2.1,k.2.2] m)->KatTups hh ws (js.map λk=>Value.int k.1 k.2.1):=by
   intro ws
   induction ws with
   |nil=>intro js e _;cases js with
    |nil=>exact KatTups.nil
    |cons=>simp at e
   |cons w0 ws ih=>intro js e hq;cases js with
    |nil=>simp at e
    |cons k js=>
     obtain⟨x,o,m,rfl,hx,ho,hc,hd⟩:=hq 0 w0 k rfl rfl;exact KatTups.cons (kept x o hx ho) hc hd rfl (ih js (by simpa using e) λj v k' q1 q2=>hq (j+1) v k' (by simpa using q1) (by simpa using q2))
  refine aa (kat_kind (T:= .type "int") (tups vs ks hl hv) (by rw[List.length_map];omega) (λv hv'=>?_) rfl ?_)
  ·obtain⟨k,_,rfl⟩:=List.mem_map.mp hv';exact Looks.now
  refine aa (aQ (kat_run (Q:=λst' s'=>s'={s with heap:=hh}/\(arrOf st').map (·.2)=vs.toArray/\failedOf st'=none) (G:=λp s'=>s'={s with heap:=hh}/\p=List.toArray (List.range vs.length)) rfl h2' h64 (λp st' s' a1 a2 a3 a4=>?_) (uV (by omega) (λi C hi hC=>?_) ⟨rfl,rfl⟩)) (λr s' hr=>?_) λ_ _ x=>x)
  ·obtain⟨rfl,rfl⟩:=a4;refine⟨rfl,?_,a3⟩;rw[kat_snds rfl a2];apply congrArg;apply List.ext_getElem?;intro j;rw[aB];simp only[List.getElem?_range'];by_cases hj:j<vs.length
   ·simp[hj]
   ·simp[hj]
  ·show wpAny (model prog w) A (keyLt' _ (vs.getD (i+1) Value.none) (vs.getD i Value.none)) C (λ_ _=>False) {s with heap:=hh};have i1:i<vs.length:=by omega
   have k0:ks[i]? =some (ks[i]'(by omega)):=by simp
   have k1:ks[i+1]? =some (ks[i+1]'(by omega)):=by simp
   obtain⟨x,o,m,e1',hx,hox,_,hd⟩:=hv i vs[i] _ (by simp) k0
   obtain⟨y,o2,m2,e2',hy,hoy,_,hd2⟩:=hv (i+1) (vs[i+1]'(by omega)) _ (by simp) k1
   rw[show vs.getD (i+1) Value.none=vs[i+1]'(by omega) by simp[hi],show vs.getD i Value.none=vs[i] by simp[i1],e1',e2']
   have hlt:=List.pairwise_iff_getElem.mp up i (i+1) (by omega) (by omega) (by omega)
   refine kat_lt (kept y o2 hy hoy) hd2 (kept x o hx hox) hd (kat_cons (wpAny_eqBool_int ?_));rw[show((ks[i+1]'(by omega)).1==(ks[i]'(by omega)).1)=false by simp;omega]
   refine kat_no (oneLt_int ?_);rw[show decide ((ks[i+1]'(by omega)).1<(ks[i]'(by omega)).1)=false by simp;omega]
   exact hC
  ·obtain⟨⟨⟩,st'⟩:=r;obtain⟨rfl,q1,q2⟩:=hr;dsimp only;refine aa (seqEpoch_at ho6 rfl ?_);dsimp only at q1 q2;rw[q1,q2];simp only[bne_self_eq_false,Bool.false_eq_true,if_false];exact fin
theorem lh{K:Type}[DecidableEq K]{knd:PySem.KeyKind prog w K}{r d:Addr}{kvs:List (K×Value)}{ep:Nat}{ns:List Int}{Q:Value->Shared->Prop}(hh:A.handled=none)(hv:s.heap.IsItemsView r d)(hm:s.heap.DictAt knd d kvs ep)(h64:kvs.length<64)
  (hk:∀(j:Nat)(k:K)(x key:Value),kvs[j]? =some (k,x)->knd.is k key=true->∃n t,ns[j]? =some n/\key=.int n t)(hn:ns.length=kvs.length)(up:ns.Pairwise (· < ·))
  (h:∀(h':Heap)(tk:Nat)(B:Addr)(c:Nat) (as:List Addr),(∀b o,s.heap.get? b=some o->h'.get? b=some o)->as.length=kvs.length->(∀b,b∈as->s.heap.get? b=none/\b≠B)->as.Nodup->s.heap.get? B=none->h'.get? B=some (seqObj "list" (as.map Value.ref).toArray c)->
   (∀(j:Nat)(a:Addr)(n:Int)(k:K)(x:Value),as[j]? =some a->ns[j]? =some n->kvs[j]? =some (k,x)->∃t,h'.get? a=some {cls:= .type "tuple",data:= .seq #[.int n t,x]})->Q (.ref B) {s with heap:=h',toks:=tk}):
  wpAny (model prog w) A (call (.builtin "sorted") [.ref r]) Q E s:=by
 refine call_function_entry kind_sorted plain_sorted entry_sorted (args_sorted1 _) ?_;unfold Builtin.«sorted»;refine aa (m:=checkCount "sorted" 1 1 _) (af ?_);refine aa (kdx_collect (A:=A.in1) hh hv hm (by rw[sizeLine_eq];omega) λh' tk as hkp hl hG=>?_)
 refine aa (wpAny_newList ?_ (by rw[List.length_map,sizeLine_eq];omega))
 show wpAny _ _ _ _ _ {s with heap:=h'.push (seqObj "list" (as.map Value.ref).toArray 0),toks:=tk};have hB:(h'.push (seqObj "list" (as.map Value.ref).toArray 0)).get? h'.objs.size=some (seqObj "list" (as.map Value.ref).toArray 0):=am _ rfl
 have hB0:s.heap.get? h'.objs.size=none:=by
  cases e:s.heap.get? h'.objs.size with
  |none=>rfl
  |some o=>exact absurd (al (hkp _ _ e)) (bF _)
 have pr:∀j (hj:j<kvs.length),∃t,h'.get? (as[j]'(by omega))=some {cls:= .type "tuple",data:= .seq #[.int (ns[j]'(by omega)) t,(kvs[j]).2]}:=λj hj=>by
  obtain⟨key,k,x,e1,e2,e3⟩:=hG.pairs j (as[j]'(by omega)) (by simp)
  obtain⟨n,t,e4,rfl⟩:=hk j k x key e1 e2;have e5:kvs[j]=(k,x):=by rw[aC hj] at e1;exact ai e1
  have e6:ns[j]'(by omega)=n:=by rw[aC (by omega)] at e4;exact ai e4
  exact⟨t,by rw[e5,e6];exact e3⟩
 have nB:∀b,b∈as->b≠h'.objs.size:=λb hb=>ao (hG.there hb);refine aa (wpAny_holding (wpAny_call_entry slot_list_sort ⟨_,hB,rfl⟩ entry_list_sort (tf (ks:=(List.range kvs.length).map λj=>(ns.getD j 0,if hj:j<kvs.length then Classical.choose (pr j hj) else 0,(kvs[j]?.map (·.2)).getD .none)) hB (by rw[List.length_map];omega) (by simp;omega) (λj v k q1 q2=>?_) ?_ λh2 c hk2 hB2=>⟨_,rfl,?_⟩) (args_list_sort _)))
 ·rw[aB] at q1 q2;cases q3:as[j]? with
  |none=>rw[q3] at q1;cases q1
  |some a=>
   rw[q3] at q1;cases q1;have hj:j<kvs.length:=by rw[<-hl];exact(au q3).1
   rw[List.getElem?_range hj] at q2;cases q2;have hc:=Classical.choose_spec (pr j hj);have ea:as[j]'(by omega)=a:=by rw[aC (by omega)] at q3;exact ai q3
   subst ea;refine⟨_,_,0,rfl,nB _ (ak q3),ae _ hc,rfl,?_⟩;simp[hj,hn]
 ·rw[List.pairwise_map];refine List.Pairwise.imp_of_mem (R:=(· < ·)) (λ{i j} hi hj hij=>?_) List.pairwise_lt_range;have hi:=List.mem_range.mp hi;have hj:=List.mem_range.mp hj;have:=List.pairwise_iff_getElem.mp up i j (by omega) (by omega) hij
  simpa[hn,hi,hj] using this
 ·refine af ⟨_,rfl,h h2 tk h'.objs.size c as (λb o e=>hk2 b o (λz=>?_) (ae _ (hkp b o e))) hl (λb hb=>⟨Heap.get?_none_of_le (Nat.le_of_lt (hG.above b hb)),nB b hb⟩) (hG.rise.imp λq=>ao q) hB0 hB2 λj a n k x q1 q2 q3=>?_⟩
  ·subst z;rw[hB0] at e;cases e
  ·have hj:j<kvs.length:=(au q3).1;obtain⟨t,ht⟩:=pr j hj;have ea:as[j]'(by omega)=a:=by rw[aC (by omega)] at q1;exact ai q1
   have en:ns[j]'(by omega)=n:=by rw[aC (by omega)] at q2;exact ai q2
   have ex:kvs[j]=(k,x):=by rw[aC hj] at q3;exact ai q3
   rw[ea,en,ex] at ht;exact⟨t,hk2 a _ (nB a (ak q1)) (ae _ ht)⟩
end
end PySem.W
namespace L2
open PySem PySem.Spec PyProof.Rows
section
variable{X:Cx}{pins:List (Addr×Obj)}{σ:St}{H H':Hp}{s:Shared}{h':Heap}
theorem Inv.grown{t':Nat}(I:Inv X pins σ H s)(k:∀b u,s.heap.get? b=some u->h'.get? b=some u)(hE:∀b u,H b=some u->H' b=some u)(hF:∀b o,s.heap.get? b=some o->H b=none->H' b=none)
  (hN:∀b u,H' b=some u->H b=none->bM X.prog X.w H' h' b u):Inv X pins σ H' {s with heap:=h',toks:=t'}:=by
 refine I.un ⟨λb o q _ _ _=>k b o q,λb o q _ _ _=>⟨o.slots,k b o q⟩,λb o q n _=>hF b o q n,λb o q _=>⟨o,k b o q⟩,λb xs q=>hE b _ q,λb o u q=>hE b _ q,λb ps q=>⟨#[],by rw[hE b _ q];simp⟩⟩ λb u e=>?_
 cases q:H b with
 |none=>exact hN b u e q
 |some u'=>
  have:u'=u:=by have:=hE b u' q;rw[e] at this;exact(ai this).symm
  subst this;exact(I.hok b u' q).stay (λc v _ z=>k c v z) (λc z=>hE c _ z) λc xs z=>hE c _ z
end
noncomputable def AX(td:TE):TE:=λσ H Q=>td σ H λx H1=>∃(a:Addr)(kvs:List (Key×V))(ns:List Int),x=.ref a/\H1 a=some (.dK kvs)/\kvs.map (·.1)=ns.map (Sum.inl:Int->Key)/\ns.Pairwise (· < ·)/\kvs.length<64/\
 ∀(Hm:Hp)(as:List Addr)(p:Addr),as.length=kvs.length->(∀b u,H1 b=some u->Hm b=some u)->(∀b u,Hm b=some u->H1 b=some u∨b∈as)->(∀b,b∈as->H1 b=none)->Hm p=none->
  (∀(j:Nat)(b:Addr)(n:Int)(v:V),as[j]? =some b->ns[j]? =some n->(kvs[j]?.map (·.2))=some v->Hm b=some (.tup [.int n,v]))->Q (.ref p) (bE Hm p (.lst (as.map .ref)))
theorem KV.get{κ:Type}[DecidableEq κ]:∀{kvs:List (κ×V)}{vs:List (κ×Value)},KV kvs vs->∀{j:Nat}{k:κ}{u:Value},vs[j]? =some (k,u)->∃v,kvs[j]? =some (k,v)/\RelV v u
 |_,_,.nil,j,k,u,e=>by simp at e
 |_,_,.cons r t,0,k,u,e=>by
  obtain⟨r1,r2⟩:=r;simp only[List.getElem?_cons_zero,Option.some.injEq] at e;subst e;exact⟨_,by rw[List.getElem?_cons_zero];exact congrArg some (Prod.ext r1 rfl),r2⟩
 |_,_,.cons r t,j+1,k,u,e=>by simpa using KV.get t (by simpa using e)
theorem kq:∀as:List Addr,bm (as.map .ref) (as.map .ref)
 |[]=>.nil
 |a::as=>.cons rfl (kq as)
theorem bM.here{P:Program}{w:World}{H:Hp}{h:Heap}{a:Addr}:∀{o:HO},bM P w H h a o->∃u,h.get? a=some u
 | .lst _,x=>by obtain⟨_,_,_,_,e⟩:=x;exact⟨_,e⟩
 | .tup _,x=>by obtain⟨_,_,_,u,e,_⟩:=x;exact⟨u,e⟩
 | .dK _,x=>by obtain⟨_,_,_,_,u,_,_,e,_⟩:=x;exact⟨u,e⟩
 | .dT _,x=>by obtain⟨_,_,_,_,u,_,_,e,_⟩:=x;exact⟨u,e⟩
 | .set _ _,x=>by obtain⟨u,_,_,_,e,_⟩:=x;exact⟨u,e⟩
 | .ins _ _ _,x=>by obtain⟨_,_,_,e,_⟩:=x;exact⟨_,e⟩
 | .own _,x=>x
 | .xd _,x=>by obtain⟨_,⟨u,_,_,e,_⟩,_⟩:=x;exact⟨u,e⟩
 | .rng _ _,x=>by obtain⟨_,_,_,e⟩:=x;exact⟨_,e⟩
 | .frz _ _,x=>⟨_,x.1⟩
 | .tbl _,x=>⟨_,x⟩
 | .met _ _,x=>⟨_,x⟩
 | .ext _,x=>x.2.1
theorem xF{X:Cx}{o:Expr}{td:TE}{p1 q1 ap cp:Pos}(hc:X.calm=true)(hg:Gl X "sorted")(hm:X.mg "sorted"=none)(ho:PE X o td)(hb:attributeBase o "items" X.env (eval o X.env)=eval o X.env)(hl:(ap.endLine==cp.line)=true):
  PE X (.Call (.Name "sorted" p1) [.Call (.Attribute o "items" ap) [] [] cp] [] q1) (AX td):=by
 intro pins s σ H Q I h;refine wpAny_Call_Name_kw (iq I hg hm boot_sorted ?_);refine PyProof.Rows.callWith_builtin1 ?_ rfl rfl;show wpAny _ _ (spliced ((false,eval (.Call (.Attribute o "items" ap) [] [] cp) X.env)::backTo q1 (starEach [] X.env))) _ _ s;refine Calls.spliced_cons ?_;refine wpAny_Call_method0_late hb hl (bU (ho pins s σ H _ I h) λv s1 hp=>?_);obtain⟨x,H1,I1,r1,a,kvs,ns,ex,hd,hk,up,h64,q1⟩:=hp;subst ex;obtain rfl:v=Value.ref a:=r1;obtain⟨z,hs,vs,rel,dd⟩:=qe I1.hok hd;obtain⟨t1,t2,_⟩:=iw I1 (.inl ⟨kvs,.inl hd⟩);refine⟨"dict","dict.items",PySem.F.plainAttrs_dict,PySem.F.slot_dict_items,PySem.F.type_dict_items,t1,t2,Calls.callWith_builtin rfl (PySem.evalArgs_none ?_)⟩;refine call_meetsIn PySem.F.slot_dict_items t1 PySem.F.entry_dict_items (PySem.F.args_dict_items_1 _) (meets_dict_items (bf X.prog X.w) a hs) ⟨⟨vs,dd⟩,?_⟩;refine Calls.spliced_nil ?_;obtain⟨ep,dat⟩:=(dd.push {cls:= .type "dict_items",data:= .fields #[.ref a]}).dictAt;have lv:=rel.length;have ln:ns.length=vs.length:=by have:=congrArg List.length hk;simp at this;omega
 have kn:vs.map (·.1)=ns.map (Sum.inl:Int->Key):=by rw[<-rel.keys];exact hk
 refine PySem.W.lh (ns:=ns) (I.ok.hd hc) ⟨_,am _ rfl,rfl,rfl⟩ dat (by omega) (λj k x key e1 e2=>?_) ln up λh' tk B c as hkp hl' has hnd hB hB2 hpr=>?_
 ·have e3:(vs.map (·.1))[j]? =some k:=by rw[aB,e1];rfl
  rw[kn,aB] at e3;cases q:ns[j]? with
  |none=>rw[q] at e3;cases e3
  |some n=>
   rw[q] at e3;cases e3;rcases bx (show eU (.inl n) key=true from e2) with⟨i,t,e,rfl⟩|⟨y,t,e,_⟩
   ·cases e;exact⟨_,t,rfl,rfl⟩
   ·cases e
 ·have keep:∀b u,s1.heap.get? b=some u->h'.get? b=some u:=λb u e=>hkp b u (ae _ e)
  have none1:∀b,(s1.heap.push {cls:= .type "dict_items",data:= .fields #[.ref a]}).get? b=none->s1.heap.get? b=none/\H1 b=none:=λb e=>by
   have e1:s1.heap.get? b=none:=by
    cases q:s1.heap.get? b with
    |none=>rfl
    |some o=>rw[ae _ q] at e;cases e
   refine⟨e1,?_⟩;cases q:H1 b with
   |none=>rfl
   |some u=>obtain⟨o,ho⟩:=(I1.hok b u q).here;rw[e1] at ho;cases ho
  have fr:∀b,b∈as->s1.heap.get? b=none/\H1 b=none:=λb hb=>none1 b (has b hb).1;obtain⟨fB1,fB2⟩:=none1 B hB
  let Hm:Hp:=λb=>if b∈as then(match ns[as.idxOf b]?,kvs[as.idxOf b]? with|some n,some kv=>some (.tup [.int n,kv.2])|_,_=>none) else H1 b
  have hm0:∀b,b∉as->Hm b=H1 b:=λb hb=>if_neg hb
  have hm1:∀(j:Nat)(b:Addr)(n:Int)(v:V),as[j]? =some b->ns[j]? =some n->(kvs[j]?.map (·.2))=some v->Hm b=some (.tup [.int n,v]):=λj b n v e1 e2 e3=>by
   have hb:=ak e1
   have hi:as.idxOf b=j:=by obtain⟨hj,rfl⟩:=au e1;exact hnd.idxOf_getElem j hj
   show(if b∈as then _ else _)=_
   rw[if_pos hb,hi,e2];cases q:kvs[j]? with
   |none=>rw[q] at e3;cases e3
   |some kv=>rw[q] at e3;cases e3;rfl
  have hE:∀b u,H1 b=some u->Hm b=some u:=λb u e=>by
   rw[hm0 b λhb=>by rw[(fr b hb).2] at e;cases e]
   exact e
  have hBm:Hm B=none:=by rw[hm0 B λhb=>(has B hb).2 rfl];exact fB2
  have hEB:∀b u,H1 b=some u->bE Hm B (.lst (as.map .ref)) b=some u:=λb u e=>by
   rw[aE (λz=>by subst z;rw[fB2] at e;cases e)]
   exact hE b u e
  refine⟨.ref B,_,I1.grown (H':=bE Hm B (.lst (as.map .ref))) (t':=tk) keep hEB (λb o e n=>?_) (λb u e n=>?_),rfl,q1 Hm as B (by omega) hE (λb u e=>?_) (λb hb=>(fr b hb).2) hBm hm1⟩
  ·rw[aE (λz=>by subst z;rw[fB1] at e;cases e),hm0 b λhb=>by rw[(fr b hb).1] at e;cases e]
   exact n
  ·by_cases hb:b=B
   ·subst hb;rw[bi] at e;cases e;refine⟨by simp;omega,as.map .ref,c,kq as,hB2⟩
   ·rw[aE hb] at e;by_cases ha:b∈as
    ·obtain⟨j,hj,rfl⟩:=List.getElem_of_mem ha;have e1:as[j]? =some as[j]:=by simp
     have e2:ns[j]? =some (ns[j]'(by omega)):=by simp
     have e3:vs[j]? =some (vs[j]'(by omega)):=by simp
     obtain⟨v,e4,rv⟩:=KV.get rel (k:=(vs[j]'(by omega)).1) (u:=(vs[j]'(by omega)).2) e3
     obtain⟨t,ht⟩:=hpr j _ _ _ _ e1 e2 e3;rw[hm1 j _ _ v e1 e2 (by rw[e4];rfl)] at e
     cases e;exact⟨by rw[sizeLine_eq];exact(show 2<=16777216 by decide),[.int _ t,_],.cons ⟨t,rfl⟩ (.cons rv .nil),_,ht,⟨rfl,rfl⟩,0,rfl⟩
    ·rw[hm0 b ha,n] at e;cases e
  ·by_cases ha:b∈as
   ·exact .inr ha
   ·rw[hm0 b ha] at e;exact .inl e
end L2
namespace PySem
open Sem (wp)
open SeqAt (EqAt)
theorem ij:plainId "proto.contains_iter"=true:=by decide+kernel
theorem kE:entryFor table "proto.contains_iter"=some Builtin.«proto.contains_iter»:=entryFor_of_fast (by kernel_rfl)
theorem dY:typeLookup (.type "dict_values") "__contains__"=pure none:=by rw[typeLookup_type,builtinLookup_eq_fast];kernel_rfl
section
variable{prog:Program}{w:World}{A:Around}{s:Shared}{d it:Addr}{es:Array DictEntry}{ep:Nat}
theorem uj{x:Value}{f:Nat->Bool}{R:Result->Shared->Prop}(hh:A.handled=none)(hd:s.heap.RawD d es ep)(hf:s.heap.get? it=none)
  (he:∀(h':Heap)(j:Nat)(hj:j<es.size),(∀b o,s.heap.get? b=some o->h'.get? b=some o)->EqAt A.in1 {s with heap:=h'} es[j].val x (f j))
  (hR:∀(h':Heap),(∀b o,s.heap.get? b=some o->h'.get? b=some o)->R (.ok (.ret (.bool ((List.range es.size).any f)))) {s with heap:=h'}):
  ∀(k i:Nat)(h':Heap),es.size - i=k->(List.range i).any f=false->i<=es.size->(∀b o,s.heap.get? b=some o->h'.get? b=some o)->h'.RawIt "dict_valueiterator" it d i es.size ep->
   codeAny (model prog w) A (.builtin "proto.contains_iter" ⟨[.ref it,x],[]⟩) R {s with heap:=h'}:=by
 intro k
 induction k with
 |zero=>
  intro i h' e hn hi hk hit;refine codeAny_builtin kE ?_;rw[Around.under_plainId ij _];unfold Builtin.«proto.contains_iter»;refine aa (uP (s:={s with heap:=h'}) hh hit (hd.at λo q=>hk d o q) (by omega) λh2 eb=>?_)
  refine aa (wpAny_rule (af ?_));have:i=es.size:=by omega
  subst this;have:=hR h2 λb o q=>eb b o (λz=>by subst z;rw[hf] at q;cases q) (hk b o q)
  rw[hn] at this;exact this
 |succ k ih=>
  intro i h' e hn hi hk hit;have hlt:i<es.size:=by omega
  refine codeAny_builtin kE ?_;rw[Around.under_plainId ij _];unfold Builtin.«proto.contains_iter»;refine aa (rT (s:={s with heap:=h'}) hit (hd.at λo q=>hk d o q) hlt λh2 hit2 sb=>?_);have hk2:∀b o,s.heap.get? b=some o->h2.get? b=some o:=λb o q=>(sb.2 b λz=>by subst z;rw[hf] at q;cases q).trans (hk b o q)
  dsimp only;refine aa (he h2 i hlt hk2 prog w _ _ ?_);cases hb:f i with
  |true=>have ha:(List.range es.size).any f=true:=List.any_eq_true.mpr ⟨i,List.mem_range.mpr hlt,hb⟩;have:=hR h2 hk2;rw[ha] at this;exact aa (wpAny_rule (af this))
  |false=>
   refine af ⟨plainId_quiet ij _,?_⟩;exact ih (i+1) h2 (by omega) (by rw[List.range_succ,List.any_append,hn];simp[hb]) (by omega) hk2 hit2
end
section
variable{prog:Program}{w:World}{A:Around}{E:Value->Shared->Prop}{s:Shared}{d v:Addr}{es:Array DictEntry}{ep:Nat}
theorem vL{x:Value}{f:Nat->Bool}{Q:Value->Shared->Prop}(hh:A.handled=none)(hv:s.heap.IsValuesView v d)(hd:s.heap.RawD d es ep)
  (he:∀(h':Heap)(j:Nat)(hj:j<es.size),(∀b o,s.heap.get? b=some o->h'.get? b=some o)->EqAt A.in1 {s with heap:=h'} es[j].val x (f j))
  (hQ:∀(h':Heap),(∀b o,s.heap.get? b=some o->h'.get? b=some o)->Q (.bool ((List.range es.size).any f)) {s with heap:=h'}):wpAny (model prog w) A (compareOp .In x (.ref v)) Q E s:=by
 show wpAny _ _ (do return Value.bool (<-contains (.ref v) x)) _ _ _
 refine aa ?_;unfold contains;refine wpAny_holding ?_;have e0:stdlibNamesSay? (.ref v) x=none:=rfl;rw[e0];dsimp only;refine aa (wpAny_specialOf hv.typeIs dY ?_);rw[if_neg (by decide)]
 refine aa (wpAny_callSpecialUnlessNone?_none hv.typeIs dY ?_);dsimp only;refine aa (wpAny_rule (aa (wpAny_tryCatch (qy hv hd ?_))));refine aa (wpAny_runValue ?_);have kp:∀b o,s.heap.get? b=some o->(s.heap.push {cls:= .type "dict_valueiterator",data:= .fields #[.ref d,.int 0 0,.int es.size 0,.int ep 0]}).get? b=some o:=λb o q=>ae _ q;refine uj (s:=s) (it:=s.heap.objs.size) (f:=f) hh hd (Heap.get?_none_of_le (ah _)) he (λh' hk=>?_) _ 0 _ rfl rfl (Nat.zero_le _) kp ⟨_,am _ rfl,rfl,rfl⟩;exact af (af (hQ h' hk))
end
end PySem
namespace L2
open PySem PySem.Spec PyProof.Rows
open SeqAt (EqAt)
noncomputable def zm(X:Cx)(ty td:TE):TE:=λσ H Q=>ty σ H λy H1=>td σ H1 λx H2=>∃(a:Addr)(kvs:List (Key×V))(f:Nat->Bool),x=.ref a/\H2 a=some (.dK kvs)/\
 (∀pins (s:Shared)(u uv:Value)(j:Nat)(v:V),Inv X pins σ H2 s->RelV y u->(kvs[j]?.map (·.2))=some v->RelV v uv->EqAt X.A.in1 s uv u (f j))/\Q (.bl ((List.range kvs.length).any f)) H2
theorem pairs_at{κ:Type}[DecidableEq κ]{P:Program}{w:World}{knd:PySem.KeyKind P w κ}:∀{es:List DictEntry}{vs:List (κ×Value)},Pairs knd es vs->∀{j:Nat}{e:DictEntry},es[j]? =some e->∃k,vs[j]? =some (k,e.val)
 |_,_,.nil,j,e,h=>by simp at h
 |_,_,.cons (kv:=kv) h1 h2 t,0,e,h=>by
  simp only[List.getElem?_cons_zero,Option.some.injEq] at h;subst h;exact⟨kv.1,by rw[List.getElem?_cons_zero,h2]⟩
 |_,_,.cons h1 h2 t,j+1,e,h=>by simpa using pairs_at t (by simpa using h)
theorem KV.at{κ:Type}:∀{kvs:List (κ×V)}{vs:List (κ×Value)},KV kvs vs->∀{j:Nat}{k:κ}{u:Value},vs[j]? =some (k,u)->∃v,(kvs[j]?.map (·.2))=some v/\RelV v u
 |_,_,.nil,j,k,u,e=>by simp at e
 |_,_,.cons r t,0,k,u,e=>by simp only[List.getElem?_cons_zero,Option.some.injEq] at e;subst e;exact⟨_,rfl,r.2⟩
 |_,_,.cons r t,j+1,k,u,e=>by simpa using KV.at t (by simpa using e)
theorem xN{X:Cx}{i o:Expr}{ty td:TE}{ap cp:Pos}(hc:X.calm=true)(hi:PE X i ty)(ho:PE X o td)(hb:attributeBase o "values" X.env (eval o X.env)=eval o X.env)(hl:(ap.endLine==cp.line)=true):PC X .In i (.Call (.Attribute o "values" ap) [] [] cp) (zm X ty td):=by
 intro pins s σ H Q I h;refine bU (hi pins s σ H _ I h) λiv s1 ⟨y,H1,I1,ry,q1⟩=>wpAny_Call_method0_late hb hl (bU (ho pins s1 σ H1 _ I1 q1) λu s2 hp=>?_);obtain⟨x,H2,I2,rx,a,kvs,f,ex,hd,hE,q2⟩:=hp;subst ex;obtain rfl:u=Value.ref a:=rx;obtain⟨z,hs,vs,rel,o',es,ep,h1,h2,h3,h4,h5,h6⟩:=qe I2.hok hd;have raw:s2.heap.RawD a es ep:=⟨o',h1,h2,h3⟩;obtain⟨t1,t2,_⟩:=iw I2 (.inl ⟨kvs,.inl hd⟩);refine⟨"dict","dict.values",PySem.F.plainAttrs_dict,PySem.F.slot_dict_values,PySem.F.type_dict_values,t1,t2,Calls.callWith_builtin rfl (PySem.evalArgs_none (oq hs raw ?_))⟩;have kp:∀b o,s2.heap.get? b=some o->(s2.heap.push {cls:= .type "dict_values",data:= .fields #[.ref a]}).get? b=some o:=λb o q=>ae _ q;have sz:es.size=kvs.length:=by rw[<-Array.length_toList,h5.length,<-rel.length]
 refine vL (f:=f) (I.ok.hd hc) ⟨_,am _ rfl,rfl,rfl⟩ (raw.at λo q=>kp a o q) (λh' j hj hk=>?_) (λh' hk=>?_)
 ·have e1:es.toList[j]? =some es[j]:=by simp[hj]
  obtain⟨k,e2⟩:=pairs_at h5 e1;obtain⟨v,e3,rv⟩:=KV.at rel e2;exact hE pins _ _ _ j v (I2.kept (t':=s2.toks) λb o q=>hk b o (kp b o q)) ry e3 rv
 ·rw[sz];exact⟨.bl _,H2,I2.kept (t':=s2.toks) λb o q=>hk b o (kp b o q),rfl,q2⟩
end L2
namespace Ev
open PySem PySem.Spec PyProof.Rows L2
variable{xs ys:List V}{H H':Hp}{i j m m' m0 n tk:Nat}{ι ι' ι0 ι1:Nat->Addr}{v vx vy y:V}{vs:List (Key×V)}{f x:Str}{l p:Addr}{X:Cx}{w:World}{P prog:Program}{Q:VK}{s:Shared}{A:Around}{args es ifs r ts:List Expr}{ap cp p3 p4 pos spos:Pos}{a b c e elt it iter o:Expr}{α β:Type}{u ux uy:Value}{σ:L2.St}{pins:List (Addr×Obj)}{z:Expr×Expr}{sc scope:Scope}{N cs:List Str}{J:It}{op':CmpOp}{is:List Nat}{hi lo:Option Int}
inductive D where
 |non|bl (b:Bool)|int (i:Int)|str (x:Str)|tup (xs:List D)|fl (xs:List D)|ref (n:Nat)
 deriving Inhabited
inductive O where
 |lst (xs:List D)|dct (kvs:List (Key×D))|ins (c:Str)(fs:List (Str×D))
noncomputable abbrev aP:=List O
inductive R(α:Type) where
 |ok (a:α)(st:aP)
 |bad
noncomputable abbrev M(α:Type):=aP->R α
noncomputable def ret{α:Type}(a:α):M α:=λst=>.ok a st
noncomputable def ba{α β:Type}(m:M α)(f:α->M β):M β:=λst=>match m st with
 | .ok a st'=>f a st'
 | .bad=>.bad
noncomputable def stuck{α:Type}:M α:=λ_=>.bad
noncomputable def dh{α:Type}(o:Option α):M α:=λst=>match o with
 |some a=>.ok a st
 |none=>.bad
noncomputable def items:O->Option (List D)
 | .lst xs=>some xs
 |_=>none
inductive Sh where
 |sc (v:V)|t (xs:List D)|l (xs:List D)|d (kvs:List (Key×D))
noncomputable def shape(st:aP):D->Option Sh
 | .non=>some (.sc .non)
 | .bl b=>some (.sc (.bl b))
 | .int i=>some (.sc (.int i))
 | .str x=>some (.sc (.str x))
 | .tup xs=>some (.t xs)
 | .fl xs=>some (.l xs)
 | .ref n=>match st[n]? with
  |some (.lst xs)=>some (.l xs)
  |some (.dct kvs)=>some (.d kvs)
  |_=>none
noncomputable def dF(f:D->D->Option Bool):List D->List D->Option Bool
 |[],[]=>some true
 |[],_::_=>some false
 |_::_,[]=>some false
 |a::as,b::bs=>match f a b,dF f as bs with
  |some x,some y=>some (x&&y)
  |_,_=>none
noncomputable def tI:Key->Bool
 | .inl _=>true
 | .inr _=>false
noncomputable def mn(f:D->D->Option Bool)(a b:D):Option Bool:=match a,b with
 | .ref i,.ref j=>if i=j then some true else f a b
 |_,_=>f a b
noncomputable def dj(n:Nat)(st:aP)(a b:D):Option Bool:=match n with
 |0=>none
 |n+1=>match shape st a,shape st b with
  |some (.sc x),some (.sc y)=>some (qb x y)
  |some (.t xs),some (.t ys)=>dF (mn (dj n st)) xs ys
  |some (.l xs),some (.l ys)=>dF (mn (dj n st)) xs ys
  |some (.d xs),some (.d ys)=>if xs.map (·.1)=ys.map (·.1)/\(xs.map (·.1)).all tI=true then dF (mn (dj n st)) (xs.map (·.2)) (ys.map (·.2)) else none
  |some (.d _),some (.l _)=>some false
  |some (.d _),some _=>none
  |some _,some (.d _)=>none
  |some _,some _=>some false
  |_,_=>none
noncomputable def uH(K:av)(H:Hp)(a:Addr)(xs:List V):Prop:=
 (∃o,H a=some (.frz o (.lst xs)))∨
  ∃(o:Obj)(its:Array Value)(n:Nat),K.lookup a=some o/\o.cls=.type "list" /\o.dict=none/\o.data=.seq its n/\its.size<=sizeLine/\bm xs its.toList
theorem uH.sql{K:av}{a:Addr}(h:uH K H a xs):fW K H a xs:=by
 rcases h with h|h
 ·exact .inl (.inr h)
 ·exact .inr h
mutual
inductive VRel(K:av)(H:Hp)(ι:Nat->Addr)(m:Nat):D->V->Prop where
 |non:VRel K H ι m .non .non
 |bl (b:Bool):VRel K H ι m (.bl b) (.bl b)
 |int (i:Int):VRel K H ι m (.int i) (.int i)
 |str (x:Str):VRel K H ι m (.str x) (.str x)
 |tup {a:Addr}{ds:List D}{xs:List V}(h:f6 K H a xs)(r:VRels K H ι m ds xs):VRel K H ι m (.tup ds) (.ref a)
 |fl {a:Addr}{ds:List D}{xs:List V}(h:uH K H a xs)(r:VRels K H ι m ds xs):VRel K H ι m (.fl ds) (.ref a)
 |ref {n:Nat}(h:n<m):VRel K H ι m (.ref n) (.ref (ι n))
inductive VRels(K:av)(H:Hp)(ι:Nat->Addr)(m:Nat):List D->List V->Prop where
 |nil:VRels K H ι m [] []
 |cons {d:D}{v:V}{ds:List D}{vs:List V}(h:VRel K H ι m d v)(t:VRels K H ι m ds vs):VRels K H ι m (d::ds) (v::vs)
end
structure Ext0(H H':Hp)(ι ι':Nat->Addr)(m m':Nat):Prop where
 le:m<=m'
 ad:∀n,n<m->ι' n=ι n
 tp:∀b xs,H b=some (.tup xs)->H' b=some (.tup xs)
 fz:∀b o u,H b=some (.frz o u)->H' b=some (.frz o u)
structure Ext(H H':Hp)(ι ι':Nat->Addr)(m m':Nat):Prop extends Ext0 H H' ι ι' m m' where
 fr:∀b o,H b=some o->(∀n,n<m->ι n≠b)->H' b=some o/\∀n,n<m'->ι' n≠b
theorem Ext.refl(H:Hp)(ι:Nat->Addr)(m:Nat):Ext H H ι ι m m:=⟨⟨ah _,λ_ _=>rfl,λ_ _ h=>h,λ_ _ _ h=>h⟩,λ_ _ h k=>⟨h,k⟩⟩
theorem Ext.trans{H1 H2:Hp}{ι2:Nat->Addr}{m1 m2:Nat}(a:Ext H H1 ι ι1 m m1)(b:Ext H1 H2 ι1 ι2 m1 m2):Ext H H2 ι ι2 m m2:=
 ⟨⟨az a.le b.le,λn hn=>(b.ad n (aw hn a.le)).trans (a.ad n hn),λc xs e=>b.tp c xs (a.tp c xs e),λc o u e=>b.fz c o u (a.fz c o u e)⟩,λc o e k=>by obtain⟨e1,k1⟩:=a.fr c o e k;exact b.fr c o e1 k1⟩
theorem f6.ext{K:av}{a:Addr}(e:Ext0 H H' ι ι' m m')(h:f6 K H a xs):f6 K H' a xs:=by
 rcases h with(h|⟨o,h⟩)|h
 ·exact .inl (.inl (e.tp _ _ h))
 ·exact .inl (.inr ⟨o,e.fz _ _ _ h⟩)
 ·exact .inr h
theorem uH.ext{K:av}{a:Addr}(e:Ext0 H H' ι ι' m m')(h:uH K H a xs):uH K H' a xs:=by
 rcases h with⟨o,h⟩|h
 ·exact .inl ⟨o,e.fz _ _ _ h⟩
 ·exact .inr h
mutual
theorem VRel.ext0{K:av}(e:Ext0 H H' ι ι' m m'):∀{d:D}{v:V},VRel K H ι m d v->VRel K H' ι' m' d v
 |_,_,.non=>.non
 |_,_,.bl b=>.bl b
 |_,_,.int i=>.int i
 |_,_,.str x=>.str x
 |_,_,.tup h r=>.tup (f6.ext e h) (VRels.ext0 e r)
 |_,_,.fl h r=>.fl (uH.ext e h) (VRels.ext0 e r)
 |_,_,.ref (n:=n) h=>by rw[<-e.ad n h];exact .ref (aw h e.le)
theorem VRels.ext0{K:av}(e:Ext0 H H' ι ι' m m'):∀{ds:List D}{vs:List V},VRels K H ι m ds vs->VRels K H' ι' m' ds vs
 |_,_,.nil=>.nil
 |_,_,.cons h t=>.cons (VRel.ext0 e h) (VRels.ext0 e t)
end
theorem VRel.ext{K:av}{d:D}(h:VRel K H ι m d v)(e:Ext H H' ι ι' m m'):VRel K H' ι' m' d v:=VRel.ext0 e.toExt0 h
theorem VRels.ext{K:av}{d:List D}{v:List V}(h:VRels K H ι m d v)(e:Ext H H' ι ι' m m'):VRels K H' ι' m' d v:=VRels.ext0 e.toExt0 h
section
variable{K:av}{H:Hp}{ι:Nat->Addr}{m:Nat}
theorem VRels.length:∀{ds:List D}{vs:List V},VRels K H ι m ds vs->ds.length=vs.length
 |_,_,.nil=>rfl
 |_,_,.cons _ t=>by rw[List.length_cons,List.length_cons,t.length]
theorem VRels.get:∀{ds:List D}{vs:List V}{i:Nat}{d:D},VRels K H ι m ds vs->ds[i]? =some d->∃v,vs[i]? =some v/\VRel K H ι m d v
 |_,_,_,_,.nil,e=>by simp at e
 |_,_,0,_,.cons r _,e=>by simp at e;subst e;exact⟨_,rfl,r⟩
 |_,_,i+1,d,.cons _ t,e=>by
  obtain⟨v,h1,h2⟩:=t.get (i:=i) (d:=d) (by simpa using e)
  exact⟨v,by simpa using h1,h2⟩
theorem VRels.append:∀{ds es:List D}{vs ws:List V},VRels K H ι m ds vs->VRels K H ι m es ws->VRels K H ι m (ds++es) (vs++ws)
 |_,_,_,_,.nil,s=>s
 |_,_,_,_,.cons r t,s=>.cons r (t.append s)
theorem VRels.set:∀{ds:List D}{vs:List V}{d:D}{v:V}(i:Nat),VRels K H ι m ds vs->VRel K H ι m d v->VRels K H ι m (ds.set i d) (vs.set i v)
 |_,_,_,_,_,.nil,_=>.nil
 |_,_,_,_,0,.cons _ t,r=>.cons r t
 |_,_,_,_,i+1,.cons q t,r=>.cons q (t.set i r)
theorem VRels.take:∀{ds:List D}{vs:List V}(n:Nat),VRels K H ι m ds vs->VRels K H ι m (ds.take n) (vs.take n)
 |_,_,0,_=>.nil
 |_,_,_+1,.nil=>.nil
 |_,_,n+1,.cons r t=>.cons r (t.take n)
theorem VRels.drop:∀{ds:List D}{vs:List V}(n:Nat),VRels K H ι m ds vs->VRels K H ι m (ds.drop n) (vs.drop n)
 |_,_,0,h=>h
 |_,_,_+1,.nil=>.nil
 |_,_,n+1,.cons _ t=>t.drop n
end
inductive DRels(K:av)(H:Hp)(ι:Nat->Addr)(m:Nat):List (Key×D)->List (Key×V)->Prop where
 |nil:DRels K H ι m [] []
 |cons {k:Key}{d:D}{v:V}{ds:List (Key×D)}{vs:List (Key×V)}(h:VRel K H ι m d v)(t:DRels K H ι m ds vs):DRels K H ι m ((k,d)::ds) ((k,v)::vs)
theorem DRels.ext0{K:av}(e:Ext0 H H' ι ι' m m'){ds:List (Key×D)}(h:DRels K H ι m ds vs):DRels K H' ι' m' ds vs:=by
 induction h with
 |nil=>exact .nil
 |cons h t ih=>exact .cons (VRel.ext0 e h) ih
theorem DRels.ext{K:av}{ds:List (Key×D)}(h:DRels K H ι m ds vs)(e:Ext H H' ι ι' m m'):DRels K H' ι' m' ds vs:=h.ext0 e.toExt0
theorem DRels.length{K:av}{ds:List (Key×D)}(h:DRels K H ι m ds vs):ds.length=vs.length:=by
 induction h with
 |nil=>rfl
 |cons h t ih=>rw[List.length_cons,List.length_cons,ih]
theorem DRels.append{K:av}{ds es:List (Key×D)}{ws:List (Key×V)}(h:DRels K H ι m ds vs)(k:DRels K H ι m es ws):DRels K H ι m (ds++es) (vs++ws):=by
 induction h with
 |nil=>exact k
 |cons h t ih=>exact .cons h ih
inductive FRels(K:av)(H:Hp)(ι:Nat->Addr)(m:Nat):List (Str×D)->List (Str×V)->Prop where
 |nil:FRels K H ι m [] []
 |cons {k:Str}{d:D}{v:V}{ds:List (Str×D)}{vs:List (Str×V)}(h:VRel K H ι m d v)(t:FRels K H ι m ds vs):FRels K H ι m ((k,d)::ds) ((k,v)::vs)
theorem FRels.ext0{K:av}(e:Ext0 H H' ι ι' m m'){ds:List (Str×D)}{vs:List (Str×V)}(h:FRels K H ι m ds vs):FRels K H' ι' m' ds vs:=by
 induction h with
 |nil=>exact .nil
 |cons h t ih=>exact .cons (VRel.ext0 e h) ih
theorem FRels.look{K:av}{ds:List (Str×D)}{vs:List (Str×V)}(h:FRels K H ι m ds vs){d:D}(e:ds.lookup f=some d):∃v,vs.lookup f=some v/\VRel K H ι m d v:=by
 induction h with
 |nil=>cases e
 | @cons k d' v ds vs h t ih=>
  rw[List.lookup_cons] at e ⊢;cases q:f==k with
  |true=>rw[q] at e;cases e;exact⟨v,rfl,h⟩
  |false=>rw[q] at e;exact ih e
noncomputable def putD(f:Str)(d:D):List (Str×D)->List (Str×D)
 |[]=>[(f,d)]
 |(g,x)::r=>if g=f then(g,d)::r else(g,x)::putD f d r
theorem FRels.put{K:av}{d:D}(q:VRel K H ι m d v){ds:List (Str×D)}{vs:List (Str×V)}(h:FRels K H ι m ds vs):FRels K H ι m (putD f d ds) (dz f v vs):=by
 induction h with
 |nil=>exact .cons q .nil
 | @cons k d' v' ds vs h t ih=>
  unfold putD dz;by_cases e:k=f
  ·rw[if_pos e,if_pos e];exact .cons q t
  ·rw[if_neg e,if_neg e];exact .cons h ih
theorem FRels.length{K:av}{ds:List (Str×D)}{vs:List (Str×V)}(h:FRels K H ι m ds vs):ds.length=vs.length:=by
 induction h with
 |nil=>rfl
 |cons h t ih=>rw[List.length_cons,List.length_cons,ih]
noncomputable def nL(K:av)(H:Hp)(ι:Nat->Addr)(m:Nat)(a:Addr):O->Prop
 | .lst ds=>∃xs,H a=some (.lst xs)/\VRels K H ι m ds xs
 | .dct kvs=>∃vs,H a=some (.dK vs)/\DRels K H ι m kvs vs
 | .ins x fs=>∃C dx vs,PySem.W.nsIn K mainGlobals x=some (some (.ref C))/\H a=some (.ins C dx vs)/\FRels K H ι m fs vs/\fs.length<=900
theorem nL.move{K:av}{a:Addr}{o:O}(h:nL K H ι m a o)(E:Ext0 H H' ι ι' m m')(ha:H' a=H a):nL K H' ι' m' a o:=by
 cases o with
 |lst ds=>obtain⟨xs,h1,h2⟩:=h;exact⟨xs,ha.trans h1,VRels.ext0 E h2⟩
 |dct ds=>obtain⟨xs,h1,h2⟩:=h;exact⟨xs,ha.trans h1,h2.ext0 E⟩
 |ins x fs=>obtain⟨C,dx,xs,h0,h1,h2,h3⟩:=h;exact⟨C,dx,xs,h0,ha.trans h1,h2.ext0 E,h3⟩
theorem nL.there{K:av}{a:Addr}{o:O}(h:nL K H ι m a o):∃u,H a=some u/\(∀xs,u≠ .tup xs)/\∀ob w,u≠ .frz ob w:=by
 cases o with
 |lst ds=>obtain⟨xs,h1,h2⟩:=h;exact⟨_,h1,(λ_ z=>by cases z),(λ_ _ z=>by cases z)⟩
 |dct ds=>obtain⟨xs,h1,h2⟩:=h;exact⟨_,h1,(λ_ z=>by cases z),(λ_ _ z=>by cases z)⟩
 |ins x fs=>obtain⟨C,dx,xs,h0,h1,h2⟩:=h;exact⟨_,h1,(λ_ z=>by cases z),(λ_ _ z=>by cases z)⟩
structure Sim(K:av)(H:Hp)(ι:Nat->Addr)(st:aP):Prop where
 inj:∀i j,i<st.length->j<st.length->ι i=ι j->i=j
 ob:∀n o,st[n]? =some o->nL K H ι st.length (ι n) o
theorem Sim.laid{K:av}{st:aP}(S:Sim K H ι st)(hp:H p=none){ho:HO}{o:O}
  (hr:∀ι',(∀n,n<st.length->ι' n=ι n)->ι' st.length=p->nL K (bE H p ho) ι' (st.length+1) p o):
  ∃ι',Ext H (bE H p ho) ι ι' st.length (st.length+1)/\ι' st.length=p/\Sim K (bE H p ho) ι' (st++[o]):=by
 have hK:∀n o,st[n]? =some o->ι n≠p:=λn o e=>by have q:=S.ob n o e;obtain⟨u,h1,_⟩:=q.there;exact aG h1 hp
 have E:Ext H (bE H p ho) ι (λn=>if n=st.length then p else ι n) st.length (st.length+1):=⟨⟨Nat.le_succ _,λn hn=>by simp[Nat.ne_of_lt hn],λb xs e=>by rw[aE (aG e hp)];exact e,λb ob u e=>by rw[aE (aG e hp)];exact e⟩,λb ob e k=>by
  refine⟨by rw[aE (aG e hp)];exact e,λn hn=>?_⟩
  by_cases hn':n=st.length
  ·rw[if_pos hn'];exact(aG e hp).symm
  ·rw[if_neg hn'];exact k n (by omega)⟩
 refine⟨λn=>if n=st.length then p else ι n,E,by simp,?_⟩
 have lt:∀{n},n<st.length->∃o,st[n]? =some o:=λ{n} hn=>⟨st[n],by simp[hn]⟩
 refine⟨λi j hi hj e=>?_,λn ob e=>?_⟩
 ·rw[aA,List.length_singleton] at hi hj;by_cases hi':i=st.length
  ·by_cases hj':j=st.length
   ·omega
   ·have q:p=ι j:=by simpa[hi',hj'] using e
    obtain⟨ob,eo⟩:=lt (show j<st.length by omega)
    exact absurd q.symm (hK j ob eo)
  ·by_cases hj':j=st.length
   ·have q:ι i=p:=by simpa[hi',hj'] using e
    obtain⟨ob,eo⟩:=lt (show i<st.length by omega)
    exact absurd q (hK i ob eo)
   ·exact S.inj i j (by omega) (by omega) (by simpa[hi',hj'] using e)
 ·rw[aA,List.length_singleton];by_cases hn:n=st.length
  ·subst hn;rw[aR (ah _),Nat.sub_self] at e;have e':o=ob:=by simpa using e
   subst e';have:=hr (λn=>if n=st.length then p else ι n) (λn hn=>by simp[Nat.ne_of_lt hn]) (by simp)
   simpa using this
  ·have hlt:n<st.length:=by have:=(au e).1;rw[aA,List.length_singleton] at this;omega
   rw[aJ hlt] at e;have old:=S.ob n ob e;have hne:ι n≠p:=hK n ob e;have hι:(if n=st.length then p else ι n)=ι n:=by rw[if_neg hn]
   rw[hι];exact old.move E.toExt0 (aE hne)
theorem Sim.write{K:av}{st:aP}(S:Sim K H ι st){ds es:List D}(e:st[n]? =some (.lst ds))(r:VRels K H ι st.length es ys):
  Ext H (bE H (ι n) (.lst ys)) ι ι st.length st.length/\Sim K (bE H (ι n) (.lst ys)) ι (st.set n (.lst es)):=by
 obtain⟨xs,h1,h2⟩:=S.ob n _ e;have hn:n<st.length:=(au e).1
 have E:Ext H (bE H (ι n) (.lst ys)) ι ι st.length st.length:=by
  refine⟨⟨ah _,λ_ _=>rfl,λb zs q=>?_,λb o u q=>?_⟩,λb o q k=>⟨by rw[aE (k n hn).symm];exact q,k⟩⟩
  ·rw[aE (cM q h1 (by intro z;cases z))];exact q
  ·rw[aE (cM q h1 (by intro z;cases z))];exact q
 refine⟨E,λi j hi hj=>S.inj i j (by simpa using hi) (by simpa using hj),λk o q=>?_⟩
 rw[aS];by_cases hk:k=n
 ·subst hk;rw[aY hn] at q;cases q;exact⟨ys,bi,r.ext E⟩
 ·rw[aI (Ne.symm hk)] at q;have hk':k<st.length:=(au q).1;have hne:ι k≠ι n:=λz=>hk (S.inj k n hk' hn z);have old:=S.ob k o q;exact old.move E.toExt0 (aE hne)
theorem Sim.add{K:av}{st:aP}(S:Sim K H ι st){ds:List D}(hp:H p=some (.lst ys))(ap:∀n,n<st.length->ι n≠p)(r:VRels K H ι st.length ds ys):
  ∃ι',(∀n,n<st.length->ι' n=ι n)/\ι' st.length=p/\Sim K H ι' (st++[.lst ds]):=by
 have up:Ext0 H H ι (λn=>if n=st.length then p else ι n) st.length (st.length+1):=⟨Nat.le_succ _,λn hn=>by simp[Nat.ne_of_lt hn],λ_ _ e=>e,λ_ _ _ e=>e⟩
 refine⟨λn=>if n=st.length then p else ι n,λn hn=>by simp[Nat.ne_of_lt hn],by simp,⟨λi j hi hj e=>?_,λn ob e=>?_⟩⟩
 ·rw[aA,List.length_singleton] at hi hj;by_cases hi':i=st.length
  ·by_cases hj':j=st.length
   ·omega
   ·exact absurd (show ι j=p by simpa[hi',hj'] using e.symm) (ap j (by omega))
  ·by_cases hj':j=st.length
   ·exact absurd (show ι i=p by simpa[hi',hj'] using e) (ap i (by omega))
   ·exact S.inj i j (by omega) (by omega) (by simpa[hi',hj'] using e)
 ·rw[aA,List.length_singleton];by_cases hn:n=st.length
  ·subst hn;rw[aR (ah _),Nat.sub_self] at e;have e':O.lst ds=ob:=by simpa using e
   subst e';refine⟨ys,?_,VRels.ext0 up r⟩;simpa using hp
  ·have hlt:n<st.length:=by have:=(au e).1;rw[aA,List.length_singleton] at this;omega
   rw[aJ hlt] at e;have old:=S.ob n ob e;have hι:(if n=st.length then p else ι n)=ι n:=by rw[if_neg hn]
   rw[hι];exact old.move up rfl
theorem Sim.writeD{K:av}{st:aP}(S:Sim K H ι st){kvs kvs':List (Key×D)}{ys:List (Key×V)}(e:st[n]? =some (.dct kvs))(r:DRels K H ι st.length kvs' ys):
  Ext H (bE H (ι n) (.dK ys)) ι ι st.length st.length/\Sim K (bE H (ι n) (.dK ys)) ι (st.set n (.dct kvs')):=by
 obtain⟨xs,h1,h2⟩:=S.ob n _ e;have hn:n<st.length:=(au e).1
 have E:Ext H (bE H (ι n) (.dK ys)) ι ι st.length st.length:=by
  refine⟨⟨ah _,λ_ _=>rfl,λb zs q=>?_,λb o u q=>?_⟩,λb o q k=>⟨by rw[aE (k n hn).symm];exact q,k⟩⟩
  ·rw[aE (cM q h1 (by intro z;cases z))];exact q
  ·rw[aE (cM q h1 (by intro z;cases z))];exact q
 refine⟨E,λi j hi hj=>S.inj i j (by simpa using hi) (by simpa using hj),λk o q=>?_⟩
 rw[aS];by_cases hk:k=n
 ·subst hk;rw[aY hn] at q;cases q;exact⟨ys,bi,r.ext E⟩
 ·rw[aI (Ne.symm hk)] at q;have hk':k<st.length:=(au q).1;have hne:ι k≠ι n:=λz=>hk (S.inj k n hk' hn z);have old:=S.ob k o q;exact old.move E.toExt0 (aE hne)
theorem Sim.addD{K:av}{st:aP}(S:Sim K H ι st){ys:List (Key×V)}{ds:List (Key×D)}(hp:H p=some (.dK ys))(ap:∀n,n<st.length->ι n≠p)(r:DRels K H ι st.length ds ys):
  ∃ι',(∀n,n<st.length->ι' n=ι n)/\ι' st.length=p/\Sim K H ι' (st++[.dct ds]):=by
 have up:Ext0 H H ι (λn=>if n=st.length then p else ι n) st.length (st.length+1):=⟨Nat.le_succ _,λn hn=>by simp[Nat.ne_of_lt hn],λ_ _ e=>e,λ_ _ _ e=>e⟩
 refine⟨λn=>if n=st.length then p else ι n,λn hn=>by simp[Nat.ne_of_lt hn],by simp,⟨λi j hi hj e=>?_,λn ob e=>?_⟩⟩
 ·rw[aA,List.length_singleton] at hi hj;by_cases hi':i=st.length
  ·by_cases hj':j=st.length
   ·omega
   ·exact absurd (show ι j=p by simpa[hi',hj'] using e.symm) (ap j (by omega))
  ·by_cases hj':j=st.length
   ·exact absurd (show ι i=p by simpa[hi',hj'] using e) (ap i (by omega))
   ·exact S.inj i j (by omega) (by omega) (by simpa[hi',hj'] using e)
 ·rw[aA,List.length_singleton];by_cases hn:n=st.length
  ·subst hn;rw[aR (ah _),Nat.sub_self] at e;have e':O.dct ds=ob:=by simpa using e
   subst e';refine⟨ys,?_,r.ext0 up⟩;simpa using hp
  ·have hlt:n<st.length:=by have:=(au e).1;rw[aA,List.length_singleton] at this;omega
   rw[aJ hlt] at e;have old:=S.ob n ob e;have hι:(if n=st.length then p else ι n)=ι n:=by rw[if_neg hn]
   rw[hι];exact old.move up rfl
set_option genInjectivity false
noncomputable def nO(P:Program)(w:World):uD:=λ_ _ _ _ _ _=>False
theorem wx:jZ (nO P w) X E0:=λ_ _ _ _ _ _ _ z=>z.elim
section
variable{X:Cx}{pins:List (Addr×Obj)}{σ:L2.St}{H:Hp}{s:Shared}
theorem pj{k:Nat}{f:Addr}{fd:FuncData}{ps:List Str}{sp:Sp}{us:List Value}{vs:List V}(F:FnOk X.prog X.w X.K X.mg X.base (nO X.prog X.w) k f fd ps sp)(hr:Room k X.A)(hb:Binds X.K fd ps [])
  (I:Inv X pins σ H s)(r:bm vs us)(h:sp vs H Q E0):wpAny (model X.prog X.w) X.A (call (.ref f) us) (EP X pins σ Q) X.xe s:=by
 have hl:(us++[]).length=ps.length:=by rw[List.append_nil,<-r.length];exact F.len _ _ _ _ h
 refine wpAny_call (codeAny_mono (F.run X.A X.stack s H ⟨us,[]⟩ us vs Q _ hr I.env0 (by have:=hb s us I.kIn hl;rwa [List.append_nil] at this) r h) λr s' hq=>?_)
 cases r with
 |error e=>exact hq.elim
 |ok fl=>
  cases fl with
  |ret u=>exact I.after hq
  |next=>exact False.elim hq
  |brk=>exact False.elim hq
  |cont=>exact False.elim hq
end
theorem mU{name:Str}{apos:Pos}{E:Value->Shared->Prop}{env:Env}{Q:Value->Shared->Prop}
  (hbase:attributeBase o name env (eval o env)=eval o env)
  (hfew:methodCallForm (args.length+([]:List Keyword).length) (backTo pos (starEach args env)) (backToKw pos (keywordEach [] env))=true)
  (hline:(apos.endLine==pos.line)=true)
  (h:wpAny (model prog w) A (eval o env) (λov s₁=>∀pl,wpAny (model prog w) A (getMethod ov name pl) (λfx s₂=>wpAny (model prog w) A (callWith pos fx.1 fx.2 (backTo pos (starEach args env)) (backToKw pos (keywordEach [] env))) Q E s₂) E s₁) E s):
  wpAny (model prog w) A (eval (.Call (.Attribute o name apos) args [] pos) env) Q E s:=by
 rw[arm_eval_Call,hbase];refine aa (aQ h (λov s₁ h₁=>?_) λ_ _ e=>e);refine aa (wpAny_standAt ?_);have hpos:methodCallPos true o env apos pos=pure pos:=by unfold methodCallPos;simp[hline]
 unfold methodCall;rw[hfew];refine aa (wpAny_holding (aQ (h₁ _) (λfx s2 h2=>?_) λ_ _ e=>e));exact aa (wpAny_of_eq hpos h2)
noncomputable def rZ(X:Cx)(m:Str)(ta:TE)(t:TA):TE:=λσ H Q=>ta σ H λx H1=>∃a C dx fs f k fd ps sp,x=.ref a/\H1 a=some (.ins C dx fs)/\fs.lookup m=none/\Cls X.K C/\Meth X.K C m f/\
 FnOk X.prog X.w X.K X.mg X.base (nO X.prog X.w) k f fd ps sp/\Room k X.A/\Binds X.K fd ps []/\t σ H1 λvs H2=>∀E:XK,sp (.ref a::vs) H2 Q E
section
variable{X:Cx}{m:Str}{o e:Expr}{es:List Expr}{ta:TE}{t:TA}{apos pos:Pos}
theorem sN(he:PE X o ta)(hbase:attributeBase o m X.env (eval o X.env)=eval o X.env)(hline:(apos.endLine==pos.line)=true)
  (hfew:methodCallForm ((e::es).length+([]:List Keyword).length) (backTo pos (starEach (e::es) X.env)) (backToKw pos (keywordEach [] X.env))=true)(ha:PA X (e::es) t)
  (hst:starEach (e::es) X.env=(false,eval e X.env)::starEach es X.env)(hpl:(backTo pos (starEach es X.env)).any (·.1)=false):PE X (.Call (.Attribute o m apos) (e::es) [] pos) (rZ X m ta t):=by
 intro pins s σ H Q I h;refine mU hbase hfew hline (bU (he pins s σ H _ I h) λu s1 hp pl=>?_);obtain⟨x,H1,I1,rx,a,C,dx,fs,f,k,fd,ps,sp,ex,ea,l,c,hm,F,hr,hb,q⟩:=hp;subst ex;obtain rfl:u=Value.ref a:=rx;refine jI I1 ea c hm l ?_;refine PySem.W.callWith_K (first:=[.ref a]) (h₀:=X.base) I.ok.mod.kin hm.kp (bU (ha pos pins s1 σ H1 _ I1 q) λus s2 ⟨vs,H2,I2,r,q2⟩=>⟨I2.kIn,?_⟩) hst hpl
 exact pj (us:= .ref a::us) (vs:= .ref a::vs) F hr hb I2 (.cons rfl r) (q2 _)
theorem qD(he:PE X o ta)(hbase:attributeBase o m X.env (eval o X.env)=eval o X.env)(hline:(apos.endLine==pos.line)=true):PE X (.Call (.Attribute o m apos) [] [] pos) (rZ X m ta wW):=by
 intro pins s σ H Q I h;refine mU hbase rfl hline (bU (he pins s σ H _ I h) λu s1 hp pl=>?_);obtain⟨x,H1,I1,rx,a,C,dx,fs,f,k,fd,ps,sp,ex,ea,l,c,hm,F,hr,hb,q⟩:=hp;subst ex;obtain rfl:u=Value.ref a:=rx;refine jI I1 ea c hm l ?_;exact PySem.W.callWith_K0 (first:=[.ref a]) I1.kIn hm.kp (pj (us:=[.ref a]) (vs:=[.ref a]) F hr hb I1 (.cons rfl .nil) (q _))
noncomputable def Bh(K:av):List V->Hp->VK->Prop:=λxs H Q=>∃a C dx fs v c b,xs=[.ref a,v]/\H a=some (.ins C dx fs)/\Cls K C/\PySem.W.findIn K (.ref C) "__class__"=some (some (.builtin "object.__class__"))/\
 PySem.W.specialIn K (.builtin "object.__class__") "__get__"=some (some (.builtin "getset_descriptor.__get__"))/\PySem.W.takesIn K (.builtin "object.__class__")=some true/\PySem.W.mroIn K C (.type "object")=some true/\
 (∀u,RelV v u->u=c)/\PySem.W.kitOne K (.ref C) c=some b/\Q (.bl b) H
theorem um:eZ X (.builtin "isinstance") (Bh X.K):=by
 intro pins s σ H xs us Q I r h;obtain⟨a,C,dx,fs,v,c,b,ex,e,cl,h1,h2,h3,h4,hv,hk,q⟩:=h;subst ex;cases r with
 |cons r1 r2=>
  cases r2 with
  |cons r2 r3=>cases r3;cases hv _ r2;exact qO I r1 (.ins e cl h1 h2 h3 h4) hk λtk=>⟨.bl b,H,I.tok tk,rfl,q⟩
end
theorem _root_.L2.PE.or{X:Cx}{e:Expr}{t u:TE}(h1:PE X e t)(h2:PE X e u):PE X e (λσ H Q=>t σ H Q∨u σ H Q):=λpins s σ H Q I h=>h.elim (h1 pins s σ H Q I) (h2 pins s σ H Q I)
theorem _root_.L2.PS.or{X:Cx}{e:Stmt}{t u:TS}(h1:PS X e t)(h2:PS X e u):PS X e (λD σ H=>t D σ H∨u D σ H):=λpins s σ H D I h=>h.elim (h1 pins s σ H D I) (h2 pins s σ H D I)
theorem bs{o:Option α}{f:α->Option β}{b:β}(h:o.bind f=some b):∃a,o=some a/\f a=some b:=by
 cases o with
 |none=>cases h
 |some a=>exact⟨a,rfl,h⟩
theorem ff{c:Prop}[Decidable c]{x:Option β}{b:β}(h:(if c then x else none)=some b):c/\x=some b:=by
 by_cases k:c
 ·rw[if_pos k] at h;exact⟨k,h⟩
 ·rw[if_neg k] at h;cases h
theorem Bl{c:Prop}[Decidable c]{x y:Option β}{b:β}(h:(if c then x else y)=some b):(c/\x=some b)∨y=some b:=by
 by_cases k:c
 ·rw[if_pos k] at h;exact .inl ⟨k,h⟩
 ·rw[if_neg k] at h;exact .inr h
theorem qI{o:Option α}{G:Option β}{F:α->Option β}{b:β}(h:o.elim G F=some b):(∃a,o=some a/\F a=some b)∨(o=none/\G=some b):=by
 cases o with
 |none=>exact .inr ⟨rfl,h⟩
 |some a=>exact .inl ⟨a,rfl,h⟩
theorem map_some{f:α->β}{o:Option α}{b:β}(h:o.map f=some b):∃a,o=some a/\b=f a:=by
 cases o with
 |none=>cases h
 |some a=>exact⟨a,rfl,(ai h).symm⟩
noncomputable def one{α:Type}:List α->Option α
 |[a]=>some a
 |_=>none
theorem cj{l:List α}{a:α}(h:one l=some a):l=[a]:=by rcases l with _|⟨b,_|⟨c,l⟩⟩<;>cases h;rfl
noncomputable def jy{α:Type}:List α->Option (α×α)
 |[a,b]=>some (a,b)
 |_=>none
theorem dm{l:List α}{p:α×α}(h:jy l=some p):l=[p.1,p.2]:=by rcases l with _|⟨b,_|⟨c,_|⟨d,l⟩⟩⟩<;>cases h;rfl
open PySem.SeqAt
theorem yP{x:V}{v:Value}(ry:RelV y u)(rx:RelV x v)(fy:cC y=true)(fx:cC x=true):RcAt A s u v (qb y x):=by
 cases y with
 |non=>
  cases ry;cases x with
  |non=>cases rx;exact RcAt.none_none
  |bl b=>cases rx;exact RcAt.none_bool b
  |int b=>obtain⟨tb,rfl⟩:=rx;exact RcAt.none_int b tb
  |str b=>obtain⟨tb,rfl⟩:=rx;exact RcAt.none_str b tb
  |_=>exact jM fx
 |bl a=>
  cases ry;cases x with
  |non=>cases rx;exact RcAt.bool_none a
  |bl b=>cases rx;exact RcAt.bool_bool a b
  |int b=>obtain⟨tb,rfl⟩:=rx;exact RcAt.bool_int a b tb
  |str b=>obtain⟨tb,rfl⟩:=rx;exact RcAt.bool_str a b tb
  |_=>exact jM fx
 |int a=>
  obtain⟨ta,rfl⟩:=ry;cases x with
  |non=>cases rx;exact RcAt.int_none a ta
  |bl b=>cases rx;exact RcAt.int_bool a ta b
  |int b=>obtain⟨tb,rfl⟩:=rx;exact RcAt.int_int a ta b tb
  |str b=>obtain⟨tb,rfl⟩:=rx;exact RcAt.int_str a ta b tb
  |_=>exact jM fx
 |str a=>
  obtain⟨ta,rfl⟩:=ry;cases x with
  |non=>cases rx;exact RcAt.str_none a ta
  |bl b=>cases rx;exact RcAt.str_bool a ta b
  |int b=>obtain⟨tb,rfl⟩:=rx;exact RcAt.str_int a ta b tb
  |str b=>obtain⟨tb,rfl⟩:=rx;exact RcAt.str_str a ta b tb
  |_=>exact jM fx
 |_=>exact jM fy
theorem uw{x:V}{v:Value}(ry:RelV y u)(rx:RelV x v)(fy:cC y=true)(fx:cC x=true):RcNeAt A s u v (!qb y x):=by
 cases y with
 |non=>
  cases ry;cases x with
  |non=>cases rx;exact RcNeAt.none_none
  |bl b=>cases rx;exact RcNeAt.none_bool b
  |int b=>obtain⟨tb,rfl⟩:=rx;exact RcNeAt.none_int b tb
  |str b=>obtain⟨tb,rfl⟩:=rx;exact RcNeAt.none_str b tb
  |_=>exact jM fx
 |bl a=>
  cases ry;cases x with
  |non=>cases rx;exact RcNeAt.bool_none a
  |bl b=>cases rx;exact RcNeAt.bool_bool a b
  |int b=>obtain⟨tb,rfl⟩:=rx;exact RcNeAt.bool_int a b tb
  |str b=>obtain⟨tb,rfl⟩:=rx;exact RcNeAt.bool_str a b tb
  |_=>exact jM fx
 |int a=>
  obtain⟨ta,rfl⟩:=ry;cases x with
  |non=>cases rx;exact RcNeAt.int_none a ta
  |bl b=>cases rx;exact RcNeAt.int_bool a ta b
  |int b=>obtain⟨tb,rfl⟩:=rx;exact RcNeAt.int_int a ta b tb
  |str b=>obtain⟨tb,rfl⟩:=rx;exact RcNeAt.int_str a ta b tb
  |_=>exact jM fx
 |str a=>
  obtain⟨ta,rfl⟩:=ry;cases x with
  |non=>cases rx;exact RcNeAt.str_none a ta
  |bl b=>cases rx;exact RcNeAt.str_bool a ta b
  |int b=>obtain⟨tb,rfl⟩:=rx;exact RcNeAt.str_int a ta b tb
  |str b=>obtain⟨tb,rfl⟩:=rx;exact RcNeAt.str_str a ta b tb
  |_=>exact jM fx
 |_=>exact jM fy
theorem jX{items:Array Value}(hl:s.heap.IsList l items)(hu:A.units<cLine){x:V}{v:Value}(rx:RelV x v)(fx:cC x=true):RcAt A s (.ref l) v false:=by
 cases x with
 |non=>cases rx;exact RcAt.list_none hl hu
 |bl b=>cases rx;exact RcAt.list_bool b hl hu
 |int b=>obtain⟨tb,rfl⟩:=rx;exact RcAt.list_int b tb hl hu
 |str b=>obtain⟨tb,rfl⟩:=rx;exact RcAt.list_str b tb hl hu
 |_=>exact jM fx
theorem jY{items:Array Value}(hl:s.heap.IsList l items)(hu:A.units<cLine){x:V}{v:Value}(rx:RelV x v)(fx:cC x=true):RcAt A s v (.ref l) false:=by
 cases x with
 |non=>cases rx;exact RcAt.none_list hl hu
 |bl b=>cases rx;exact RcAt.bool_list b hl hu
 |int b=>obtain⟨tb,rfl⟩:=rx;exact RcAt.int_list b tb hl hu
 |str b=>obtain⟨tb,rfl⟩:=rx;exact RcAt.str_list b tb hl hu
 |_=>exact jM fx
theorem mj{items:Array Value}(hl:s.heap.IsList l items)(hu:A.units<cLine){x:V}{v:Value}(rx:RelV x v)(fx:cC x=true):RcNeAt A s (.ref l) v true:=by
 cases x with
 |non=>cases rx;exact RcNeAt.list_none hl hu
 |bl b=>cases rx;exact RcNeAt.list_bool b hl hu
 |int b=>obtain⟨tb,rfl⟩:=rx;exact RcNeAt.list_int b tb hl hu
 |str b=>obtain⟨tb,rfl⟩:=rx;exact RcNeAt.list_str b tb hl hu
 |_=>exact jM fx
theorem ml{items:Array Value}(hl:s.heap.IsList l items)(hu:A.units<cLine){x:V}{v:Value}(rx:RelV x v)(fx:cC x=true):RcNeAt A s v (.ref l) true:=by
 cases x with
 |non=>cases rx;exact RcNeAt.none_list hl hu
 |bl b=>cases rx;exact RcNeAt.bool_list b hl hu
 |int b=>obtain⟨tb,rfl⟩:=rx;exact RcNeAt.int_list b tb hl hu
 |str b=>obtain⟨tb,rfl⟩:=rx;exact RcNeAt.str_list b tb hl hu
 |_=>exact jM fx
theorem iP{items:Array Value}(hl:s.heap.IsTuple l items)(hu:A.units<cLine){x:V}{v:Value}(rx:RelV x v)(fx:cC x=true):RcAt A s (.ref l) v false:=by
 cases x with
 |non=>cases rx;exact RcAt.tuple_none hl hu
 |bl b=>cases rx;exact RcAt.tuple_bool b hl hu
 |int b=>obtain⟨tb,rfl⟩:=rx;exact RcAt.tuple_int b tb hl hu
 |str b=>obtain⟨tb,rfl⟩:=rx;exact RcAt.tuple_str b tb hl hu
 |_=>exact jM fx
theorem iQ{items:Array Value}(hl:s.heap.IsTuple l items)(hu:A.units<cLine){x:V}{v:Value}(rx:RelV x v)(fx:cC x=true):RcAt A s v (.ref l) false:=by
 cases x with
 |non=>cases rx;exact RcAt.none_tuple hl hu
 |bl b=>cases rx;exact RcAt.bool_tuple b hl hu
 |int b=>obtain⟨tb,rfl⟩:=rx;exact RcAt.int_tuple b tb hl hu
 |str b=>obtain⟨tb,rfl⟩:=rx;exact RcAt.str_tuple b tb hl hu
 |_=>exact jM fx
theorem kf{items:Array Value}(hl:s.heap.IsTuple l items)(hu:A.units<cLine){x:V}{v:Value}(rx:RelV x v)(fx:cC x=true):RcNeAt A s (.ref l) v true:=by
 cases x with
 |non=>cases rx;exact RcNeAt.tuple_none hl hu
 |bl b=>cases rx;exact RcNeAt.tuple_bool b hl hu
 |int b=>obtain⟨tb,rfl⟩:=rx;exact RcNeAt.tuple_int b tb hl hu
 |str b=>obtain⟨tb,rfl⟩:=rx;exact RcNeAt.tuple_str b tb hl hu
 |_=>exact jM fx
theorem kg{items:Array Value}(hl:s.heap.IsTuple l items)(hu:A.units<cLine){x:V}{v:Value}(rx:RelV x v)(fx:cC x=true):RcNeAt A s v (.ref l) true:=by
 cases x with
 |non=>cases rx;exact RcNeAt.none_tuple hl hu
 |bl b=>cases rx;exact RcNeAt.bool_tuple b hl hu
 |int b=>obtain⟨tb,rfl⟩:=rx;exact RcNeAt.int_tuple b tb hl hu
 |str b=>obtain⟨tb,rfl⟩:=rx;exact RcNeAt.str_tuple b tb hl hu
 |_=>exact jM fx
theorem kX{b:Value}{k:Bool}(hne:(Value.ref l==b)=false)(h:RcAt A s (.ref l) b k):EqAt A s (.ref l) b k:=λprog w E Q hq=>by
 unfold eqBool;refine wpAny_holding ?_;refine wpAny_ite_split (λhab=>absurd hab (by rw[hne];exact aF)) (λ_=>?_)
 exact aa (h prog w E _ (wpAny_truthy_bool hq))
theorem kW{a:Value}{k:Bool}(hne:(a==Value.ref l)=false)(h:RcAt A s a (.ref l) k):EqAt A s a (.ref l) k:=λprog w E Q hq=>by
 unfold eqBool;refine wpAny_holding ?_;refine wpAny_ite_split (λhab=>absurd hab (by rw[hne];exact aF)) (λ_=>?_)
 cases a<;>exact aa (h prog w E _ (wpAny_truthy_bool hq))
noncomputable def At(K:av)(H:Hp)(ι:Nat->Addr)(m:Nat)(d:D)(u:Value):Prop:=∃v,VRel K H ι m d v/\RelV v u
noncomputable def uJ(K:av)(H:Hp)(ι:Nat->Addr)(m:Nat)(ds:List D)(us:List Value):Prop:=∃vs,VRels K H ι m ds vs/\bm vs us
theorem uJ.length{K:av}{ds:List D}{us:List Value}(h:uJ K H ι m ds us):ds.length=us.length:=by obtain⟨vs,a,b⟩:=h;rw[a.length,b.length]
inductive ShAt(K:av)(H:Hp)(ι:Nat->Addr)(m:Nat)(s:Shared):Sh->Value->Prop where
 |sc {v:V}{u:Value}(f:cC v=true)(r:RelV v u):ShAt K H ι m s (.sc v) u
 |t {a:Addr}{xs:List D}{its:Array Value}(h:s.heap.IsTuple a its)(r:uJ K H ι m xs its.toList):ShAt K H ι m s (.t xs) (.ref a)
 |l {a:Addr}{xs:List D}{its:Array Value}(h:s.heap.IsList a its)(r:uJ K H ι m xs its.toList):ShAt K H ι m s (.l xs) (.ref a)
 |d {a:Addr}{kvs:List (Key×D)}(h:uB s.heap a)(z:(a==sysModules)=false)(r:∀ns,kvs.map (·.1)=ns.map (Sum.inl:Int->Key)->∃us,wf s.heap a ns us/\uJ K H ι m (kvs.map (·.2)) us):ShAt K H ι m s (.d kvs) (.ref a)
theorem m6:∀{ks:List Key},ks.all tI=true->∃ns:List Int,ks=ns.map (Sum.inl:Int->Key)
 |[],_=>⟨[],rfl⟩
 | .inl n::ks,h=>by
  obtain⟨ns,rfl⟩:=m6 (ks:=ks) (by simpa[tI] using h)
  exact⟨n::ns,rfl⟩
 | .inr _::ks,h=>by simp[tI] at h
theorem DRels.keys{K:av}{ds:List (Key×D)}(h:DRels K H ι m ds vs):ds.map (·.1)=vs.map (·.1):=by
 induction h with
 |nil=>rfl
 |cons h t ih=>rw[List.map_cons,List.map_cons,ih]
theorem DRels.vals{K:av}{ds:List (Key×D)}(h:DRels K H ι m ds vs):VRels K H ι m (ds.map (·.2)) (vs.map (·.2)):=by
 induction h with
 |nil=>exact .nil
 |cons h t ih=>exact .cons h ih
theorem pS:∀{kvs:List (Key×V)}{vs:List (Key×Value)},KV kvs vs->kvs.map (·.1)=vs.map (·.1)
 |_,_,.nil=>rfl
 |_,_,.cons r t=>by rw[List.map_cons,List.map_cons,pS t,r.1]
theorem pR{P:Program}{w:World}:∀{kvs:List (Key×V)}{vs:List (Key×Value)}{es:List DictEntry},KV kvs vs->Pairs (bf P w) es vs->bm (kvs.map (·.2)) (es.map (·.val))
 |_,_,_,.nil,.nil=>.nil
 |_,_,_,.cons r t,.cons h1 h2 u=>.cons (by dsimp only;rw[h2];exact r.2) (pR t u)
theorem v5{h:Heap}{a:Addr}{o:Obj}{es:Array DictEntry}{ep:Nat}{vs:List (Key×Value)}{ns:List Int}(h1:h.get? a=some {cls:= .type "dict",dict:=none,data:= .dict es ep,slots:= #[]})(h4:KeysOf (bf P w) es)(h5:Pairs (bf P w) es.toList vs)(h6:(vs.map (·.1)).Nodup)(e:vs.map (·.1)=ns.map (Sum.inl:Int->Key)):wf h a ns (es.toList.map (·.val)):=by
 have key:∀{es:List DictEntry}{vs:List (Key×Value)},Pairs (bf P w) es vs->∀{j:Nat}{x:DictEntry}{k:Key},es[j]? =some x->(vs.map (·.1))[j]? =some k->eU k x.key=true:=by
  intro es vs p
  induction p with
  |nil=>intro j x k q;simp at q
  |cons a b c ih=>
   intro j x k q1 q2;cases j with
   |zero=>simp at q1 q2;subst q1 q2;exact a
   |succ j=>exact ih (by simpa using q1) (by simpa using q2)
 refine⟨es,ep,h1,rfl,?_,?_,λi x n q1 q2=>?_⟩
 ·rw[e] at h6;exact(List.pairwise_map.mp h6).imp λhab z=>hab (by rw[z])
 ·have l1:=h5.length;have l2:=congrArg List.length e;simp at l1 l2;omega
 ·have k1:=key h5 (j:=i) (x:=x) (k:= .inl n) (by simpa using q1) (by rw[e,aB,q2];rfl)
  rcases bx k1 with⟨i',t,e1,e2⟩|⟨y,t,e1,_⟩
  ·cases e1;obtain⟨k,g1,g2⟩:=h4 x (Array.mem_of_getElem? q1);have:k=.inl n:=(bf P w).inj x.key k (.inl n) g1 k1;subst this;exact⟨⟨t,e2⟩,g2⟩
  ·cases e1
theorem mF{st:aP}{d:D}{sh:Sh}(I:Inv X pins σ H s)(S:Sim X.K H ι st)(h:At X.K H ι st.length d u)(e:shape st d=some sh):
  ShAt X.K H ι st.length s sh u:=by
 obtain⟨v,hv,r⟩:=h;cases hv with
 |non=>cases e;exact .sc rfl r
 |bl b=>cases e;exact .sc rfl r
 |int i=>cases e;exact .sc rfl r
 |str x=>cases e;exact .sc rfl r
 |tup h hr=>
  cases e;cases r;obtain⟨its,rv,p,_⟩:=I.tuple h;exact .t p ⟨_,hr,by simpa using rv⟩
 |fl h hr=>
  cases e;cases r;obtain⟨its,rv,p,_⟩:=I.list h.sql;exact .l p.isList ⟨_,hr,by simpa using rv⟩
 | @ref n hn=>
  cases r;simp only[shape] at e;cases q:st[n]? with
  |none=>rw[q] at e;cases e
  |some o=>
   rw[q] at e;have ho:=S.ob n o q;cases o with
   |lst xs=>
    cases e;obtain⟨vs,h1,h2⟩:=ho;obtain⟨its,rv,p,_⟩:=I.list (fW.of h1);exact .l p.isList ⟨_,h2,by simpa using rv⟩
   |dct kvs=>
    cases e;obtain⟨ws,ho,dr⟩:=ho;obtain⟨hz,hS,vs,rv,o,es,ep,h1,h2,h3,h4,h5,h6⟩:=(show bM X.prog X.w H s.heap (ι n) (.dK ws) from I.hok _ _ ho);obtain⟨c1,c2,c3⟩:=h2;obtain⟨cls,dd,data,sl⟩:=o;simp only at c1 c2 c3 h3;subst c1 c2 c3 h3;exact .d ⟨es,ep,h1⟩ hS λns e=>⟨_,v5 (o:=default) h1 h4 h5 h6 (by rw[<-pS rv,<-dr.keys];exact e),_,dr.vals,pR rv h5⟩
   |_=>cases e
theorem all_cons{e:Nat->Bool}{x:Bool}:(List.range (n+1)).all (λj=>match j with|0=>x|j+1=>e j)=(x&&(List.range n).all e):=by rw[List.range_succ_eq_map,List.all_cons,List.all_map];rfl
theorem jC{a:Addr}{o:Obj}(I:Inv X pins σ H s)(h:X.K.lookup a=some o):H a=none:=(I.bs a o (I.ok.mod.kin a o h)).2
theorem n8{a:Addr}(I:Inv X pins σ H s)(h:f6 X.K H a xs)(h':fW X.K H a ys):False:=by obtain⟨_,_,p,_⟩:=I.tuple h;obtain⟨_,_,q,_⟩:=I.list h';exact ne_of_list_tuple q.isList p rfl
theorem k7{a:Addr}(I:Inv X pins σ H s)(h:f6 X.K H a xs):(∃zs,H a=some (.tup zs))∨(∃o u,H a=some (.frz o u))∨H a=none:=by
 rcases h with(h|⟨o,h⟩)|⟨o,_,_,h,_⟩
 ·exact .inl ⟨_,h⟩
 ·exact .inr (.inl ⟨_,_,h⟩)
 ·exact .inr (.inr (jC I h))
theorem tV{a:Addr}(I:Inv X pins σ H s)(h:uH X.K H a xs):(∃o u,H a=some (.frz o u))∨H a=none:=by
 rcases h with⟨o,h⟩|⟨o,_,_,h,_⟩
 ·exact .inl ⟨_,_,h⟩
 ·exact .inr (jC I h)
theorem Sim.obj{K:av}{st:aP}(S:Sim K H ι st)(h:n<st.length):∃u,H (ι n)=some u/\(∀xs,u≠ .tup xs)/\∀ob w,u≠ .frz ob w:=
 (S.ob n st[n] (by simp[h])).there
mutual
theorem VRel.uniq{st:aP}(I:Inv X pins σ H s)(S:Sim X.K H ι st):∀{d d':D}{v:V},VRel X.K H ι st.length d v->VRel X.K H ι st.length d' v->d=d'
 |_,_,_,.non,h=>by cases h;rfl
 |_,_,_,.bl b,h=>by cases h;rfl
 |_,_,_,.int i,h=>by cases h;rfl
 |_,_,_,.str x,h=>by cases h;rfl
 |_,_,_,.tup h r,h'=>by
  cases h' with
  |tup q r'=>rw[I.tuple_inj h q] at r;rw[VRels.uniq I S r r']
  |fl q _=>exact(n8 I h q.sql).elim
  |ref q=>
   obtain⟨u,e',n1,n2⟩:=S.obj q;rcases k7 I h with⟨_,e⟩|⟨_,_,e⟩|e<;>rw[e] at e'<;>first|(cases e';done)|(cases e';exact absurd rfl (n1 _))|(cases e';exact absurd rfl (n2 _ _))
 |_,_,_,.fl h r,h'=>by
  cases h' with
  |tup q _=>exact(n8 I q h.sql).elim
  |fl q r'=>rw[I.list_inj h.sql q.sql] at r;rw[VRels.uniq I S r r']
  |ref q=>
   obtain⟨u,e',n1,n2⟩:=S.obj q;rcases tV I h with⟨_,_,e⟩|e<;>rw[e] at e'<;>first|(cases e';done)|(cases e';exact absurd rfl (n1 _))|(cases e';exact absurd rfl (n2 _ _))
 |_,_,_,.ref (n:=n) q,h'=>by
  generalize hz:V.ref (ι n)=z at h';cases h' with
  |tup h _=>
   injection hz with hz;rw[<-hz] at h;obtain⟨u,e',n1,n2⟩:=S.obj q;rcases k7 I h with⟨_,e⟩|⟨_,_,e⟩|e<;>rw[e] at e'<;>first|(cases e';done)|(cases e';exact absurd rfl (n1 _))|(cases e';exact absurd rfl (n2 _ _))
  |fl h _=>
   injection hz with hz;rw[<-hz] at h;obtain⟨u,e',n1,n2⟩:=S.obj q;rcases tV I h with⟨_,_,e⟩|e<;>rw[e] at e'<;>first|(cases e';done)|(cases e';exact absurd rfl (n1 _))|(cases e';exact absurd rfl (n2 _ _))
  |ref q'=>injection hz with hz;rw[S.inj _ _ q q' hz]
  |_=>cases hz
theorem VRels.uniq{st:aP}(I:Inv X pins σ H s)(S:Sim X.K H ι st):∀{ds ds':List D}{vs:List V},VRels X.K H ι st.length ds vs->VRels X.K H ι st.length ds' vs->ds=ds'
 |_,_,_,.nil,h=>by cases h;rfl
 |_,_,_,.cons r t,h=>by
  cases h with
  |cons r' t'=>rw[VRel.uniq I S r r',VRels.uniq I S t t']
end
theorem At.uniq{st:aP}{a b:D}(I:Inv X pins σ H s)(S:Sim X.K H ι st)(ha:At X.K H ι st.length a u)(hb:At X.K H ι st.length b u):a=b:=by obtain⟨v,h1,r1⟩:=ha;obtain⟨w,h2,r2⟩:=hb;rw[r1.inj r2] at h1;exact h1.uniq I S h2
theorem t4(h:cC v=true):qb v v=true:=by cases v<;>simp_all [qb,cC]
theorem n5{st:aP}{d:D}(h:shape st d=some (.sc v)):cC v=true:=by
 cases d with
 |ref n=>simp only[shape] at h;split at h<;>cases h
 |_=>cases h<;>rfl
theorem eS{f:D->D->Option Bool}(hf:∀x k,f x x=some k->k=true):∀{xs:List D}{k:Bool},dF f xs xs=some k->k=true
 |[],k,e=>(ai e).symm
 |x::xs,k,e=>by
  unfold dF at e;cases e1:f x x with
  |none=>rw[e1] at e;simp at e
  |some p=>
   cases e2:dF f xs xs with
   |none=>rw[e1,e2] at e;simp at e
   |some q=>rw[e1,e2] at e;have e':(p&&q)=k:=ai e;rw[<-e',hf _ _ e1,eS hf e2];rfl
theorem jD{f:D->D->Option Bool}(hf:∀x k,f x x=some k->k=true){x:D}{k:Bool}(e:mn f x x=some k):k=true:=by
 unfold mn at e;split at e
 ·split at e
  ·exact(ai e).symm
  ·exact hf _ _ e
 ·exact hf _ _ e
theorem gX{st:aP}:∀(n:Nat){a:D}{k:Bool},dj n st a a=some k->k=true
 |0,_,_,e=>by unfold dj at e;cases e
 |n+1,a,k,e=>by
  unfold dj at e;cases ea:shape st a with
  |none=>rw[ea] at e;simp at e
  |some sa=>
   rw[ea] at e;cases sa with
   |sc v=>have e':qb v v=k:=ai e;rw[<-e',t4 (n5 ea)]
   |t xs=>exact eS (λ_ _=>jD λ_ _=>gX n) e
   |l xs=>exact eS (λ_ _=>jD λ_ _=>gX n) e
   |d kvs=>obtain⟨_,e⟩:=ff e;exact eS (λ_ _=>jD λ_ _=>gX n) e
theorem p9(ry:RelV y u)(fy:cC y=true):(u==Value.ref l)=false:=by
 cases y with
 |non=>cases ry;rfl
 |bl b=>cases ry;rfl
 |int i=>obtain⟨t,rfl⟩:=ry;rfl
 |str i=>obtain⟨t,rfl⟩:=ry;rfl
 |_=>cases fy
theorem pL(ry:RelV y u)(fy:cC y=true):(Value.ref l==u)=false:=by
 cases y with
 |non=>cases ry;rfl
 |bl b=>cases ry;rfl
 |int i=>obtain⟨t,rfl⟩:=ry;rfl
 |str i=>obtain⟨t,rfl⟩:=ry;rfl
 |_=>cases fy
theorem qc{X:Cx}{pins:List (Addr×Obj)}{σ:L2.St}{H:Hp}{s:Shared}{ι:Nat->Addr}{st:aP}(I:Inv X pins σ H s)(S:Sim X.K H ι st){n:Nat}
  (ih:∀{a b:D}{u v:Value}{A:Around}{k:Bool},mn (dj n st) a b=some k->At X.K H ι st.length a u->At X.K H ι st.length b v->A.units+n<cLine->EqAt A s u v k):
  ∀{xs ys:List D}{us vs:List Value}{A:Around}{k:Bool},dF (mn (dj n st)) xs ys=some k->uJ X.K H ι st.length xs us->uJ X.K H ι st.length ys vs->A.units+n<cLine->
  ∃e:Nat->Bool,(∀j (h1:j<us.length)(h2:j<vs.length),EqAt A s us[j] vs[j] (e j))/\k=((List.range (min us.length vs.length)).all e&&us.length==vs.length)
 |xs,ys,us,vs,A,k,e,ha,hb,hu=>by
  have la:=ha.length;have lb:=hb.length;unfold dF at e;cases xs with
  |nil=>
   cases us with
   |cons _ _=>simp at la
   |nil=>
    refine⟨λ_=>true,λj h1 _=>absurd h1 (Nat.not_lt_zero _),?_⟩;cases ys with
    |nil=>
     cases vs with
     |cons _ _=>simp at lb
     |nil=>rw[<-ai e];rfl
    |cons y ys=>
     cases vs with
     |nil=>simp at lb
     |cons _ _=>rw[<-ai e];simp
  |cons x xs=>
   cases us with
   |nil=>simp at la
   |cons u us=>
    cases ys with
    |nil=>
     cases vs with
     |cons _ _=>simp at lb
     |nil=>exact⟨λ_=>true,λj _ h2=>absurd h2 (Nat.not_lt_zero _),by rw[<-ai e];simp⟩
    |cons y ys=>
     cases vs with
     |nil=>simp at lb
     |cons v vs=>
      obtain⟨_,r1,q1⟩:=ha;obtain⟨_,r2,q2⟩:=hb;cases q1 with
      |cons w1 w2=>
       cases q2 with
       |cons z1 z2=>
        cases r1 with
        |cons m1 m2=>
         cases r2 with
         |cons n1 n2=>
          simp only at e;cases e1:mn (dj n st) x y with
          |none=>rw[e1] at e;simp at e
          |some p=>
           cases e2:dF (mn (dj n st)) xs ys with
           |none=>rw[e1,e2] at e;simp at e
           |some q=>
            rw[e1,e2] at e;have hE:=ih (A:=A) e1 ⟨_,m1,w1⟩ ⟨_,n1,z1⟩ hu;obtain⟨f,hf,hk⟩:=qc I S ih (A:=A) e2 ⟨_,m2,w2⟩ ⟨_,n2,z2⟩ hu;refine⟨λj=>match j with|0=>p|j+1=>f j,λj h1 h2=>?_,?_⟩
            ·cases j with
             |zero=>exact hE
             |succ j=>exact hf j (by simpa using h1) (by simpa using h2)
            ·have e3:min (u::us).length (v::vs).length=min us.length vs.length+1:=by simp only[List.length_cons];omega
             have e4:((u::us).length==(v::vs).length)=(us.length==vs.length):=by simp
             rw[e3,e4,all_cons,<-ai e,hk,Bool.and_assoc]
theorem vV{st:aP}{f:D->D->Option Bool}{a b:D}{v:Value}{k:Bool}(h:f a b=some k->EqAt A s u v k)(e:mn f a b=some k)(pa:At X.K H ι st.length a u)(pb:At X.K H ι st.length b v):EqAt A s u v k:=by
 unfold mn at e;split at e
 ·rename_i i j;split at e
  ·rename_i hij;subst hij;obtain⟨y,q1,r1⟩:=pa;obtain⟨z,q2,r2⟩:=pb;cases q1;cases q2;cases r1;cases r2;rw[<-ai e];exact EqAt.same _
  ·exact h e
 ·exact h e
theorem iD{X:Cx}{pins:List (Addr×Obj)}{σ:L2.St}{H:Hp}{s:Shared}{ι:Nat->Addr}{st:aP}(I:Inv X pins σ H s)(S:Sim X.K H ι st):∀(n:Nat){a b:D}{u v:Value}{A:Around}{k:Bool},dj n st a b=some k->At X.K H ι st.length a u->At X.K H ι st.length b v->A.units+n<cLine->
  RcAt A s u v k/\RcNeAt A s u v (!k)/\EqAt A s u v k
 |0,_,_,_,_,_,_,e,_,_,_=>by unfold dj at e;cases e
 |n+1,a,b,u,v,A,k,e,pa,pb,hu=>by
  have hu0:A.units<cLine:=by omega
  have hu1:A.in1.units+n<cLine:=by show A.units+1+n<cLine;omega
  have e0:=e;unfold dj at e;cases ea:shape st a with
  |none=>rw[ea] at e;simp at e
  |some sa=>
   cases eb:shape st b with
   |none=>rw[ea,eb] at e;simp at e
   |some sb=>
    rw[ea,eb] at e;have ua:=mF I S pa ea;have ub:=mF I S pb eb
    have refs:∀{l l':Addr},u=.ref l->v=.ref l'->RcAt A s u v k->RcNeAt A s u v (!k)->RcAt A s u v k/\RcNeAt A s u v (!k)/\EqAt A s u v k:=λ{l l'} h1 h2 h3 h4=>by
     refine⟨h3,h4,?_⟩;by_cases hl:l=l'
     ·have huv:u=v:=by rw[h1,h2,hl]
      subst huv;have:=pa.uniq I S pb;subst this;rw[gX _ e0];exact EqAt.same _
     ·subst h1 h2;exact EqAt.of_refs hl h3
    have seqs:∀{xs ys:List D}{us vs:List Value},dF (mn (dj n st)) xs ys=some k->uJ X.K H ι st.length xs us->uJ X.K H ι st.length ys vs->
      ∃e:Nat->Bool,(∀j (h1:j<us.length)(h2:j<vs.length),EqAt A.in1 s us[j] vs[j] (e j))/\k=((List.range (min us.length vs.length)).all e&&us.length==vs.length):=λq ra rb=>qc I S (λa b c d=>vV (X:=X) (H:=H) (ι:=ι) (st:=st) (λa=>(iD I S n a b c d).2.2) a b c) q ra rb hu1
    cases ua with
    |sc fa ra=>
     cases ub with
     |sc fb rb=>cases e;exact⟨yP ra rb fa fb,uw ra rb fa fb,yu ra rb fa fb⟩
     |t hb _=>cases e;exact⟨iQ hb hu0 ra fa,kg hb hu0 ra fa,kW (p9 ra fa) (iQ hb hu0 ra fa)⟩
     |l hb _=>cases e;exact⟨jY hb hu0 ra fa,ml hb hu0 ra fa,kW (p9 ra fa) (jY hb hu0 ra fa)⟩
     |d hb _ _=>cases e
    | @t a1 xs its ha ra=>
     cases ub with
     |sc fb rb=>cases e;exact⟨iP ha hu0 rb fb,kf ha hu0 rb fb,kX (pL rb fb) (iP ha hu0 rb fb)⟩
     | @t b1 ys its2 hb rb=>
      obtain⟨f,hf,hk⟩:=seqs e ra rb
      have hf':∀j (h1:j<its.size)(h2:j<its2.size),EqAt A.in1 s its[j] its2[j] (f j):=λj h1 h2=>by
       have q:=hf j (by simpa using h1) (by simpa using h2)
       rw[Array.getElem_toList,Array.getElem_toList] at q;exact q
      have q1:=RcAt.tuples ha hb hu0 hf';have q2:=RcNeAt.tuples ha hb hu0 hf';have ek:((List.range (min its.size its2.size)).all f&&its.size==its2.size)=k:=by rw[hk];simp
      rw[ek] at q1 q2;exact refs rfl rfl q1 q2
     |l hb _=>cases e;exact refs rfl rfl (RcAt.tuple_list ha hb hu0) (RcNeAt.tuple_list ha hb hu0)
     |d hb _ _=>cases e
    | @l a1 xs its ha ra=>
     cases ub with
     |sc fb rb=>cases e;exact⟨jX ha hu0 rb fb,mj ha hu0 rb fb,kX (pL rb fb) (jX ha hu0 rb fb)⟩
     |t hb _=>cases e;exact refs rfl rfl (RcAt.list_tuple ha hb hu0) (RcNeAt.list_tuple ha hb hu0)
     | @l b1 ys its2 hb rb=>
      obtain⟨f,hf,hk⟩:=seqs e ra rb
      have hf':∀j (h1:j<its.size)(h2:j<its2.size),EqAt A.in1 s its[j] its2[j] (f j):=λj h1 h2=>by
       have q:=hf j (by simpa using h1) (by simpa using h2)
       rw[Array.getElem_toList,Array.getElem_toList] at q;exact q
      by_cases hsz:its.size=its2.size
      ·have q1:=RcAt.lists ha hb hsz hu0 hf';have q2:=RcNeAt.lists ha hb hsz hu0 hf';have ek:(List.range its.size).all f=k:=by rw[hk];simp[hsz]
       rw[ek] at q1 q2;exact refs rfl rfl q1 q2
      ·have ek:k=false:=by rw[hk];simp[hsz]
       subst ek;exact refs rfl rfl (RcAt.lists_lengths ha hb (by simpa using hsz) hu0) (RcNeAt.lists_lengths ha hb (by simpa using hsz) hu0)
     |d hb _ _=>cases e
    |d ha za ra=>
     cases ub with
     |l hb _=>cases e;exact refs rfl rfl (RcAt.dict_list ha hb hu0) (RcNeAt.dict_list ha hb hu0)
     |d hb zb rb=>
      obtain⟨⟨k1,k2⟩,e⟩:=ff e;obtain⟨ns,en⟩:=m6 k2;obtain⟨us,d1,a1⟩:=ra ns en;obtain⟨vs,d2,a2⟩:=rb ns (by rw[<-k1];exact en)
      obtain⟨f,hf,hk⟩:=seqs e a1 a2
      have l1:us.length=vs.length:=by have q1:=a1.length;have q2:=a2.length;have q3:=congrArg List.length k1;simp at q1 q2 q3;omega
      obtain⟨q1,q2⟩:=RcAt.dicts za zb d1 d2 hu0 hf;have ek:(List.range us.length).all f=k:=by rw[hk];simp[l1]
      rw[ek] at q1 q2;exact refs rfl rfl q1 q2
     |_=>cases e
noncomputable def ci:List (Key×D)->Key->Option D
 |[],_=>none
 |p::r,k=>if p.1=k then some p.2 else ci r k
noncomputable abbrev Loc:=List (Option D)
inductive Bo where
 |add|sub|mul|fdiv|mod|pow
inductive Bt where
 |len|list|tuple|int|dict|max|min
inductive Ex where
 |c (d:D)|v (i:Nat)|tup (es:List Ex)|lst (es:List Ex)|emp
 |bin (op:Bo)(a b:Ex)|not (a:Ex)|and (a b:Ex)|or (a b:Ex)
 |cmp (op:CmpOp)(a b:Ex)|chain (op op':CmpOp)(a b c:Ex)
 |ix (a b:Ex)|sl (a lo hi:Ex)(hl hh:Bool)
 |fn (f:Nat) (args:List Ex)|bt (f:Bt)(args:List Ex)
 |comp (rng:Bool)(src elt:Ex)|compIf (src test elt:Ex)
 |dict (ks:List Str) (vs:List Ex)|pop (o:Ex)
 |fld (a:Ex)(f:Str)(cs ics:List Str)
 |new (x:Str) (f:Nat) (args:List Ex)|meth (o:Ex)(m:Str)(ms:List (Str×Nat))(args:List Ex)
 |compU (src elt:Ex)|isk (a:Ex)(x:Str)|sit (a:Ex)|keq (i j:Nat)|inV (a b:Ex)|dget (a b c:Ex)
noncomputable def alloc(xs:List D):M D:=λst=>.ok (.ref st.length) (st++[.lst xs])
noncomputable def allocD:M D:=λst=>.ok (.ref st.length) (st++[.dct []])
noncomputable def bp(st:aP):D->Option (List D)
 | .tup xs=>some xs
 | .fl xs=>some xs
 | .ref n=>match st[n]? with
  |some (.lst xs)=>some xs
  |_=>none
 |_=>none
noncomputable def xA(x:D):M D:=λst=>match x with
 | .ref n=>match st[n]? with
  |some (.lst xs)=>match xs[0]? with
   |some y=>.ok y (st.set n (.lst (xs.drop 1)))
   |none=>.bad
  |_=>.bad
 |_=>.bad
noncomputable def big:Int:=18446744073709551616
noncomputable def ii(f:Int->Int->M D)(x y:D):M D:=match x with
 | .int i=>(match y with
  | .int j=>f i j
  |_=>stuck)
 |_=>stuck
noncomputable def addD(x y:D):M D:=match x with
 | .int i=>(match y with
  | .int j=>ret (.int (i+j))
  |_=>stuck)
 | .tup as=>(match y with
  | .tup bs=>(match as with
   |[]=>ret (.tup bs)
   |a::as=>λst=>if(a::as).length+bs.length<=1000000 then .ok (.tup (a::as++bs)) st else .bad)
  |_=>stuck)
 | .ref m=>(match y with
  | .ref n=>λst=>match st[m]?,st[n]? with
   |some (.lst as),some (.lst bs)=>if as.length+bs.length<=1000000 then alloc (as++bs) st else .bad
   |_,_=>.bad
  |_=>stuck)
 |_=>stuck
noncomputable def sX(x y:D):M D:=match x with
 | .int i=>(match y with
  | .int j=>λst=>if((-big<i/\i<big)∨(-big<j/\j<big))∨(i.natAbs<2^1000/\j.natAbs<2^1000) then .ok (.int (i*j)) st else .bad
  |_=>stuck)
 | .ref m=>(match y with
  | .int j=>λst=>match st[m]? with
   |some (.lst xs)=>if 0<=j/\j<=1000/\xs.length<=1000 then alloc (List.replicate j.toNat xs).flatten st else .bad
   |_=>.bad
  |_=>stuck)
 |_=>stuck
noncomputable def cf(op:Bo)(x y:D):M D:=match op with
 | .add=>addD x y
 | .sub=>ii (λi j=>ret (.int (i - j))) x y
 | .mul=>sX x y
 | .fdiv=>ii (λi j st=>if j≠0/\j.natAbs<2^200 then .ok (.int (i.fdiv j)) st else .bad) x y
 | .mod=>ii (λi j st=>if j≠0 then .ok (.int (i.fmod j)) st else .bad) x y
 | .pow=>ii (λi j st=>if 0<=j/\j<=1000/\i.natAbs<1000 then .ok (.int (i^j.toNat)) st else .bad) x y
noncomputable def dM(st:aP)(x:D):List D->Option Bool
 |[]=>some false
 |y::ys=>match dj 60 st y x,dM st x ys with
  |some a,some b=>some (a||b)
  |_,_=>none
noncomputable def mW(o:D):M Unit:=λst=>match o with
 | .ref n=>match st[n]? with
  |some (.lst _)=>.ok () st
  |_=>.bad
 |_=>.bad
noncomputable def j9:D->Option Key
 | .int i=>some (.inl i)
 | .str s=>some (.inr s)
 |_=>none
noncomputable def iE(st:aP)(x y:D):Option Bool:=match y with
 | .ref n=>match st[n]? with
  |some (.dct kvs)=>match j9 x with
   |some k=>some (ci kvs k).isSome
   |none=>match x with
    | .non=>some false
    |_=>none
  |_=>none
 |_=>none
noncomputable def yT(x y:D):Option Bool:=match y with
 | .non=>some (match x with| .non=>true|_=>false)
 |_=>none
noncomputable def bZ(op:CmpOp)(x y:D):M D:=λst=>match op with
 | .Eq=>match dj 60 st x y with
  |some k=>.ok (.bl k) st
  |none=>.bad
 | .NotEq=>match dj 60 st x y with
  |some k=>.ok (.bl (!k)) st
  |none=>.bad
 | .Lt=>match x,y with
  | .int i,.int j=>.ok (.bl (decide (i<j))) st
  |_,_=>.bad
 | .LtE=>match x,y with
  | .int i,.int j=>.ok (.bl (decide (i<=j))) st
  |_,_=>.bad
 | .Gt=>match x,y with
  | .int i,.int j=>.ok (.bl (decide (j<i))) st
  |_,_=>.bad
 | .In=>match bp st y with
  |some ys=>match dM st x ys with
   |some k=>.ok (.bl k) st
   |none=>.bad
  |none=>match iE st x y with
   |some k=>.ok (.bl k) st
   |none=>.bad
 | .NotIn=>match bp st y with
  |some ys=>match dM st x ys with
   |some k=>.ok (.bl (!k)) st
   |none=>.bad
  |none=>match iE st x y with
   |some k=>.ok (.bl (!k)) st
   |none=>.bad
 | .Is=>match yT x y with
  |some k=>.ok (.bl k) st
  |none=>.bad
 | .IsNot=>match yT x y with
  |some k=>.ok (.bl (!k)) st
  |none=>.bad
 |_=>.bad
noncomputable def yV(st:aP)(x:D)(k:Key):R D:=match x with
 | .ref n=>match st[n]? with
  |some (.dct kvs)=>match ci kvs k with
   |some d=>.ok d st
   |none=>.bad
  |_=>.bad
 |_=>.bad
noncomputable def index(x y:D):M D:=λst=>match x,y with
 |x,.int i=>match bp st x with
  |some xs=>match qm xs i with
   |some d=>.ok d st
   |none=>.bad
  |none=>yV st x (.inl i)
 |x,.str k=>yV st x (.inr k)
 |_,_=>.bad
noncomputable def BZ:D->Option (Key×D)
 | .tup xs=>(jy xs).bind λp=>(j9 p.1).map λk=>(k,p.2)
 |_=>none
noncomputable def qz:List D->Option (List (Key×D))
 |[]=>some []
 |x::r=>(BZ x).bind λp=>(qz r).map λq=>p::q
noncomputable def bS(kvs:List (Key×D))(k:Key)(v:D):List (Key×D):=if(kvs.any λkv=>decide (kv.1=k)) then kvs.map (λkv=>if kv.1=k then(kv.1,v) else kv) else kvs++[(k,v)]
noncomputable def tX(ps:List (Key×D)):List (Key×D):=ps.foldl (λacc p=>bS acc p.1 p.2) []
noncomputable def ck(st:aP):D->Option (List (Key×D))
 | .ref n=>match st[n]? with
  |some (.dct kvs)=>some kvs
  |_=>none
 |_=>none
noncomputable def rn(f:Bt)(x:D):M D:=match f with
 | .len=>λst=>match bp st x with
  |some xs=>.ok (.int xs.length) st
  |none=>match ck st x with
   |some kvs=>.ok (.int kvs.length) st
   |none=>.bad
 | .list=>λst=>match bp st x with
  |some xs=>alloc xs st
  |none=>.bad
 | .tuple=>λst=>match bp st x with
  |some xs=>.ok (.tup xs) st
  |none=>.bad
 | .int=>(match x with
  | .bl b=>ret (.int (if b then 1 else 0))
  |_=>stuck)
 | .dict=>(match x with
  | .tup xs=>λst=>match qz xs with
   |some ps=>.ok (.ref st.length) (st++[.dct (tX ps)])
   |none=>.bad
  |x=>λst=>match ck st x with
   |some kvs=>.ok (.ref st.length) (st++[.dct kvs])
   |none=>.bad)
 |_=>stuck
noncomputable def AB(f:Bt)(x y:D):M D:=match f with
 | .max=>ii (λi j=>ret (.int (if j>i then j else i))) x y
 | .min=>ii (λi j=>ret (.int (if j<i then j else i))) x y
 |_=>stuck
noncomputable def dW(f:Bt)(ds:List D):M D:=match ds with
 |[x]=>rn f x
 |[x,y]=>AB f x y
 |_=>stuck
inductive Src where
 |its (xs:List D)|at(n:Nat)|zp (x y:D)
noncomputable def bL(n:Nat):List D:=(List.range n).map λ(i:Nat)=>D.int (i:Int)
noncomputable def cm(rng:Bool)(d:D):Option Src:=match rng,d with
 |true,.int j=>if -1000000<=j/\j<=1000000 then some (.its (bL j.toNat)) else none
 |false,.tup xs=>some (.its xs)
 |false,.fl xs=>some (.its xs)
 |false,.ref n=>some (.at n)
 |_,_=>none
noncomputable def cI(i:Int)(n:Nat):List D:=(List.range n).map λ(k:Nat)=>D.int (i+(k:Int))
noncomputable def gC:D->D->Option Src
 | .int i,.int j=>if(-1000000<=i/\i<=1000000)/\ -1000000<=j/\j<=1000000 then some (.its (cI i (j - i).toNat)) else none
 |_,_=>none
noncomputable def y4:D->D->Option Src
 |x,y=>some (.zp x y)
noncomputable def im(s:Src)(i:Nat)(st:aP):Option (Option D):=match s with
 | .its xs=>some xs[i]?
 | .at n=>match st[n]? with
  |some (.lst xs)=>some xs[i]?
  |_=>none
 | .zp x y=>match bp st x,bp st y with
  |some xs,some ys=>some (match xs[i]?,ys[i]? with
   |some x,some y=>some (.tup [x,y])
   |_,_=>none)
  |_,_=>none
noncomputable def dA(s:Src)(st:aP):Nat:=match s with
 | .its xs=>xs.length
 | .at n=>match st[n]? with
  |some (.lst xs)=>xs.length
  |_=>0
 | .zp x _=>match bp st x with
  |some xs=>xs.length
  |none=>0
noncomputable def d_(f:D->M (Option D))(s:Src):Nat->Nat->List D->M (List D)
 |0,_,_=>stuck
 |k+1,i,acc=>λst=>match im s i st with
  |some (some x)=>ba (f x) (λo=>match o with
   |some y=>d_ f s k (i+1) (acc++[y])
   |none=>d_ f s k (i+1) acc) st
  |some none=>.ok acc st
  |none=>.bad
noncomputable def ce(f:D->M (Option D))(s:Src):M D:=λst=>if dA s st<=1000000 then ba (d_ f s (dA s st+1) 0 []) alloc st else .bad
noncomputable def eg:D->Option Bool
 | .bl b=>some b
 |_=>none
noncomputable def j_:D->Option Int
 | .int i=>some i
 |_=>none
noncomputable def cutD(xs:List D)(lo hi:Option Int):List D:=(xs.drop (HT.cu xs.length 0 lo)).take (HT.cu xs.length xs.length hi - HT.cu xs.length 0 lo)
noncomputable def slice(x:D)(lo hi:Option Int):M D:=λst=>match x with
 | .tup xs=>if HT.cu xs.length 0 lo=0/\HT.cu xs.length xs.length hi=xs.length then .bad else .ok (.tup (cutD xs lo hi)) st
 |x=>match bp st x with
  |some xs=>alloc (cutD xs lo hi) st
  |none=>.bad
noncomputable def allocK(ks:List Str)(ds:List D):M D:=λst=>if ks.length=ds.length/\ks.Nodup then .ok (.ref st.length) (st++[.dct ((ks.zip ds).map λp=>(Sum.inr p.1,p.2))]) else .bad
noncomputable def yq(f:Str)(cs ics:List Str)(x:D):M D:=λst=>match x with
 | .ref n=>match st[n]? with
  |some (.ins c fs)=>match fs.lookup f with
   |some d=>if c∈ics then .ok d st else .bad
   |none=>.bad
  |_=>.bad
 |_=>.bad
noncomputable def pN(m:Str)(ms:List (Str×Nat))(x:D):M Nat:=λst=>match x with
 | .ref n=>match st[n]? with
  |some (.ins c fs)=>match fs.lookup m,ms.lookup c with
   |none,some j=>.ok j st
   |_,_=>.bad
  |_=>.bad
 |_=>.bad
inductive Rs where
 |v (d:D)|x (n:Nat)
noncomputable def Rs.val?:Rs->Option D
 | .v d=>some d
 | .x _=>none
noncomputable abbrev dO:=Nat->List D->M Rs
noncomputable def sZ(g:dO)(x:Str)(f:Nat)(ds:List D):M D:=λst=>ba (g f (.ref st.length::ds)) (λr=>match r with
 | .v .non=>ret (.ref st.length)
 |_=>stuck) (st++[.ins x []])
noncomputable def yi(c:Str)(x:D):M D:=λst=>match x with
 | .ref n=>match st[n]? with
  |some (.ins c' _)=>if c'=c then .ok (.bl true) st else .bad
  |_=>.bad
 |_=>.bad
noncomputable def kA:List (Key×D)->Option (List Int)
 |[]=>some []
 |(.inl n,_)::r=>(kA r).map λns=>n::ns
 |_=>none
noncomputable def w5(x:D):M D:=λst=>match ck st x with
 |some kvs=>match kA kvs with
  |some ns=>if ns.Pairwise (· < ·)/\kvs.length<64 then alloc ((ns.zip kvs).map λp=>.tup [.int p.1,p.2.2]) st else .bad
  |none=>.bad
 |none=>.bad
mutual
noncomputable def oC:D->Bool
 | .tup xs=>fY xs
 | .fl _=>false
 | .ref _=>false
 |_=>true
noncomputable def fY:List D->Bool
 |[]=>true
 |d::ds=>oC d&&fY ds
end
noncomputable def ye:Key->D
 | .inl i=>.int i
 | .inr s=>.str s
noncomputable def oH(all:List (Key×D))(y:D):List (Key×D)->Option (List D)
 |[]=>some []
 |p::r=>(ci all p.1).bind λd=>match dj 60 [] d y,oH all y r with
  |some b,some ks=>some (if b then ye p.1::ks else ks)
  |_,_=>none
noncomputable def vG(x y:D):M D:=λst=>match ck st x with
 |some kvs=>if oC y=true/\fY (kvs.map (·.2))=true/\kvs.length<=1000 then(match oH kvs y kvs with
  |some ks=>alloc ks st
  |none=>.bad) else .bad
 |none=>.bad
noncomputable def yk(x y:D):M D:=λst=>match ck st y with
 |some kvs=>match dM st x (kvs.map (·.2)) with
  |some k=>.ok (.bl k) st
  |none=>.bad
 |none=>.bad
noncomputable def ud(o:D):M Unit:=λst=>match ck st o with
 |some _=>.ok () st
 |none=>.bad
noncomputable def qf(x k z:D):M D:=λst=>match ck st x with
 |some kvs=>match j9 k with
  |some k=>.ok ((ci kvs k).getD z) st
  |none=>match k with
   | .non=>.ok z st
   |_=>.bad
 |none=>.bad
noncomputable def pairF(f:D->D->M D):D->M (Option D):=λx=>match x with
 | .tup [a,b]=>ba (f a b) λy=>ret (some y)
 |_=>stuck
mutual
noncomputable def run(g:dO):Ex->Loc->M D
 | .c d,_=>ret d
 | .v i,loc=>dh (loc[i]?.join)
 | .tup es,loc=>ba (runs g es loc) λds=>ret (.tup ds)
 | .lst es,loc=>ba (runs g es loc) alloc
 | .emp,_=>allocD
 | .bin op a b,loc=>ba (run g a loc) λx=>ba (run g b loc) λy=>cf op x y
 | .not a,loc=>ba (run g a loc) λx=>ba (dh (eg x)) λb=>ret (.bl (!b))
 | .and a b,loc=>ba (run g a loc) λx=>ba (dh (eg x)) λk=>if k then run g b loc else ret (.bl false)
 | .or a b,loc=>ba (run g a loc) λx=>ba (dh (eg x)) λk=>if k then ret (.bl true) else run g b loc
 | .cmp op a b,loc=>ba (run g a loc) λx=>ba (run g b loc) λy=>bZ op x y
 | .chain op op' a b c,loc=>ba (run g a loc) λx=>ba (run g b loc) λy=>ba (bZ op x y) λz=>ba (dh (eg z)) λk=>if k then ba (run g c loc) λw=>bZ op' y w else ret (.bl false)
 | .ix a b,loc=>ba (run g a loc) λx=>ba (run g b loc) λy=>index x y
 | .sl a lo hi hl hh,loc=>ba (run g a loc) λx=>ba (if hl then ba (run g lo loc) λz=>ba (dh (j_ z)) λi=>ret (some i) else ret none) λl=>
   ba (if hh then ba (run g hi loc) λz=>ba (dh (j_ z)) λi=>ret (some i) else ret none) λh=>slice x l h
 | .fn f args,loc=>ba (runs g args loc) λds=>ba (g f ds) λr=>dh r.val?
 | .bt f args,loc=>ba (runs g args loc) λds=>dW f ds
 | .comp rng src elt,loc=>ba (run g src loc) λd=>ba (dh (cm rng d)) λs=>ce (λx=>ba (run g elt (some x::loc)) λy=>ret (some y)) s
 | .dict ks es,loc=>ba (runs g es loc) λds=>allocK ks ds
 | .fld a f cs ics,loc=>ba (run g a loc) λx=>yq f cs ics x
 | .new x f args,loc=>ba (runs g args loc) λds=>sZ g x f ds
 | .meth o m ms args,loc=>ba (run g o loc) λx=>ba (pN m ms x) λj=>ba (runs g args loc) λds=>ba (g j (x::ds)) λr=>dh r.val?
 | .compU src elt,loc=>ba (run g src loc) λd=>ba (dh (cm false d)) λs=>ce (pairF λa b=>run g elt (some a::some b::loc)) s
 | .pop o,loc=>ba (run g o loc) λx=>xA x
 | .compIf src test elt,loc=>ba (run g src loc) λd=>ba (dh (cm false d)) λs=>ce (λx=>ba (run g test (some x::loc)) λz=>ba (dh (eg z)) λk=>if k then ba (run g elt (some x::loc)) λy=>ret (some y) else ret none) s
 | .isk a c,loc=>ba (run g a loc) λx=>yi c x
 | .sit a,loc=>ba (run g a loc) λx=>w5 x
 | .keq i j,loc=>ba (dh (loc[i]?.join)) λx=>ba (dh (loc[j]?.join)) λy=>vG x y
 | .inV a b,loc=>ba (run g a loc) λx=>ba (run g b loc) λy=>yk x y
 | .dget a b c,loc=>ba (run g a loc) λx=>ba (ud x) λ_=>ba (run g b loc) λk=>ba (run g c loc) λz=>qf x k z
noncomputable def runs(g:dO):List Ex->Loc->M (List D)
 |[],_=>ret []
 |e::es,loc=>ba (run g e loc) λd=>ba (runs g es loc) λds=>ret (d::ds)
end
inductive S where
 |set (i:Nat)(e:Ex)|setix (o i e:Ex)|ret (e:Ex)|app (o e:Ex)
 |ite (c:Ex)(a b:List S)|for_ (i:Nat)(rng:Bool)(src:Ex)(body:List S)|for2 (i:Nat)(a b:Ex)(body:List S)
 |whil (c:Ex)(body:List S)
 |setf (o:Ex)(f:Str)(e:Ex)(cs ics:List Str)
 |forU (is:List Nat)(src:Ex)(body:List S)
 |forZ (is:List Nat)(a b:Ex)(body:List S)|unp (is:List Nat)(e:Ex)
 |stop
inductive Fl where
 |nx (loc:Loc)|rt (d:D)|ex (n:Nat)(loc:Loc)
noncomputable def gD(o i v:D):M Unit:=λst=>match o with
 | .ref n=>match st[n]? with
  |some (.lst xs)=>match i with
   | .int k=>match wD xs.length k with
    |some j=>.ok () (st.set n (.lst (xs.set j v)))
    |none=>.bad
   |_=>.bad
  |some (.dct kvs)=>match j9 i with
   |some k=>if kvs.length<1000000 then .ok () (st.set n (.dct (bS kvs k v))) else .bad
   |none=>.bad
  |_=>.bad
 |_=>.bad
noncomputable def append(o v:D):M Unit:=λst=>match o with
 | .ref n=>match st[n]? with
  |some (.lst xs)=>if xs.length<1000000 then .ok () (st.set n (.lst (xs++[v]))) else .bad
  |_=>.bad
 |_=>.bad
noncomputable def iY(f:D->Loc->M Fl)(s:Src):Nat->Nat->Loc->M Fl
 |0,_,_=>stuck
 |k+1,i,loc=>λst=>match im s i st with
  |some (some x)=>ba (f x loc) (λr=>match r with
   | .nx loc'=>iY f s k (i+1) loc'
   | .rt d=>ret (.rt d)
   | .ex n l=>ret (.ex n l)) st
  |some none=>.ok (.nx loc) st
  |none=>.bad
noncomputable def d8(f:D->Loc->M Fl)(s:Src)(loc:Loc):M Fl:=λst=>iY f s (dA s st+1) 0 loc st
noncomputable def gc(c:Loc->M D)(f:Loc->M Fl):Nat->Loc->M Fl
 |0,_=>stuck
 |k+1,loc=>ba (c loc) λx=>ba (dh (eg x)) λb=>if b then ba (f loc) (λr=>match r with
   | .nx loc'=>gc c f k loc'
   | .rt d=>ret (.rt d)
   | .ex n l=>ret (.ex n l)) else ret (.nx loc)
noncomputable def yp:Nat:=1000000000
noncomputable def gE:List Nat->List D->Loc->Loc
 |i::is,d::ds,loc=>gE is ds (loc.set i (some d))
 |_,_,loc=>loc
noncomputable def items?(n:Nat)(d:D):M (List D):=λst=>match bp st d with
 |some xs=>if xs.length=n then .ok xs st else .bad
 |none=>.bad
noncomputable def mG(cs ics:List Str)(o:D)(f:Str)(v:D):M Unit:=λst=>match o with
 | .ref n=>match st[n]? with
  |some (.ins c fs)=>if fs.length<900/\c∈ics then .ok () (st.set n (.ins c (putD f v fs))) else .bad
  |_=>.bad
 |_=>.bad
mutual
noncomputable def exec(g:dO):S->Loc->M Fl
 | .set i e,loc=>ba (run g e loc) λd=>ret (.nx (loc.set i (some d)))
 | .setix o i e,loc=>ba (run g e loc) λd=>ba (run g o loc) λx=>ba (run g i loc) λk=>ba (gD x k d) λ_=>ret (.nx loc)
 | .ret e,loc=>ba (run g e loc) λd=>ret (.rt d)
 | .app o e,loc=>ba (run g o loc) λx=>ba (mW x) λ_=>ba (run g e loc) λd=>ba (append x d) λ_=>ret (.nx loc)
 | .ite c a b,loc=>ba (run g c loc) λx=>ba (dh (eg x)) λk=>if k then execs g a loc else execs g b loc
 | .for_ i rng src body,loc=>ba (run g src loc) λd=>ba (dh (cm rng d)) λs=>d8 (λx loc'=>execs g body (loc'.set i (some x))) s loc
 | .for2 i a b body,loc=>ba (run g a loc) λx=>ba (run g b loc) λy=>ba (dh (gC x y)) λs=>d8 (λx loc'=>execs g body (loc'.set i (some x))) s loc
 | .whil c body,loc=>gc (run g c) (execs g body) yp loc
 | .setf o f e cs ics,loc=>ba (run g e loc) λd=>ba (run g o loc) λx=>ba (mG cs ics x f d) λ_=>ret (.nx loc)
 | .forU is src body,loc=>ba (run g src loc) λd=>ba (dh (cm false d)) λs=>d8 (λx loc'=>ba (items? is.length x) λds=>execs g body (gE is ds loc')) s loc
 | .unp is e,loc=>ba (run g e loc) λd=>ba (items? is.length d) λds=>ret (.nx (gE is ds loc))
 | .forZ is a b body,loc=>ba (run g a loc) λx=>ba (run g b loc) λy=>ba (dh (y4 x y)) λs=>d8 (λx loc'=>ba (items? is.length x) λds=>execs g body (gE is ds loc')) s loc
 | .stop,_=>stuck
noncomputable def execs(g:dO):List S->Loc->M Fl
 |[],loc=>ret (.nx loc)
 |s::ss,loc=>ba (exec g s loc) λr=>match r with
  | .nx loc'=>execs g ss loc'
  | .rt d=>ret (.rt d)
  | .ex n l=>ret (.ex n l)
end
structure Fn where
 ar:Nat
 nl:Nat
 body:List S
noncomputable def qk(g:dO)(f:Fn)(ds:List D):M Rs:=if ds.length=f.ar then ba (execs g f.body (ds.map some++List.replicate (f.nl - ds.length) none)) λr=>match r with
  | .nx _=>ret (.v .non)
  | .rt d=>ret (.v d)
  | .ex n _=>ret (.x n)
 else stuck
noncomputable def calls(tab:List Fn):Nat->dO
 |0,_,_=>stuck
 |k+1,f,ds=>match tab[f]? with
  |some fn=>qk (calls tab k) fn ds
  |none=>stuck
noncomputable def b_(K:av)(H:Hp)(ι:Nat->Addr)(st:aP)(r:R D)(Q:VK):Prop:=match r with
 | .ok d st'=>∀H' ι' v,Ext H H' ι ι' st.length st'.length->Sim K H' ι' st'->VRel K H' ι' st'.length d v->Q v H'
 | .bad=>False
section
variable{K:av}{H:Hp}{ι:Nat->Addr}{st:aP}{Q:VK}
theorem b_.same{d:D}(S:Sim K H ι st)(P:b_ K H ι st (.ok d st) Q)(r:VRel K H ι st.length d v):Q v H:=P H ι v (Ext.refl _ _ _) S r
theorem b_.mono{H1:Hp}{st1:aP}{r:R D}(P:b_ K H ι st r Q)(E:Ext H H1 ι ι1 st.length st1.length):b_ K H1 ι1 st1 r Q:=by
 cases r with
 |ok d st'=>exact λH' ι' v E' S' r'=>P H' ι' v (E.trans E') S' r'
 |bad=>exact P
theorem b_.alloc{xs:List D}{vs:List V}(S:Sim K H ι st)(P:b_ K H ι st (alloc xs st) Q)(r:VRels K H ι st.length xs vs):∀p,H p=none->Q (.ref p) (bE H p (.lst vs)):=λp hp=>by
 obtain⟨ι',E,e,S'⟩:=S.laid (o:= .lst xs) (ho:= .lst vs) hp (λι' h1 h2=>⟨vs,bi,VRels.ext0 ⟨Nat.le_succ _,h1,λb xs e=>by rw[aE (aG e hp)];exact e,λb ob u e=>by rw[aE (aG e hp)];exact e⟩ r⟩)
 have l:(st++[O.lst xs]).length=st.length+1:=by simp
 refine P _ ι' _ (by rw[l];exact E) S' ?_
 rw[<-e,l];exact .ref (aO _)
theorem b_.allocD(S:Sim K H ι st)(P:b_ K H ι st (allocD st) Q):∀p,H p=none->Q (.ref p) (bE H p (.dK [])):=λp hp=>by
 obtain⟨ι',E,e,S'⟩:=S.laid (o:= .dct []) (ho:= .dK []) hp (λι' h1 h2=>⟨[],bi,.nil⟩);have l:(st++[O.dct []]).length=st.length+1:=by simp
 refine P _ ι' _ (by rw[l];exact E) S' ?_
 rw[<-e,l];exact .ref (aO _)
theorem b_.tup{xs:List D}{vs:List V}(S:Sim K H ι st)(P:b_ K H ι st (.ok (.tup xs) st) Q)(r:VRels K H ι st.length xs vs):∀p,H p=none->Q (.ref p) (bE H p (.tup vs)):=λp hp=>by
 have hK:∀n,n<st.length->ι n≠p:=λn hn=>by obtain⟨_,h,_⟩:=S.obj hn;exact aG h hp
 have E:Ext H (bE H p (.tup vs)) ι ι st.length st.length:=⟨⟨ah _,λ_ _=>rfl,λb xs e=>by rw[aE (aG e hp)];exact e,λb ob u e=>by rw[aE (aG e hp)];exact e⟩,λb ob e k=>⟨by rw[aE (aG e hp)];exact e,k⟩⟩
 refine P _ ι _ E ⟨S.inj,λn o e=>?_⟩ (.tup (f6.of bi) (r.ext E));have hn:n<st.length:=(au e).1;have old:=S.ob n o e;exact old.move E.toExt0 (aE (hK n hn))
theorem VRel.seq{d:D}{xs:List D}(S:Sim K H ι st)(r:VRel K H ι st.length d v)(e:bp st d=some xs):∃a vs,v=.ref a/\(fW K H a vs∨f6 K H a vs)/\VRels K H ι st.length xs vs:=by
 cases r with
 |non=>cases e
 |bl b=>cases e
 |int i=>cases e
 |str x=>cases e
 |tup h r=>cases e;exact⟨_,_,rfl,.inr h,r⟩
 |fl h r=>cases e;exact⟨_,_,rfl,.inl h.sql,r⟩
 | @ref n hn=>
  simp only[bp] at e;cases q:st[n]? with
  |none=>rw[q] at e;cases e
  |some o=>
   rw[q] at e;cases o with
   |lst zs=>cases e;obtain⟨vs,h1,h2⟩:=S.ob n _ q;exact⟨_,vs,rfl,.inl (fW.of h1),h2⟩
   |_=>cases e
theorem VRels.inv1{d:D}{vs:List V}(r:VRels K H ι st.length [d] vs):∃v,vs=[v]/\VRel K H ι st.length d v:=by
 cases r with
 |cons h t=>cases t;exact⟨_,rfl,h⟩
end
noncomputable def rD(K:av)(op:D->D->M D):R2:=λvx vy H Q=>∃ι st dx dy,Sim K H ι st/\VRel K H ι st.length dx vx/\VRel K H ι st.length dy vy/\b_ K H ι st (op dx dy st) Q
noncomputable def Bo.op:Bo->Operator
 | .add=> .Add
 | .sub=> .Sub
 | .mul=> .Mult
 | .fdiv=> .FloorDiv
 | .mod=> .Mod
 | .pow=> .Pow
theorem ny{K:av}{H:Hp}{ι:Nat->Addr}{m:Nat}{as:List D}{vs:List V}(r:VRels K H ι m as vs):∀n:Nat,VRels K H ι m (List.replicate n as).flatten (List.replicate n vs).flatten
 |0=>.nil
 |n+1=>by rw[List.replicate_succ,List.replicate_succ,List.flatten_cons,List.flatten_cons];exact r.append (ny r n)
theorem sR:i5 X (binaryOp .FloorDiv) (rI (λ_ j=>j≠0/\j.natAbs<2^200) λi j=>.int (i.fdiv j)):=AO λi j _ _ _ _ _ hc q=>floordiv_int hc.1 q (.inl (PyProof.noPylong_of_log2 (by
 have h0:j.natAbs≠0:=by have:=hc.1;omega
 have:j.natAbs.log2<200:=(Nat.log2_lt h0).mpr hc.2;omega)))
theorem uk{E:Value->Shared->Prop}{t b:Addr}{ws:List Value}{Q:Value->Shared->Prop}(ht:IsTup s.heap t ([]:List Value).toArray)(hb:IsTup s.heap b ws.toArray)(h:Q (.ref b) s):wpAny (model prog w) A (binaryOp .Add (.ref t) (.ref b)) Q E s:=by
 obtain⟨⟨cls,dd,data,sl⟩,ho,hc,n,hd⟩:=id ht;obtain⟨⟨cls2,dd2,data2,sl2⟩,ho2,hc2,n2,hd2⟩:=id hb;simp only at hc hd hc2 hd2;subst hc hd hc2 hd2
 exact concat_meets ⟨_,ho,rfl⟩ ⟨_,ho2,rfl⟩ noFill_tuple_add seq_tuple_add PySem.F.slot_tuple_add PySem.F.entry_tuple_add (PySem.F.args_tuple_add_2 _ _)
   (tuple_addW0 t b _ ws.toArray n n2 dd dd2 sl sl2 (by simp)) ⟨ho,ho2,h⟩
theorem vo:i5 X (binaryOp .Mult) (rI (λi j=>yQ i j∨(i.natAbs<2^1000/\j.natAbs<2^1000)) λi j=>.int (i*j)):=AO λ_ _ _ _ _ _ _ hc q=>mul_int q (by
 rcases hc with hc|hc
 ·exact hc.ok
 ·exact .of_bits (az (PyProof.Rows.intBits_le hc.1) (by decide)) (az (PyProof.Rows.intBits_le hc.2) (by decide)))
theorem xU(op:Bo):i5 X (binaryOp op.op) (rD X.K (cf op)):=by
 intro pins s σ H vx vy ux uy Q I rx ry h;obtain⟨ι,st,dx,dy,S,hx,hy,P⟩:=h;have sz:sizeLine=16777216:=sizeLine_eq;cases op with
 |add=>cases dx with
  |int i=>cases dy with
   |int j=>cases hx;cases hy;exact xV pins s σ H _ _ _ _ Q I rx ry ⟨_,_,rfl,rfl,b_.same S P (.int _)⟩
   |_=>exact False.elim P
  |tup as=>cases dy with
   |tup bs=>
    cases hx with
    |tup ha ra=>
     cases hy with
     |tup hb rb=>
      cases as with
      |nil=>cases ra;cases rx;cases ry;obtain⟨its,r1,p1,_⟩:=I.tuple ha;obtain⟨its2,r2,p2,_⟩:=I.tuple hb;cases r1;exact uk p1 p2 ⟨.ref _,H,I,rfl,b_.same S P (.tup hb rb)⟩
      |cons a as=>
       simp only[cf,addD] at P;split at P
       ·rename_i hl;have l1:=ra.length;have l2:=rb.length;refine vq pins s σ H _ _ _ _ Q I rx ry ⟨_,_,_,_,rfl,rfl,ha,hb,?_,by omega,λe=>?_,λe=>P.tup S (ra.append rb)⟩
        ·intro z;rw[z] at l1;simp at l1
        ·subst e;cases rb;rw[List.append_nil] at P;exact P.same S (.tup ha ra)
       ·exact False.elim P
   |_=>exact False.elim P
  |ref m=>cases dy with
   |ref n=>
    simp only[cf,addD] at P;split at P
    ·rename_i as bs e1 e2;split at P
     ·rename_i hl;cases hx with
      |ref h1=>
       cases hy with
       |ref h2=>
        obtain⟨v1,g1,r1⟩:=S.ob _ _ e1;obtain⟨v2,g2,r2⟩:=S.ob _ _ e2;have l1:=r1.length;have l2:=r2.length;exact xT pins s σ H _ _ _ _ Q I rx ry ⟨_,_,_,_,rfl,rfl,g1,g2,by omega,P.alloc S (r1.append r2)⟩
     ·exact False.elim P
    ·exact False.elim P
   |_=>exact False.elim P
  |_=>exact False.elim P
 |sub=>cases dx with
  |int i=>cases dy with
   |int j=>cases hx;cases hy;exact xO pins s σ H _ _ _ _ Q I rx ry ⟨_,_,rfl,rfl,b_.same S P (.int _)⟩
   |_=>exact False.elim P
  |_=>exact False.elim P
 |mul=>cases dx with
  |int i=>cases dy with
   |int j=>
    simp only[cf,sX] at P;split at P
    ·rename_i hc;cases hx;cases hy;exact vo pins s σ H _ _ _ _ Q I rx ry ⟨_,_,rfl,rfl,hc,P.same S (.int _)⟩
    ·exact False.elim P
   |_=>exact False.elim P
  |ref m=>cases dy with
   |int j=>
    simp only[cf,sX] at P;split at P
    ·rename_i xs q;split at P
     ·rename_i hc;cases hx with
      |ref hn=>
       cases hy;obtain⟨vs,g1,r1⟩:=S.ob _ _ q;have l1:=r1.length;have hb:vs.length*j.toNat<=1000*1000:=Nat.mul_le_mul (by omega) (by omega)
       exact xP pins s σ H _ _ _ _ Q I rx ry ⟨_,_,_,rfl,rfl,g1,by omega,by omega,by omega,P.alloc S (ny r1 _)⟩
     ·exact False.elim P
    ·exact False.elim P
   |_=>exact False.elim P
  |_=>exact False.elim P
 |fdiv=>cases dx with
  |int i=>cases dy with
   |int j=>
    simp only[cf,ii] at P;split at P
    ·rename_i hc;cases hx;cases hy;exact sR pins s σ H _ _ _ _ Q I rx ry ⟨_,_,rfl,rfl,hc,P.same S (.int _)⟩
    ·exact False.elim P
   |_=>exact False.elim P
  |_=>exact False.elim P
 |mod=>cases dx with
  |int i=>cases dy with
   |int j=>
    simp only[cf,ii] at P;split at P
    ·rename_i hc;cases hx;cases hy;exact vp pins s σ H _ _ _ _ Q I rx ry ⟨_,_,rfl,rfl,hc,P.same S (.int _)⟩
    ·exact False.elim P
   |_=>exact False.elim P
  |_=>exact False.elim P
 |pow=>cases dx with
  |int i=>cases dy with
   |int j=>
    simp only[cf,ii] at P;split at P
    ·rename_i hc;cases hx;cases hy;exact xQ pins s σ H _ _ _ _ Q I rx ry ⟨_,_,rfl,rfl,⟨hc.1,by omega,by omega⟩,P.same S (.int _)⟩
    ·exact False.elim P
   |_=>exact False.elim P
  |_=>exact False.elim P
open Classical in
noncomputable def qY(K:av)(H:Hp)(ι:Nat->Addr)(st:aP)(x:D)(z:Value):Bool:=if h:∃d,At K H ι st.length d z then(dj 60 st h.choose x).getD false else false
theorem yE{st:aP}(I:Inv X pins σ H s)(S:Sim X.K H ι st){x y:D}(h:At X.K H ι st.length y u):qY X.K H ι st x u=(dj 60 st y x).getD false:=by unfold qY;have h':∃d,At X.K H ι st.length d u:=⟨y,h⟩;rw[dif_pos h',h'.choose_spec.uniq I S h]
theorem jW{X:Cx}{pins:List (Addr×Obj)}{σ:L2.St}{H:Hp}{s:Shared}{ι:Nat->Addr}{st:aP}(I:Inv X pins σ H s)(S:Sim X.K H ι st){x:D}{ux:Value}{A:Around}(hx:At X.K H ι st.length x ux)(hu:A.units+60<cLine):
  ∀{ys:List D}{us:List Value}{k:Bool},dM st x ys=some k->uJ X.K H ι st.length ys us->(∀u∈us,SeqAt.EqAt A s u ux (qY X.K H ι st x u))/\us.any (qY X.K H ι st x)=k
 |[],us,k,h,r=>by
  have l:=r.length;cases us with
  |cons _ _=>simp at l
  |nil=>exact⟨λu hu=>(by cases hu),ai h⟩
 |y::ys,us,k,h,r=>by
  have l:=r.length;cases us with
  |nil=>simp at l
  |cons u us=>
   obtain⟨_,r1,q1⟩:=r;cases q1 with
   |cons w1 w2=>
    cases r1 with
    |cons m1 m2=>
     unfold dM at h;cases e1:dj 60 st y x with
     |none=>rw[e1] at h;simp at h
     |some a=>
      cases e2:dM st x ys with
      |none=>rw[e1,e2] at h;simp at h
      |some b=>
       rw[e1,e2] at h;obtain⟨he,hk⟩:=jW I S hx hu e2 ⟨_,m2,w2⟩;obtain⟨_,_,hE⟩:=iD I S 60 (A:=A) e1 ⟨_,m1,w1⟩ hx hu;have ea:qY X.K H ι st x u=a:=by rw[yE I S ⟨_,m1,w1⟩,e1];rfl
       refine⟨λz hz=>?_,?_⟩
       ·rcases List.mem_cons.mp hz with rfl|hz
        ·rw[ea];exact hE
        ·exact he z hz
       ·rw[List.any_cons,ea,hk];exact ai h
theorem DRels.look{K:av}{k:Key}{kvs:List (Key×D)}(h:DRels K H ι m kvs vs):
  (match ci kvs k with|some d=>∃v,dX vs k=some v/\VRel K H ι m d v|none=>dX vs k=none):=by
 induction h with
 |nil=>exact rV
 | @cons k' d v ds vs hv t ih=>
  unfold ci;by_cases e:k'=k
  ·rw[if_pos e];exact⟨v,fk e,hv⟩
  ·rw[if_neg e,du (p:=(k',v)) (r:=vs) e];exact ih
theorem i9{K:av}{x:D}{k:Key}(h:j9 x=some k)(r:VRel K H ι m x v):v=kV k:=by cases r<;>cases h<;>rfl
theorem iw{K:av}{x y:D}{k:Bool}(e:yT x y=some k)(hx:VRel K H ι m x vx)(hy:VRel K H ι m y vy)(rx:RelV vx ux)(ry:RelV vy uy):plainIs ux uy=true/\(ux==uy)=k:=by
 unfold yT at e;split at e
 ·cases hy;cases ry;have e:=ai e;subst e;cases hx with
  |non=>cases rx;exact⟨rfl,rfl⟩
  |bl b=>cases rx;exact⟨rfl,rfl⟩
  |int i=>obtain⟨t,rfl⟩:=rx;exact⟨rfl,rfl⟩
  |str i=>obtain⟨t,rfl⟩:=rx;exact⟨rfl,rfl⟩
  |tup _ _=>cases rx;exact⟨rfl,rfl⟩
  |fl _ _=>cases rx;exact⟨rfl,rfl⟩
  |ref _=>cases rx;exact⟨rfl,rfl⟩
 ·cases e
theorem nC{K:av}{st:aP}{y:D}{kvs:List (Key×D)}(S:Sim K H ι st)(e:ck st y=some kvs)(hy:VRel K H ι st.length y vy):∃n a vs,y=.ref n/\st[n]? =some (.dct kvs)/\a=ι n/\vy=.ref a/\H a=some (.dK vs)/\DRels K H ι st.length kvs vs:=by
 cases y with
 |ref n=>
  simp only[ck] at e;cases q:st[n]? with
  |none=>rw[q] at e;cases e
  |some o=>
   rw[q] at e;cases o with
   |dct kvs'=>cases e;cases hy;obtain⟨vs,h1,r⟩:=S.ob _ _ q;exact⟨n,_,vs,rfl,q,rfl,rfl,h1,r⟩
   |_=>cases e
 |_=>cases e
theorem kH{K:av}{st:aP}{x y:D}{k:Bool}(S:Sim K H ι st)(e:iE st x y=some k)(hx:VRel K H ι st.length x vx)(hy:VRel K H ι st.length y vy):∃a,vy=.ref a/\((∃o,gq H a vx o/\o.isSome=k)∨(vx=.non/\(∃kvs,H a=some (.dK kvs))/\k=false)):=by
 unfold iE at e;split at e
 ·split at e
  ·rename_i kvs q;cases hy;obtain⟨vs,h1,r⟩:=S.ob _ _ q;refine⟨_,rfl,?_⟩;split at e
   ·rename_i s hk;have e:=ai e;subst e;have hv:=i9 hk hx;subst hv;refine .inl ⟨_,gq.k (k:=s) h1,?_⟩;have l:=r.look (k:=s);cases q2:ci kvs s with
    |none=>rw[q2] at l;rw[show dX vs s=none from l];rfl
    |some d=>rw[q2] at l;obtain⟨v,l,_⟩:=l;rw[show dX vs s=some v from l];rfl
   ·split at e
    ·cases e;cases hx;exact .inr ⟨rfl,⟨vs,h1⟩,rfl⟩
    ·cases e
  ·cases e
 ·cases e
theorem il(hu:X.A.units+100<cLine)(op:CmpOp):i5 X (compareOp op) (rD X.K (bZ op)):=by
 intro pins s σ H vx vy ux uy Q I rx ry h;obtain⟨ι,st,dx,dy,S,hx,hy,P⟩:=h;have ax:At X.K H ι st.length dx ux:=⟨_,hx,rx⟩;have ay:At X.K H ι st.length dy uy:=⟨_,hy,ry⟩;unfold bZ at P;split at P
 ·split at P
  ·rename_i k e;obtain⟨h1,_,_⟩:=iD I S 60 (A:=X.A) e ax ay (by omega)
   exact h1 _ _ _ _ ⟨.bl k,H,I,rfl,P.same S (.bl k)⟩
  ·exact False.elim P
 ·split at P
  ·rename_i k e;obtain⟨_,h1,_⟩:=iD I S 60 (A:=X.A) e ax ay (by omega)
   exact h1 _ _ _ _ ⟨.bl (!k),H,I,rfl,P.same S (.bl (!k))⟩
  ·exact False.elim P
 ·split at P
  ·cases hx;cases hy;exact zP pins s σ H _ _ _ _ Q I rx ry ⟨_,_,rfl,rfl,P.same S (.bl _)⟩
  ·exact False.elim P
 ·split at P
  ·cases hx;cases hy;exact zQ pins s σ H _ _ _ _ Q I rx ry ⟨_,_,rfl,rfl,P.same S (.bl _)⟩
  ·exact False.elim P
 ·split at P
  ·cases hx;cases hy;exact zR pins s σ H _ _ _ _ Q I rx ry ⟨_,_,rfl,rfl,P.same S (.bl _)⟩
  ·exact False.elim P
 ·split at P
  ·rename_i ys es;split at P
   ·rename_i k ek;obtain⟨a,vs,rfl,hq,rv⟩:=hy.seq S es;cases ry;rcases hq with hq|hq
    ·obtain⟨its,r',pl,hz⟩:=I.list hq;obtain⟨hE,hk⟩:=jW I S (A:=X.A.in1) ax (by show X.A.units+1+60<cLine;omega) ek ⟨_,rv,r'⟩
     refine SeqAt.in_listAt _ pl.isList (λw hw=>hE w (by simpa using hw)) ⟨.bl _,H,I,rfl,?_⟩
     rw[show its.toArray.any (qY X.K H ι st dx)=its.any (qY X.K H ι st dx) by simp,hk]
     exact P.same S (.bl k)
    ·obtain⟨its,r',pl,hz⟩:=I.tuple hq;obtain⟨hE,hk⟩:=jW I S (A:=X.A.in1) ax (by show X.A.units+1+60<cLine;omega) ek ⟨_,rv,r'⟩
     refine SeqAt.in_tupleAt _ pl (λw hw=>hE w (by simpa using hw)) ⟨.bl _,H,I,rfl,?_⟩
     rw[show its.toArray.any (qY X.K H ι st dx)=its.any (qY X.K H ι st dx) by simp,hk]
     exact P.same S (.bl k)
   ·exact False.elim P
  ·split at P
   ·rename_i k ek;obtain⟨a,rfl,hg⟩:=kH S ek hx hy;cases ry;rcases hg with⟨o,g,ho⟩|⟨rfl,⟨kvs,g⟩,rfl⟩
    ·exact BA (by omega) I g rx λs' I'=>⟨.bl k,H,I',by rw[ho];rfl,P.same S (.bl k)⟩
    ·cases rx;exact Az I (.inl g) λs' I'=>⟨.bl false,H,I',rfl,P.same S (.bl false)⟩
   ·exact False.elim P
 ·split at P
  ·rename_i ys es;split at P
   ·rename_i k ek;obtain⟨a,vs,rfl,hq,rv⟩:=hy.seq S es;cases ry;rcases hq with hq|hq
    ·obtain⟨its,r',pl,hz⟩:=I.list hq;obtain⟨hE,hk⟩:=jW I S (A:=X.A.in1) ax (by show X.A.units+1+60<cLine;omega) ek ⟨_,rv,r'⟩
     refine SeqAt.notIn_listAt _ pl.isList (λw hw=>hE w (by simpa using hw)) ⟨.bl _,H,I,rfl,?_⟩
     rw[show its.toArray.any (qY X.K H ι st dx)=its.any (qY X.K H ι st dx) by simp,hk]
     exact P.same S (.bl (!k))
    ·obtain⟨its,r',pl,hz⟩:=I.tuple hq;obtain⟨hE,hk⟩:=jW I S (A:=X.A.in1) ax (by show X.A.units+1+60<cLine;omega) ek ⟨_,rv,r'⟩
     refine SeqAt.notIn_tupleAt _ pl (λw hw=>hE w (by simpa using hw)) ⟨.bl _,H,I,rfl,?_⟩
     rw[show its.toArray.any (qY X.K H ι st dx)=its.any (qY X.K H ι st dx) by simp,hk]
     exact P.same S (.bl (!k))
   ·exact False.elim P
  ·split at P
   ·rename_i k ek;obtain⟨a,rfl,hg⟩:=kH S ek hx hy;cases ry;rcases hg with⟨o,g,ho⟩|⟨rfl,⟨kvs,g⟩,rfl⟩
    ·exact v6 (by omega) I g rx λs' I'=>⟨.bl (!k),H,I',by rw[ho];rfl,P.same S (.bl (!k))⟩
    ·cases rx;exact uf I (.inl g) λs' I'=>⟨.bl true,H,I',rfl,P.same S (.bl (!false))⟩
   ·exact False.elim P
 ·split at P
  ·rename_i k e;obtain⟨h1,h2⟩:=iw e hx hy rx ry;exact wpAny_is_plain h1 ⟨.bl k,H,I,by rw[h2];rfl,P.same S (.bl k)⟩
  ·exact False.elim P
 ·split at P
  ·rename_i k e;obtain⟨h1,h2⟩:=iw e hx hy rx ry;exact wpAny_isNot_plain h1 ⟨.bl (!k),H,I,by rw[h2];rfl,P.same S (.bl (!k))⟩
  ·exact False.elim P
 ·exact False.elim P
theorem wa{K:av}{ds:List D}{vs:List V}{i:Int}{d:D}(r:VRels K H ι m ds vs)(e:qm ds i=some d):∃v,qm vs i=some v/\VRel K H ι m d v:=by
 unfold qm at e ⊢;rw[<-r.length];cases q:wD ds.length i with
 |none=>rw[q] at e;cases e
 |some j=>rw[q] at e;exact r.get e
theorem uc(hu:X.A.units+100<cLine){value slice:Expr}{st:aP}{dx:D}{k:Key}(I:L2.Inv X pins σ H s)(S:Sim X.K H ι st)(hx:VRel X.K H ι st.length dx vx)
  (rx:RelV vx ux)(ry:RelV (kV k) uy)(hs:subscripted slice false ux uy=operate [ux,uy] (getItem ux uy))(P:b_ X.K H ι st (yV st dx k) Q):wpAny (model X.prog X.w) X.A (subscriptTail value slice ux uy) (EP X pins σ Q) X.xe s:=by
 unfold yV at P;split at P
 ·rename_i n;split at P
  ·rename_i kvs e1;split at P
   ·rename_i d ek;cases hx;cases rx;obtain⟨vs,h1,r⟩:=S.ob _ _ e1;have l:=r.look (k:=k);rw[ek] at l;obtain⟨w,ew,rw'⟩:=l;have g:gq H (ι n) (kV k) (some w):=by rw[<-ew];exact gq.k (k:=k) h1
    exact tail_any (iM I g) PySem.F.slot_dict_getitem.lookup (kI (by omega) I g ry λw' s' I' rw2=>⟨w,H,I',rw2,P.same S rw'⟩) hs
   ·exact False.elim P
  ·exact False.elim P
 ·exact False.elim P
theorem Bn(hu:X.A.units+100<cLine):AK X (rD X.K index):=by
 intro value slice pins s σ H vx vy ux uy Q I rx ry h hs;obtain⟨ι,st,dx,dy,S,hx,hy,P⟩:=h;have sz:sizeLine=16777216:=sizeLine_eq;unfold index at P;split at P
 ·split at P
  ·rename_i xs es;split at P
   ·rename_i d ed;cases hy;obtain⟨a,vs,rfl,hq,rv⟩:=hx.seq S es;obtain⟨w,ew,rw'⟩:=wa rv ed;rcases hq with hq|hq
    ·exact vH value slice pins s σ H _ _ _ _ Q I rx ry ⟨_,_,_,_,rfl,rfl,hq,ew,P.same S rw'⟩ hs
    ·exact yh value slice pins s σ H _ _ _ _ Q I rx ry ⟨_,_,_,_,rfl,rfl,hq,ew,P.same S rw'⟩ hs
   ·exact False.elim P
  ·cases hy;exact uc (k:= .inl _) hu I S hx rx ry hs P
 ·cases hy;exact uc (k:= .inr _) hu I S hx rx ry hs P
 ·exact False.elim P
theorem qg{K:av}{ds:List D}{vs:List V}(r:VRels K H ι m ds vs)(lo hi:Option Int):VRels K H ι m (cutD ds lo hi) (nD vs lo hi):=by unfold cutD nD;rw[<-r.length];exact(r.drop _).take _
theorem A9:AR X (λvx lo hi H Q=>∃ι st dx,Sim X.K H ι st/\VRel X.K H ι st.length dx vx/\b_ X.K H ι st (slice dx lo hi st) Q):=by
 intro pins s σ H x v vl vu lo hi sl Q I rx hs pl pu h;obtain⟨ι,st,dx,S,hx,P⟩:=h;have sz:sizeLine=16777216:=sizeLine_eq;unfold slice at P;split at P
 ·split at P
  ·exact False.elim P
  ·rename_i hw;cases hx with
   |tup ha ra=>
    exact wZ pins s σ H _ v vl vu lo hi sl Q I rx hs pl pu ⟨_,_,rfl,ha,by rw[<-ra.length];exact hw,P.tup S (qg ra lo hi)⟩
 ·split at P
  ·rename_i xs es;obtain⟨a,vs,rfl,hq,rv⟩:=hx.seq S es;rcases hq with hq|hq
   ·exact uX pins s σ H _ v vl vu lo hi sl Q I rx hs pl pu ⟨_,_,rfl,hq,P.alloc S (qg rv lo hi)⟩
   ·exfalso;cases hx with
    |tup _ _=>exact(‹∀bs:List D,¬D.tup _=D.tup bs› _) rfl
    |fl h _=>exact n8 I hq h.sql
    |ref h=>
     obtain⟨u,e',n1,n2⟩:=S.obj h;rcases k7 I hq with⟨_,e⟩|⟨_,_,e⟩|e<;>rw[e] at e'<;>first|(cases e';done)|(cases e';exact absurd rfl (n1 _))|(cases e';exact absurd rfl (n2 _ _))
  ·exact False.elim P
noncomputable def rB(K:av)(f:Bt):List V->Hp->VK->Prop:=λvs H Q=>∃ι st ds,Sim K H ι st/\VRels K H ι st.length ds vs/\b_ K H ι st (dW f ds st) Q
noncomputable def Bt.val:Bt->Value
 | .len=>.builtin "len"
 | .list=>.type "list"
 | .tuple=>.type "tuple"
 | .int=>.type "int"
 | .dict=>.type "dict"
 | .max=>.builtin "max"
 | .min=>.builtin "min"
theorem DRels.anyK{K:av}{k:Key}{kvs:List (Key×D)}(h:DRels K H ι m kvs vs):(kvs.any λkv=>decide (kv.1=k))=vs.any λkv=>decide (kv.1=k):=by
 induction h with
 |nil=>rfl
 |cons h t ih=>rw[List.any_cons,List.any_cons,ih]
theorem DRels.repl{K:av}{k:Key}{d:D}{kvs:List (Key×D)}(h:DRels K H ι m kvs vs)(q:VRel K H ι m d v):DRels K H ι m (kvs.map λkv=>if kv.1=k then(kv.1,d) else kv) (vs.map λkv=>if kv.1=k then(kv.1,v) else kv):=by
 induction h with
 |nil=>exact .nil
 | @cons k' d' v' ds vs h t ih=>
  rw[List.map_cons,List.map_cons];by_cases e:k'=k
  ·rw[if_pos e,if_pos e];exact .cons q ih
  ·rw[if_neg e,if_neg e];exact .cons h ih
theorem DRels.put{K:av}{k:Key}{d:D}{kvs:List (Key×D)}(h:DRels K H ι m kvs vs)(q:VRel K H ι m d v):DRels K H ι m (bS kvs k d) (putK vs k v):=by
 unfold bS putK;rw[h.anyK];split
 ·exact h.repl q
 ·exact h.append (.cons q .nil)
theorem pE{K:av}{H:Hp}{ι:Nat->Addr}{m:Nat}:∀{ds:List D}{vs:List V}{ps:List (Key×D)},qz ds=some ps->VRels K H ι m ds vs->∃qs,BC K H qs vs/\DRels K H ι m ps qs
 |[],_,_,h,.nil=>by cases h;exact⟨[],.nil,.nil⟩
 |d::ds,_,_,h,.cons (v:=v) (vs:=vs) r t=>by
  obtain⟨p,h1,h⟩:=bs h;obtain⟨ps,h2,rfl⟩:=map_some h;obtain⟨qs,q1,q2⟩:=pE h2 t;cases d with
  |tup xs=>
   obtain⟨z,h3,h1⟩:=bs h1;obtain⟨k,h4,rfl⟩:=map_some h1;cases dm h3;cases r with
   |tup hq rr=>
    cases rr with
    |cons ra rr=>
     cases rr with
     |cons rb rr=>cases rr;have:=i9 h4 ra;subst this;exact⟨(k,_)::qs,.cons ⟨_,rfl,hq⟩ q1,.cons rb q2⟩
  |_=>cases h1
theorem nz{K:av}{H:Hp}{ι:Nat->Addr}{m:Nat}:∀{ps:List (Key×D)}{qs:List (Key×V)},DRels K H ι m ps qs->∀{acc:List (Key×D)}{bcc:List (Key×V)},DRels K H ι m acc bcc->DRels K H ι m (ps.foldl (λacc p=>bS acc p.1 p.2) acc) (qs.foldl (λacc p=>putK acc p.1 p.2) bcc)
 |_,_,.nil,_,_,q=>q
 |_,_,.cons h t,_,_,q=>nz t (q.put h)
theorem b_.allocK{K:av}{st:aP}{kvs:List (Key×D)}(S:Sim K H ι st)(P:b_ K H ι st (.ok (.ref st.length) (st++[.dct kvs])) Q)(r:DRels K H ι st.length kvs vs):∀p,H p=none->Q (.ref p) (bE H p (.dK vs)):=λp hp=>by
 obtain⟨ι',E,e,S'⟩:=S.laid (o:= .dct kvs) (ho:= .dK vs) hp (λι' h1 h2=>⟨vs,bi,r.ext0 ⟨Nat.le_succ _,h1,λb xs e=>by rw[aE (aG e hp)];exact e,λb ob u e=>by rw[aE (aG e hp)];exact e⟩⟩)
 have l:(st++[O.dct kvs]).length=st.length+1:=by simp
 refine P _ ι' _ (by rw[l];exact E) S' ?_
 rw[<-e,l];exact .ref (aO _)
theorem yI(hc:X.calm=true)(f:Bt):eZ X f.val (rB X.K f):=by
 intro pins s σ H xs us Q I r h;obtain⟨ι,st,ds,S,rv,P⟩:=h;have sz:sizeLine=16777216:=sizeLine_eq;cases ds with
 |nil=>exact False.elim P
 |cons x ds=>cases ds with
  |cons y ds=>cases ds with
   |cons=>exact False.elim P
   |nil=>
   replace P:b_ X.K H ι st (AB f x y st) Q:=P
   cases rv with
   |cons h1 rv=>cases rv with
    |cons h2 t=>
     cases t;cases f with
     |max=>cases x with
      |int i=>cases y with
       |int j=>cases h1;cases h2;exact rg hc pins s σ H _ us Q I r ⟨_,_,rfl,P.same S (.int _)⟩
       |_=>exact False.elim P
      |_=>exact False.elim P
     |min=>cases x with
      |int i=>cases y with
       |int j=>cases h1;cases h2;exact rf hc pins s σ H _ us Q I r ⟨_,_,rfl,P.same S (.int _)⟩
       |_=>exact False.elim P
      |_=>exact False.elim P
     |_=>exact False.elim P
  |nil=>
  obtain⟨v,rfl,hv⟩:=rv.inv1
  replace P:b_ X.K H ι st (rn f x st) Q:=P
  cases f with
  |len=>
   simp only[rn] at P;split at P
   ·rename_i ys es;obtain⟨a,vs,rfl,hq,rr⟩:=hv.seq S es;exact mf pins s σ H _ us Q I r ⟨_,_,rfl,hq,by rw[<-rr.length];exact P.same S (.int _)⟩
   ·split at P
    ·rename_i kvs es;obtain⟨n,a,vs,rfl,q,ea,rfl,g1,g2⟩:=nC S es hv;obtain⟨u,rfl,ru⟩:=vals1 r;cases ru;exact Ay I (.inl g1) λt s' I'=>⟨.int kvs.length,H,I',by rw[g2.length];exact⟨t,rfl⟩,P.same S (.int _)⟩
    ·exact False.elim P
  |list=>
   simp only[rn] at P;split at P
   ·rename_i ys es;obtain⟨a,vs,rfl,hq,rr⟩:=hv.seq S es;exact me pins s σ H _ us Q I r ⟨_,_,rfl,hq,P.alloc S rr⟩
   ·exact False.elim P
  |tuple=>
   simp only[rn] at P;split at P
   ·rename_i ys es;obtain⟨a,vs,rfl,hq,rr⟩:=hv.seq S es;rcases hq with hq|hq
    ·exact f9 pins s σ H _ us Q I r ⟨_,_,rfl,.inl ⟨hq,P.tup S rr⟩⟩
    ·exact f9 pins s σ H _ us Q I r ⟨_,_,rfl,.inr ⟨hq,P.same S (.tup hq rr)⟩⟩
   ·exact False.elim P
  |int=>cases x with
   |bl b=>cases hv;exact rh pins s σ H _ us Q I r (.inr ⟨b,rfl,P.same S (.int _)⟩)
   |_=>exact False.elim P
  |dict=>
   have cp:∀{x:D}{v:V},VRel X.K H ι st.length x v->bm [v] us->b_ X.K H ι st (match ck st x with|some kvs=>.ok (.ref st.length) (st++[.dct kvs])|none=>.bad) Q->wpAny (model X.prog X.w) X.A (call (.type "dict") us) (EP X pins σ Q) X.xe s:=λ{x v} hv r P=>by
    cases es:ck st x with
    |none=>rw[es] at P;exact P.elim
    |some kvs=>rw[es] at P;obtain⟨n,a,vs,rfl,q,ea,rfl,g1,g2⟩:=nC S es hv;obtain⟨u,rfl,ru⟩:=vals1 r;cases ru;exact ug I (.inl g1) λp s' hp I'=>⟨.ref p,_,I',rfl,P.allocK S g2 p hp⟩
   cases x with
   |tup xs=>
    simp only[rn] at P;split at P
    ·rename_i ps hps;cases hv with
     |tup hq rr=>obtain⟨qs,k1,k2⟩:=pE hps rr;exact oV hc pins s σ H _ us Q I r ⟨_,_,qs,rfl,hq,k1,P.allocK S (nz k2 .nil)⟩
    ·exact False.elim P
   |_=>exact cp hv r P
  |_=>exact False.elim P
structure ICl where
 x:Str
 flds:List Str
 mts:List (Str×Nat)
structure Tab where
 fns:List Str
 csts:List (Str×D)
 calm:Bool
 icl:List ICl
 mks:List (Str×Nat)
 isks:List Str
noncomputable def Tab.ics(T:Tab)(f:Str):List Str:=(T.icl.filter λc=>c.flds.contains f).map (·.x)
noncomputable def Tab.ims(T:Tab)(m:Str):List (Str×Nat):=T.icl.filterMap λc=>(c.mts.lookup m).map λj=>(c.x,j)
noncomputable def di:List Str->Str->Option Nat
 |[],_=>none
 |y::r,x=>if y=x then some 0 else(di r x).map (· +1)
theorem b6:∀{N:List Str}{x:Str}{i:Nat},di N x=some i->N[i]? =some x
 |[],_,_,h=>by cases h
 |y::r,x,i,h=>by
  unfold di at h;split at h
  ·rename_i e;cases h;rw[e];rfl
  ·cases q:di r x with
   |none=>rw[q] at h;cases h
   |some j=>rw[q] at h;have:j+1=i:=ai h;subst this;simpa using b6 q
noncomputable def yJ:List (Str×Bt):=[("len",.len),("list",.list),("tuple",.tuple),("int",.int),("dict",.dict),("max",.max),("min",.min)]
noncomputable def uq:List Str:=["len","list","tuple","int","dict","max","min","isinstance","range","zip","sorted"]
noncomputable def AC:Operator->Option Bo
 | .Add=>some .add
 | .Sub=>some .sub
 | .Mult=>some .mul
 | .FloorDiv=>some .fdiv
 | .Mod=>some .mod
 | .Pow=>some .pow
 |_=>none
noncomputable def cq(sc scope:Scope)(N:List Str)(x:Str):Bool:=
 (scope.kind== .function)&&(scope.names.lookup x==some .local)&&decide ((x::fS scope N).Nodup)&&(x != "__debug__")&&(x != "__classdict__")&&
 (scope.names.all λy=>(y.2 != .cell)&&(y.2 != .local||scope.names.lookup y.1==some .local)&&(y.2 != .free||sc.names.lookup y.1==some .cell||sc.names.lookup y.1==some .free))&&
 N.all λz=>(scope.names.lookup z !=some .local||scope.names.lookup (wH z)==none)&&(wH z != "__debug__")&&(wH z != "__classdict__")
noncomputable def dk(sc scope:Scope)(N:List Str)(x y:Str):Bool:=
 cq sc scope N x&&(scope.names.lookup y==some .local)&&decide ((x::y::fS scope N).Nodup)&&(y != "__debug__")&&(y != "__classdict__")
noncomputable def cP(sc scope:Scope):Scope:=
 {scope with names:=scope.names.map λ(n,k)=>if(k== .free&&sc.kind== .function&&sc.names.lookup n==some .cell) then(n,.cell) else(n,k)}
noncomputable def bO(sc:Scope)(x:Str):Bool:=sc.names.lookup x==some .globalImplicit
noncomputable def gJ:Expr->Bool
 | .Slice .. =>false
 |_=>true
noncomputable def rj:Expr->Option Str
 | .Name x _=>some x
 |_=>none
theorem cK(h:rj e=some x):∃p,e= .Name x p:=by cases e<;>cases h;exact⟨_,rfl⟩
noncomputable def v8:Expr->Option (Str×List Expr)
 | .Call f as ks _=>(match ks with
  |[]=>(rj f).map λx=>(x,as)
  |_=>none)
 |_=>none
theorem jU{as:List Expr}(h:v8 e=some (x,as)):∃p q,e= .Call (.Name x p) as [] q:=by
 cases e with
 |Call f as ks q=>
  cases ks with
  |nil=>obtain⟨y,h1,h2⟩:=map_some h;cases h2;obtain⟨p,rfl⟩:=cK h1;exact⟨p,q,rfl⟩
  |cons=>cases h
 |_=>cases h
noncomputable def uo(e:Expr):Option (Str×Expr):=(v8 e).bind λp=>(one p.2).map λa=>(p.1,a)
theorem kM{r:Str}(h:uo e=some (r,a)):∃p q,e= .Call (.Name r p) [a] [] q:=by obtain⟨⟨x,as⟩,h1,h⟩:=bs h;obtain⟨b,h2,h3⟩:=map_some h;cases h3;cases cj h2;exact jU h1
noncomputable def zt:Option Expr->Option Str
 |some (.Constant c _ _)=>(match c with
  | .str k=>some k
  |_=>none)
 |_=>none
theorem r_{o:Option Expr}{k:Str}(h:zt o=some k):∃p q,o=some (.Constant (.str k) p q):=by
 cases o with
 |none=>cases h
 |some e=>
  cases e with
  |Constant c _ _=>
   cases c with
   |str=>cases h;exact⟨_,_,rfl⟩
   |_=>cases h
  |_=>cases h
noncomputable def qd:List (Option Expr)->Option (List Str)
 |[]=>some []
 |k::r=>(zt k).bind λx=>(qd r).map (x:: ·)
noncomputable def eB:Expr->Bool
 | .Name .. =>true
 | .Attribute .. =>true
 | .Subscript .. =>true
 | .Call (.Attribute ..) .. =>true
 | .Call (.Name ..) (_::_) .. =>true
 |_=>false
noncomputable def tF(s:Str):Bool:=s== "pop"
noncomputable def Ae:List Comprehension->Option (Expr×Expr×List Expr)
 |[⟨t,it,ifs,k⟩]=>if k=0 then some (t,it,ifs) else none
 |_=>none
theorem tR{gs:List Comprehension}{p:Expr×Expr×List Expr}(h:Ae gs=some p):gs=[⟨p.1,p.2.1,p.2.2,0⟩]:=by
 rcases gs with _|⟨⟨t,it,ifs,k⟩,_|⟨c,l⟩⟩
 ·cases h
 ·obtain⟨h1,h⟩:=ff h;cases h1;cases h;rfl
 ·cases h
noncomputable def wy:Expr->Option (Str×Str)
 | .Tuple [a,b] _ _=>(rj a).bind λx=>(rj b).map λy=>(x,y)
 |_=>none
theorem qG{z:Str×Str}(h:wy e=some z):∃p q k r,e= .Tuple [.Name z.1 p,.Name z.2 q] k r:=by
 cases e with
 |Tuple l k r=>
  rcases l with _|⟨a,_|⟨b,_|⟨c,l⟩⟩⟩
  ·cases h
  ·cases h
  ·obtain⟨x,h1,h⟩:=bs h;obtain⟨y,h2,rfl⟩:=map_some h;obtain⟨p,rfl⟩:=cK h1;obtain⟨q,rfl⟩:=cK h2;exact⟨p,q,k,r,rfl⟩
  ·cases h
 |_=>cases h
noncomputable def BJ:Expr->Option (Option Expr×Option Expr)
 | .Slice lo hi st _=>(match st with
  |none=>some (lo,hi)
  |_=>none)
 |_=>none
theorem uW{q:Option Expr×Option Expr}(h:BJ e=some q):∃p,e= .Slice q.1 q.2 none p:=by
 cases e with
 |Slice lo hi st p=>
  cases st with
  |none=>cases h;exact⟨p,rfl⟩
  |some=>cases h
 |_=>cases h
noncomputable def y7(sc:Scope)(e:Expr):Option (Expr×Expr):=(v8 e).bind λp=>if p.1= "zip" /\bO sc p.1=true then jy p.2 else none
theorem rA(h:y7 sc e=some z):bO sc "zip"=true/\∃p q,e= .Call (.Name "zip" p) [z.1,z.2] [] q:=by obtain⟨⟨r,as⟩,h1,h⟩:=bs h;obtain⟨⟨e,hg⟩,h⟩:=ff h;cases e;cases dm h;exact⟨hg,jU h1⟩
noncomputable def zH(sc:Scope)(e:Expr):Option Expr:=(uo e).bind λp=>if p.1= "range" /\bO sc p.1=true then some p.2 else none
theorem sx(h:zH sc e=some a):bO sc "range"=true/\∃p q,e= .Call (.Name "range" p) [a] [] q:=by obtain⟨⟨r,b⟩,h1,h⟩:=bs h;obtain⟨⟨e,hg⟩,h⟩:=ff h;cases h;cases e;exact⟨hg,kM h1⟩
noncomputable def rng2(sc:Scope)(e:Expr):Option (Expr×Expr):=(v8 e).bind λp=>if p.1= "range" /\bO sc p.1=true then jy p.2 else none
theorem sy(h:rng2 sc e=some z):bO sc "range"=true/\∃p q,e= .Call (.Name "range" p) [z.1,z.2] [] q:=by obtain⟨⟨r,as⟩,h1,h⟩:=bs h;obtain⟨⟨e,hg⟩,h⟩:=ff h;cases e;cases dm h;exact⟨hg,jU h1⟩
noncomputable def xX(m:Str):Expr->Option Expr
 | .Call (.Attribute o m' ap) as ks cp=>(match ks with
  |[]=>(match as with
   |[]=>if(m'==m&&(ap.endLine==cp.line)&&eB o)=true then some o else none
   |_=>none)
  |_=>none)
 |_=>none
theorem mS{m:Str}(h:xX m e=some o):∃ap cp,e= .Call (.Attribute o m ap) [] [] cp/\(ap.endLine==cp.line)=true/\eB o=true:=by
 cases e with
 |Call f as ks cp=>
  cases f with
  |Attribute o m ap=>
   cases ks with
   |cons=>cases h
   |nil=>
    cases as with
    |cons=>cases h
    |nil=>
     obtain⟨h2,h⟩:=ff h;cases h;simp only[Bool.and_eq_true,beq_iff_eq] at h2;obtain⟨⟨rfl,h3⟩,h4⟩:=h2;exact⟨ap,cp,rfl,by simpa using h3,h4⟩
  |_=>cases h
 |_=>cases h
noncomputable def Bq(ops:List CmpOp)(bs:List Expr):Option Expr:=(one ops).bind λop=>match op with
 | .In=>(one bs).bind λb=>xX "values" b
 |_=>none
noncomputable def A_(f:Str)(args:List Expr):Option Expr:=if f= "sorted" then(one args).bind λc=>xX "items" c else none
noncomputable def isZero:Expr->Bool
 | .Constant (.int i) _ _=>i==0
 |_=>false
theorem oJ(h:isZero e=true):∃k p,e= .Constant (.int 0) k p:=by
 cases e with
 |Constant c k p=>
  cases c with
  |int i=>
   have:i=0:=by simpa[isZero] using h
   subst this;exact⟨_,_,rfl⟩
  |_=>cases h
 |_=>cases h
noncomputable def sV(sc:Scope)(N:List Str)(e:Expr):Option (Str×Nat):=(rj e).bind λx=>if sc.names.lookup x=some .local∨sc.names.lookup x=some .cell∨sc.names.lookup x=some .free then(di N x).map λi=>(x,i) else none
theorem gL{z:Str×Nat}(h:sV sc N e=some z):∃p,e= .Name z.1 p/\uu sc z.1/\di N z.1=some z.2:=by obtain⟨x,h1,h⟩:=bs h;obtain⟨p,rfl⟩:=cK h1;obtain⟨h2,h⟩:=ff h;obtain⟨i,h3,rfl⟩:=map_some h;exact⟨p,rfl,h2,h3⟩
noncomputable def A8:Expr->Option (Expr×Expr)
 | .Subscript a b _=>some (a,b)
 |_=>none
noncomputable def BN:Expr->Option (Expr×Expr×Expr)
 | .Compare a ops bs _=>(A8 a).bind λz=>(one ops).bind λop=>(match op with
  | .Eq=>(one bs).map λk=>(z.1,z.2,k)
  |_=>none)
 |_=>none
theorem vU{z:Expr×Expr×Expr}(h:BN e=some z):∃p q,e= .Compare (.Subscript z.1 z.2.1 p) [.Eq] [z.2.2] q:=by
 cases e with
 |Compare a ops bs' q=>
  obtain⟨w,h1,h⟩:=bs h;obtain⟨op,h2,h⟩:=bs h;cases cj h2;cases op with
  |Eq=>
   obtain⟨k,h3,rfl⟩:=map_some h;cases cj h3;cases a with
   |Subscript a b p=>cases h1;exact⟨_,_,rfl⟩
   |_=>cases h1
  |_=>cases h
 |_=>cases h
noncomputable def zW(x:Str)(elt it:Expr)(ifs:List Expr):Option (Expr×Expr):=(rj elt).bind λx'=>(rj it).bind λd=>(one ifs).bind λc=>(BN c).bind λw=>(rj w.1).bind λd'=>(rj w.2.1).bind λx2=>if x'=x/\d'=d/\x2=x then some (it,w.2.2) else none
theorem tz(h:zW x elt it ifs=some z):∃d p1 p2 p3 p4 p5 p6,elt= .Name x p1/\it= .Name d p2/\z.1=it/\ifs=[.Compare (.Subscript (.Name d p3) (.Name x p4) p5) [.Eq] [z.2] p6]:=by
 obtain⟨x',h1,h⟩:=bs h;obtain⟨d,h2,h⟩:=bs h;obtain⟨c,h3,h⟩:=bs h;obtain⟨⟨w1,w2,w3⟩,h4,h⟩:=bs h;obtain⟨d',h5,h⟩:=bs h;obtain⟨x2,h6,h⟩:=bs h;obtain⟨h7,h⟩:=ff h;obtain⟨g1,g2,g3⟩:=h7;cases h;obtain⟨p1,e1⟩:=cK h1;obtain⟨p2,e2⟩:=cK h2;obtain⟨p3,e3⟩:=cK h5;obtain⟨p4,e4⟩:=cK h6;obtain⟨p5,p6,e5⟩:=vU h4;have e6:=cj h3;dsimp only at e3 e4 e5;exact⟨d,p1,p2,p3,p4,p5,p6,by rw[e1,g1],e2,rfl,by rw[e6,e5,e3,e4,g2,g3]⟩
mutual
noncomputable def cE(T:Tab)(n:Nat)(sc:Scope)(N:List Str)(e:Expr):Option Ex:=match n with
 |0=>none
 |n+1=>match e with
  | .Constant k _ _=>(match k with
   | .int i=>some (.c (.int i))
   | .str s=>some (.c (.str s))
   | .bool b=>some (.c (.bl b))
   | .none=>some (.c .non)
   |_=>none)
  | .Name x _=>(sc.names.lookup x).bind λk=>match k with
   | .local=>(di N x).map .v
   | .cell=>(di N x).map .v
   | .free=>(di N x).map .v
   | .globalImplicit=>(T.csts.lookup x).map .c
   |_=>none
  | .Tuple es _ _=>if es.length<=1000 then(rm T n sc N es).map .tup else none
  | .List es _=>if es.length<=1000 then(rm T n sc N es).map .lst else none
  | .Dict ks vs _=>(match ks with
   |[]=>(match vs with
    |[]=>some .emp
    |_=>none)
   |k::ks=>(qd (k::ks)).bind λks'=>(rm T n sc N vs).bind λvs'=>if ks'.length=vs.length/\ks'.length<=15/\ks'.Nodup then some (.dict ks' vs') else none)
  | .BinOp a op b _=>(cE T n sc N a).bind λa'=>(AC op).bind λo=>(cE T n sc N b).map λb'=>.bin o a' b'
  | .UnaryOp op a _=>(match op with
   | .Not=>(cE T n sc N a).map .not
   |_=>none)
  | .BoolOp op es p=>(match es with
   |[]=>none
   |a::r=>match r with
    |[]=>cE T n sc N a
    |b::r=>(cE T n sc N a).bind λa'=>(cE T n sc N (.BoolOp op (b::r) p)).map λb'=>match op with
     | .And=>.and a' b'
     | .Or=>.or a' b')
  | .Compare a ops bs _=>(Bq ops bs).elim ((one ops).elim ((jy ops).bind λo=>(jy bs).bind λb=>(cE T n sc N a).bind λa'=>(cE T n sc N b.1).bind λb'=>(cE T n sc N b.2).map λc'=>.chain o.1 o.2 a' b' c')
   λop=>(one bs).bind λb=>(cE T n sc N a).bind λa'=>(cE T n sc N b).map λb'=>.cmp op a' b') λo=>if T.calm=true then(cE T n sc N a).bind λa'=>(cE T n sc N o).map λo'=>.inV a' o' else none
  | .Subscript a b _=>(BJ b).elim (if gJ b=true then(cE T n sc N a).bind λa'=>(cE T n sc N b).map λb'=>.ix a' b' else none)
   λq=>match q.1 with
    |none=>q.2.bind λh=>(cE T n sc N a).bind λa'=>(cE T n sc N h).map λh'=>.sl a' h' h' false true
    |some l=>(cE T n sc N a).bind λa'=>(cE T n sc N l).bind λl'=>match q.2 with
     |none=>some (.sl a' l' l' true false)
     |some h=>(cE T n sc N h).map λh'=>.sl a' l' h' true true
  | .Call f args kws cp=>(match kws with
   |[]=>(match f with
   | .Name f _=>if bO sc f=true then(A_ f args).elim (match args with
     |[]=>none
     |a::as=>(di T.fns f).elim ((T.mks.lookup f).elim ((yJ.lookup f).elim (if f= "isinstance" then(one as).bind λt'=>(rj t').bind λt=>if bO sc t=true/\t∈T.isks then(cE T n sc N a).map λa'=>.isk a' t else none else none)
       λb=>if T.calm=true then(rm T n sc N (a::as)).map (.bt b) else none)
       λj=>(rm T n sc N (a::as)).map (.new f j))
       λi=>(rm T n sc N (a::as)).map (.fn i))
     λo=>if T.calm=true then(cE T n sc N o).map .sit else none
    else none
   | .Attribute o m ap=>if(eB o&&(ap.endLine==cp.line)&&decide (args.length<29))=true then(cE T n sc N o).bind λo'=>
     if tF m=true then(one args).bind λa=>if isZero a=true then some (.pop o') else none
     else if m= "get" then(jy args).bind λz=>(cE T n sc N z.1).bind λb'=>(cE T n sc N z.2).map λc'=>.dget o' b' c'
     else(rm T n sc N args).map λas'=>.meth o' m (T.ims m) as' else none
   |_=>none)
   |_=>none)
  | .ListComp elt gens scope _=>(Ae gens).bind λq=>(rj q.1).elim ((wy q.1).bind λz=>if dk sc scope N z.1 z.2=true/\T.calm=true then
     (cE T n (cP sc scope) (z.1::z.2::fS scope N) elt).bind λe'=>match q.2.2 with
      |[]=>(cE T n sc N q.2.1).map λa'=>.compU a' e'
      |_=>none
    else none)
    λx=>if T.calm=true/\cq sc scope N x=true then
     (zW x elt q.2.1 q.2.2).elim ((uo q.2.1).elim (kO T n sc N false q.2.1 x elt q.2.2 scope) λra=>if ra.1= "range" /\bO sc ra.1=true then kO T n sc N true ra.2 x elt q.2.2 scope else kO T n sc N false q.2.1 x elt q.2.2 scope)
      λz=>(sV sc N z.1).bind λd=>(sV sc N z.2).bind λk=>(sV (cP sc scope) (x::fS scope N) z.1).bind λd1=>(sV (cP sc scope) (x::fS scope N) z.2).bind λk1=>if d1.2=d.2+1/\k1.2=k.2+1/\(cP sc scope).names.lookup x=some .local then some (.keq d.2 k.2) else none
    else none
  | .Attribute o f _=>if eB o=true then(cE T n sc N o).map (λo'=>.fld o' f [] (T.ics f)) else none
  |_=>none
noncomputable def rm(T:Tab)(n:Nat)(sc:Scope)(N:List Str)(es:List Expr):Option (List Ex):=match n with
 |0=>none
 |n+1=>match es with
  |[]=>some []
  |e::r=>(cE T n sc N e).bind λe'=>(rm T n sc N r).map λr'=>e'::r'
noncomputable def kO(T:Tab)(n:Nat)(sc:Scope)(N:List Str)(rng:Bool)(src:Expr)(x:Str)(elt:Expr)(ifs:List Expr)(scope:Scope):Option Ex:=match n with
 |0=>none
 |n+1=>(cE T n sc N src).bind λs'=>(cE T n (cP sc scope) (x::fS scope N) elt).bind λe'=>match ifs with
   |[]=>some (.comp rng s' e')
   |c::r=>(match r with
    |[]=>if rng=false then(cE T n (cP sc scope) (x::fS scope N) c).map λc'=>.compIf s' c' e' else none
    |_=>none)
end
structure LRel(K:av)(H:Hp)(ι:Nat->Addr)(m:Nat)(loc:Loc)(σ:L2.St):Prop where
 len:loc.length=σ.length
 at_:∀(i:Nat)(d:D),loc[i]? =some (some d)->∃v:V,σ[i]? =some (some v)/\VRel K H ι m d v
theorem LRel.ext{K:av}{loc:Loc}(L:LRel K H ι m loc σ)(E:Ext H H' ι ι' m m'):LRel K H' ι' m' loc σ:=
 ⟨L.len,λi d e=>let⟨v,h1,h2⟩:=L.at_ i d e;⟨v,h1,h2.ext E⟩⟩
theorem LRel.cons{K:av}{loc:Loc}{d:D}(L:LRel K H ι m loc σ)(r:VRel K H ι m d v):LRel K H ι m (some d::loc) (some v::σ):=
 ⟨by simp[L.len],λi e h=>by
  cases i with
  |zero=>
   have:d=e:=by simpa using h
   subst this;exact⟨v,rfl,r⟩
  |succ i=>simpa using L.at_ i e (by simpa using h)⟩
theorem LRel.set{K:av}{loc:Loc}{d:D}(L:LRel K H ι m loc σ)(j:Nat)(r:VRel K H ι m d v):LRel K H ι m (loc.set j (some d)) (σ.set j (some v)):=
 ⟨by simp[L.len],λi e h=>by
  by_cases hj:j=i
  ·subst hj
   have hl:j<loc.length:=by have:=(au h).1;simpa using this
   rw[aY hl] at h;cases h;exact⟨v,by rw[aY (by rw[<-L.len];exact hl)],r⟩
  ·rw[aI hj] at h;obtain⟨w,h1,h2⟩:=L.at_ i e h;exact⟨w,by rw[aI hj];exact h1,h2⟩⟩
noncomputable def tE(K:av)(m:Loc->M D):TE:=λσ H Q=>∃ι st loc,Sim K H ι st/\LRel K H ι st.length loc σ/\b_ K H ι st (m loc st) Q
noncomputable def hW(K:av)(H:Hp)(ι:Nat->Addr)(st:aP)(r:R D)(Q:Bool->Hp->Prop):Prop:=match r with
 | .ok (.bl k) st'=>∀H' ι',Ext H H' ι ι' st.length st'.length->Sim K H' ι' st'->Q k H'
 |_=>False
noncomputable def tT(K:av)(m:Loc->M D):TT:=λσ H Q=>∃ι st loc,Sim K H ι st/\LRel K H ι st.length loc σ/\hW K H ι st (m loc st) Q
noncomputable def uz(K:av)(H:Hp)(ι:Nat->Addr)(st:aP)(r:R (List D))(Q:List V->Hp->Prop):Prop:=match r with
 | .ok ds st'=>∀H' ι' vs,Ext H H' ι ι' st.length st'.length->Sim K H' ι' st'->VRels K H' ι' st'.length ds vs->Q vs H'
 | .bad=>False
noncomputable def tA(K:av)(m:Loc->M (List D)):TA:=λσ H Q=>∃ι st loc,Sim K H ι st/\LRel K H ι st.length loc σ/\uz K H ι st (m loc st) Q
section
variable{K:av}{H:Hp}{ι:Nat->Addr}{st:aP}{σ:L2.St}{loc:Loc}
theorem bn{m:Loc->M D}{d:D}{st1:aP}(S:Sim K H ι st)(L:LRel K H ι st.length loc σ)(e:m loc st=.ok d st1)(k:∀H1 ι1 v,Ext H H1 ι ι1 st.length st1.length->Sim K H1 ι1 st1->VRel K H1 ι1 st1.length d v->Q v H1):tE K m σ H Q:=
 ⟨ι,st,loc,S,L,by rw[e];exact k⟩
theorem km{m:Loc->M D}{Q:Bool->Hp->Prop}{b:Bool}{st1:aP}(S:Sim K H ι st)(L:LRel K H ι st.length loc σ)(e:m loc st=.ok (.bl b) st1)(k:∀H1 ι1,Ext H H1 ι ι1 st.length st1.length->Sim K H1 ι1 st1->Q b H1):tT K m σ H Q:=
 ⟨ι,st,loc,S,L,by rw[e];exact k⟩
theorem jm{m:Loc->M (List D)}{Q:List V->Hp->Prop}{ds:List D}{st1:aP}(S:Sim K H ι st)(L:LRel K H ι st.length loc σ)(e:m loc st=.ok ds st1)(k:∀H1 ι1 vs,Ext H H1 ι ι1 st.length st1.length->Sim K H1 ι1 st1->VRels K H1 ι1 st1.length ds vs->Q vs H1):tA K m σ H Q:=
 ⟨ι,st,loc,S,L,by rw[e];exact k⟩
theorem aT{m:M α}{f:α->M D}{st0:aP}(P:b_ K H ι st (ba m f st0) Q):∃a st1,m st0=.ok a st1/\b_ K H ι st (f a st1) Q:=by
 unfold ba at P;cases e:m st0 with
 |ok a st1=>rw[e] at P;exact⟨a,st1,rfl,P⟩
 |bad=>rw[e] at P;exact P.elim
theorem eh{m:M α}{f:α->M D}{st0:aP}{Q:Bool->Hp->Prop}(P:hW K H ι st (ba m f st0) Q):∃a st1,m st0=.ok a st1/\hW K H ι st (f a st1) Q:=by
 unfold ba at P;cases e:m st0 with
 |ok a st1=>rw[e] at P;exact⟨a,st1,rfl,P⟩
 |bad=>rw[e] at P;exact P.elim
theorem nI{m:M α}{f:α->M (List D)}{st0:aP}{Q:List V->Hp->Prop}(P:uz K H ι st (ba m f st0) Q):∃a st1,m st0=.ok a st1/\uz K H ι st (f a st1) Q:=by
 unfold ba at P;cases e:m st0 with
 |ok a st1=>rw[e] at P;exact⟨a,st1,rfl,P⟩
 |bad=>rw[e] at P;exact P.elim
theorem bX{o:Option α}{a:α}{st0 st1:aP}(e:dh o st0=.ok a st1):o=some a/\st1=st0:=by
 unfold dh at e;cases o with
 |none=>cases e
 |some b=>cases e;exact⟨rfl,rfl⟩
theorem cb{x:D}{b:Bool}(e:eg x=some b):x=.bl b:=by cases x<;>cases e;rfl
theorem tJ{x:D}{b:Int}(e:j_ x=some b):x=.int b:=by cases x<;>cases e;rfl
theorem hW.inv{r:R D}{Q:Bool->Hp->Prop}(P:hW K H ι st r Q):∃b st1,r=.ok (.bl b) st1/\∀H' ι',Ext H H' ι ι' st.length st1.length->Sim K H' ι' st1->Q b H':=by
 unfold hW at P;split at P
 ·exact⟨_,_,rfl,P⟩
 ·exact P.elim
theorem hW.mono{r:R D}{Q:Bool->Hp->Prop}{H1:Hp}{st1:aP}(P:hW K H ι st r Q)(E:Ext H H1 ι ι1 st.length st1.length):hW K H1 ι1 st1 r Q:=by obtain⟨b,st2,rfl,k⟩:=P.inv;exact λH' ι' E' S'=>k H' ι' (E.trans E') S'
end
theorem _root_.L2.PE.imp{X:Cx}{e:Expr}{t t':TE}(h:PE X e t)(k:∀σ H Q,t' σ H Q->t σ H Q):PE X e t':=λpins s σ H Q I q=>h pins s σ H Q I (k σ H Q q)
theorem _root_.L2.PT.imp{X:Cx}{e:Expr}{t t':TT}(h:PT X e t)(k:∀σ H Q,t' σ H Q->t σ H Q):PT X e t':=λpins s σ H Q I q=>h pins s σ H Q I (k σ H Q q)
theorem _root_.L2.PA.imp{X:Cx}{es:List Expr}{t t':TA}(h:PA X es t)(k:∀σ H Q,t' σ H Q->t σ H Q):PA X es t':=λpos pins s σ H Q I q=>h pos pins s σ H Q I (k σ H Q q)
noncomputable def f_(K:av)(E:XK)(H:Hp)(ι:Nat->Addr)(st:aP)(r:R Rs)(Q:VK):Prop:=match r with
 | .ok (.v d) st'=>∀H' ι' v,Ext H H' ι ι' st.length st'.length->Sim K H' ι' st'->VRel K H' ι' st'.length d v->Q v H'
 | .ok (.x n) st'=>∀H' ι',Ext H H' ι ι' st.length st'.length->Sim K H' ι' st'->E (.ref (ι' n)) none H'
 | .bad=>False
theorem f_.mono{K:av}{E:XK}{st:aP}{r:R Rs}{H1:Hp}{st1:aP}(P:f_ K E H ι st r Q)(E1:Ext H H1 ι ι1 st.length st1.length):f_ K E H1 ι1 st1 r Q:=by
 cases r with
 |ok f st2=>
  cases f with
  |v d=>exact λH' ι' v E' S' r'=>P H' ι' v (E1.trans E') S' r'
  |x n=>exact λH' ι' E' S'=>P H' ι' (E1.trans E') S'
 |bad=>exact P
theorem f_.val{K:av}{st:aP}{m:M Rs}{st1:aP}{E:XK}(P:b_ K H ι st (ba m (λr=>dh r.val?) st1) Q):f_ K E H ι st (m st1) Q:=by
 obtain⟨r,st2,e,P⟩:=aT P;rw[e];cases r with
 |v d=>exact P
 |x n=>exact P.elim
noncomputable def zu(K:av)(n:Nat)(f:List D->M Rs):Sp:=λvs H Q E=>vs.length=n/\∃ι st ds,Sim K H ι st/\VRels K H ι st.length ds vs/\f_ K E H ι st (f ds st) Q
structure Ctx(T:Tab)(g:dO)(X:Cx)(sc:Scope)(N:List Str):Prop where
 sc:X.env.scope=sc
 n:X.N=N
 nd:N.Nodup
 nm:∀x∈N,(x==("__debug__":Str))=false/\(x==("__classdict__":Str))=false
 calm:T.calm=true->X.calm=true
 un:X.A.units+100<cLine
 fns:∀i f,T.fns[i]? =some f->(f==("__debug__":Str))=false/\∃a fd ps k,X.mg f=some (.ref a)/\PySem.W.keepIn X.K (.ref a)=true/\Binds X.K fd ps []/\Room k X.A/\(∀ds st,ds.length≠ps.length->g i ds st=R.bad)/\FnOk X.prog X.w X.K X.mg X.base (nO X.prog X.w) k a fd ps (zu X.K ps.length (g i))
 csts:∀x d,T.csts.lookup x=some d->(x==("__debug__":Str))=false/\∃u v,X.mg x=some u/\RelV v u/\∀H ι m,VRel X.K H ι m d v
 blt:∀x∈uq,X.mg x=none
 icl:∀c∈T.icl,∃C,PySem.W.nsIn X.K mainGlobals c.x=some (some (.ref C))/\Cls X.K C/\(∀f∈c.flds,eT X.K C f)/\(∀m j,(m,j)∈c.mts->∃a fd ps k,Meth X.K C m a/\Binds X.K fd ps []/\Room k X.A/\(∀ds st,ds.length≠ps.length->g j ds st=R.bad)/\FnOk X.prog X.w X.K X.mg X.base (nO X.prog X.w) k a fd ps (zu X.K ps.length (g j)))
 mks:∀x j,(x,j)∈T.mks->(x==("__debug__":Str))=false/\∃C a fd ps k,PySem.W.nsIn X.K mainGlobals x=some (some (.ref C))/\X.mg x=some (.ref C)/\Mk X.K C a/\Binds X.K fd ps []/\Room (k+1) X.A/\(∀ds st,ds.length≠ps.length->g j ds st=R.bad)/\FnOk X.prog X.w X.K X.mg X.base (nO X.prog X.w) k a fd ps (zu X.K ps.length (g j))
 isks:∀t,t∈T.isks->(t==("__debug__":Str))=false/\∃C,PySem.W.nsIn X.K mainGlobals t=some (some (.ref C))/\X.mg t=some (.ref C)/\Cls X.K C/\PySem.W.findIn X.K (.ref C) "__class__"=some (some (.builtin "object.__class__"))/\
  PySem.W.specialIn X.K (.builtin "object.__class__") "__get__"=some (some (.builtin "getset_descriptor.__get__"))/\PySem.W.takesIn X.K (.builtin "object.__class__")=some true/\PySem.W.mroIn X.K C (.type "object")=some true/\PySem.W.kitOne X.K (.ref C) (.ref C)=some true
noncomputable def Ac(K:av)(tl:TE):TI:=λσ H R=>tl σ H λx H1=>∃a,x=.ref a/\(((∃xs,fW K H1 a xs)/\R (AU K a) H1)∨((∃xs,f6 K H1 a xs)/\R (BF K a) H1))
theorem jv{tg l:Expr}{tl:TE}(hl:PE X l tl):PI X tg l (Ac X.K tl):=by
 intro pins s σ H R I h;refine bU (hl pins s σ H _ I h) λv s1 hp=>?_;obtain⟨x,H1,I1,r1,q1⟩:=hp;obtain⟨a,rfl,⟨⟨xs,hq⟩,q⟩|⟨⟨xs,hq⟩,q⟩⟩:=q1
 ·cases r1;obtain⟨its,rv,p,hz⟩:=I1.list hq;refine wpAny_pyIter_list p.isList ?_;refine⟨s1.heap.objs.size,[s1.heap.objs.size],_,_,H1,rfl,I1.kept (t':=s1.toks) λb o e=>ae _ e,qp a _,⟨_,am _ rfl,rfl,rfl⟩,λb hb=>?_,q⟩;have e:b=s1.heap.objs.size:=by simpa using hb
  subst e;exact I1.fpOk (ah _) (I1.hok.fresh (ah _))
 ·cases r1;obtain⟨its,rv,p,hz⟩:=I1.tuple hq;refine wpAny_pyIter_tuple (show s1.heap.IsTuple a its.toArray from p) ?_;refine⟨s1.heap.objs.size,[s1.heap.objs.size],_,_,H1,rfl,I1.kept (t':=s1.toks) λb o e=>ae _ e,nT a _,⟨_,am _ rfl,rfl,rfl⟩,λb hb=>?_,q⟩;have e:b=s1.heap.objs.size:=by simpa using hb
  subst e;exact I1.fpOk (ah _) (I1.hok.fresh (ah _))
noncomputable def cr(K:av)(J:It)(s:Src)(H0:Hp)(ι0:Nat->Addr)(m0:Nat):Prop:=∀H ι st i,Ext H0 H ι0 ι m0 st.length->Sim K H ι st->
 (im s i st=some none->J.stop i H)/\∀x,im s i st=some (some x)->J.go i H/\∀v H',J.yld i H v H'->H'=H/\VRel K H ι st.length x v
theorem cr.tup{K:av}{a:Addr}{H0:Hp}{xs:List D}{vs:List V}(h:f6 K H0 a vs)(r:VRels K H0 ι0 m0 xs vs):cr K (BF K a) (.its xs) H0 ι0 m0:=λH ι st i E S=>by
 have l:=r.length;have h':=f6.ext E.toExt0 h;refine⟨λe=>?_,λx e=>?_⟩
 ·have e:xs[i]? =none:=ai e;exact⟨vs,h',by have:=List.getElem?_eq_none_iff.mp e;omega⟩
 ·have e:xs[i]? =some x:=ai e;obtain⟨v,hv,rv⟩:=(r.ext E).get e;refine⟨⟨vs,v,h',hv⟩,λw H' y=>⟨y.1,?_⟩⟩;have:=y.2 vs h';rw[hv] at this;cases this;exact rv
theorem cr.fl{K:av}{a:Addr}{H0:Hp}{xs:List D}{vs:List V}(h:uH K H0 a vs)(r:VRels K H0 ι0 m0 xs vs):cr K (AU K a) (.its xs) H0 ι0 m0:=λH ι st i E S=>by
 have l:=r.length;have h':=(uH.ext E.toExt0 h).sql;refine⟨λe=>?_,λx e=>?_⟩
 ·have e:xs[i]? =none:=ai e;exact⟨vs,h',by have:=List.getElem?_eq_none_iff.mp e;omega⟩
 ·have e:xs[i]? =some x:=ai e;obtain⟨v,hv,rv⟩:=(r.ext E).get e;refine⟨⟨vs,v,h',hv⟩,λw H' y=>⟨y.1,?_⟩⟩;have:=y.2 vs h';rw[hv] at this;cases this;exact rv
theorem cr.ref{K:av}{H0:Hp}(hn:n<m0):cr K (AU K (ι0 n)) (.at n) H0 ι0 m0:=λH ι st i E S=>by
 simp only[im];cases q:st[n]? with
 |none=>exact⟨λe=>(by cases e),λx e=>(by cases e)⟩
 |some o=>
  have ob:=S.ob n o q;rw[E.ad n hn] at ob;cases o with
  |dct kvs=>exact⟨λe=>(by cases e),λx e=>(by cases e)⟩
  |ins _ _=>exact⟨λe=>(by cases e),λx e=>(by cases e)⟩
  |lst xs=>
   obtain⟨vs,h1,r⟩:=ob;have l:=r.length;have h':fW K H (ι0 n) vs:=fW.of h1;refine⟨λe=>?_,λx e=>?_⟩
   ·have e:xs[i]? =none:=ai e;exact⟨vs,h',by have:=List.getElem?_eq_none_iff.mp e;omega⟩
   ·have e:xs[i]? =some x:=ai e;obtain⟨v,hv,rv⟩:=r.get e;refine⟨⟨vs,v,h',hv⟩,λw H' y=>⟨y.1,?_⟩⟩;have:=y.2 vs h';rw[hv] at this;cases this;exact rv
theorem cr.rng{K:av}{H0:Hp}{k:Nat}:cr K (yX 0 k) (.its (bL k)) H0 ι0 m0:=λH ι st i E S=>by
 refine⟨λe=>?_,λx e=>?_⟩
 ·have e:(bL k)[i]? =none:=ai e;show k<=i;have:=List.getElem?_eq_none_iff.mp e;simpa[bL] using this
 ·have e:(bL k)[i]? =some x:=ai e
  have hi:i<k:=by have:=(au e).1;simpa[bL] using this
  have hx:x=.int (i:Int):=by
   have:(bL k)[i]? =some (.int (i:Int)):=by simp[bL,hi]
   rw[this] at e;exact(ai e).symm
  subst hx;refine⟨hi,λv H' y=>⟨y.1,?_⟩⟩;have:v=.int (0+(i:Int)):=y.2;rw[this,Int.zero_add];exact .int _
theorem cr.rng2{K:av}{H0:Hp}{k:Nat}{lo:Int}:cr K (yX lo k) (.its (cI lo k)) H0 ι0 m0:=λH ι st i E S=>by
 refine⟨λe=>?_,λx e=>?_⟩
 ·have e:(cI lo k)[i]? =none:=ai e;show k<=i;have:=List.getElem?_eq_none_iff.mp e;simpa[cI] using this
 ·have e:(cI lo k)[i]? =some x:=ai e
  have hi:i<k:=by have:=(au e).1;simpa[cI] using this
  have hx:x=.int (lo+(i:Int)):=by
   have:(cI lo k)[i]? =some (.int (lo+(i:Int))):=by simp[cI,hi]
   rw[this] at e;exact(ai e).symm
  subst hx;refine⟨hi,λv H' y=>⟨y.1,?_⟩⟩;have:v=.int (lo+(i:Int)):=y.2;rw[this];exact .int _
structure EltOk(K:av)(tc:TT)(te:TE)(f:Loc->D->M (Option D)):Prop where
 turn:∀{H:Hp}{ι:Nat->Addr}{st st1:aP}{loc:Loc}{σ:L2.St}{x:D}{v:V}{o:Option D}{Q:Option V->Hp->Prop},Sim K H ι st->LRel K H ι st.length loc σ->VRel K H ι st.length x v->f loc x st=.ok o st1->
  (∀H1 ι1 w,Ext H H1 ι ι1 st.length st1.length->Sim K H1 ι1 st1->(match o,w with|some y,some z=>VRel K H1 ι1 st1.length y z|none,none=>True|_,_=>False)->Q w H1)->
  tc (some v::σ) H λb H3=>if b=true then te (some v::σ) H3 λy H4=>Q (some y) H4 else Q none H3
noncomputable def j4(K:av)(J:It)(s:Src)(H0:Hp)(ι0:Nat->Addr)(m0:Nat):Prop:=∀H ι st i,Ext H0 H ι0 ι m0 st.length->Sim K H ι st->
 (im s i st=some none->J.stop i H)/\∀x,im s i st=some (some x)->J.go i H/\∀v H',J.yld i H v H'->Ext H H' ι ι st.length st.length/\Sim K H' ι st/\VRel K H' ι st.length x v
theorem Sim.tup{K:av}{st:aP}(S:Sim K H ι st)(hp:H p=none):Ext H (bE H p (.tup xs)) ι ι st.length st.length/\Sim K (bE H p (.tup xs)) ι st:=by
 have E:Ext H (bE H p (.tup xs)) ι ι st.length st.length:=⟨⟨ah _,λ_ _=>rfl,λb ys e=>by rw[aE (aG e hp)];exact e,λb ob u e=>by rw[aE (aG e hp)];exact e⟩,λb ob e k=>⟨by rw[aE (aG e hp)];exact e,k⟩⟩
 refine⟨E,S.inj,λn o e=>?_⟩;have hn:n<st.length:=(au e).1;have hne:ι n≠p:=by obtain⟨_,h,_⟩:=S.obj hn;exact aG h hp
 have old:=S.ob n o e;exact old.move E.toExt0 (aE hne)
structure EltG(K:av)(tt:V->Hp->(Option V->Hp->Prop)->Prop)(f:D->M (Option D))(H0:Hp)(ι0:Nat->Addr)(m0:Nat):Prop where
 turn:∀{H:Hp}{ι:Nat->Addr}{st st1:aP}{x:D}{v:V}{o:Option D}{Q:Option V->Hp->Prop},Ext H0 H ι0 ι m0 st.length->Sim K H ι st->VRel K H ι st.length x v->f x st=.ok o st1->
  (∀H1 ι1 w,Ext H H1 ι ι1 st.length st1.length->Sim K H1 ι1 st1->(match o,w with|some y,some z=>VRel K H1 ι1 st1.length y z|none,none=>True|_,_=>False)->Q w H1)->tt v H Q
theorem nF{K:av}{tt:V->Hp->(Option V->Hp->Prop)->Prop}{f:D->M (Option D)}{s:Src}{st st0:aP}{H0:Hp}(ok:EltG K tt f H ι st.length)
  (F:j4 K J s H ι st.length)(E0:Ext H0 H ι0 ι st0.length st.length)(S:Sim K H ι st)(P:b_ K H0 ι0 st0 (ce f s st) Q):∀Dd,H Dd=none->∃W:Nat->Nat->List V->Hp->Prop,(∃m,W 0 m [] (bE H Dd (.lst [])))/\∀i m ys H2,W i m ys H2->
   (J.stop i H2/\Q (.ref Dd) H2)∨(J.go i H2/\∃N:List V->Hp->Prop,(∀ys' H',N ys' H'->∃m',m'<m/\W (i+1) m' ys' H')/\
    ∀x H',J.yld i H2 x H'->tt x H' λw H4=>match w with
     |some y=>H4 Dd=some (.lst ys)/\ys.length<sizeLine/\N (ys++[y]) (bE H4 Dd (.lst (ys++[y])))
     |none=>N ys H4):=by
 intro Dd hD;have sz:sizeLine=16777216:=sizeLine_eq;unfold ce at P;split at P
 case isFalse=>exact P.elim
 case isTrue hz=>
 refine⟨λi m ys H2=>i+m<=1000001/\∃ι2 st2 acc,Ext H H2 ι ι2 st.length st2.length/\Sim K H2 ι2 st2/\H2 Dd=some (.lst ys)/\(∀n,n<st2.length->ι2 n≠Dd)/\VRels K H2 ι2 st2.length acc ys/\acc.length<=i/\
   b_ K H0 ι0 st0 (ba (d_ f s m i acc) alloc st2) Q,⟨dA s st+1,by omega,ι,st,[],?_,?_,bi,λn hn=>?_,.nil,ah _,P⟩,?_⟩
 ·exact⟨⟨ah _,λ_ _=>rfl,λb xs e=>by rw[aE (aG e hD)];exact e,λb ob u e=>by rw[aE (aG e hD)];exact e⟩,λb ob e k=>⟨by rw[aE (aG e hD)];exact e,k⟩⟩
 ·refine⟨S.inj,λn o e=>?_⟩;have hn:n<st.length:=(au e).1;have hne:ι n≠Dd:=by obtain⟨_,h,_⟩:=S.obj hn;exact aG h hD
  have E:Ext0 H (bE H Dd (.lst [])) ι ι st.length st.length:=⟨ah _,λ_ _=>rfl,λb xs e=>by rw[aE (aG e hD)];exact e,λb ob u e=>by rw[aE (aG e hD)];exact e⟩
  have old:=S.ob n o e;exact old.move E (aE hne)
 ·obtain⟨_,h,_⟩:=S.obj hn;exact aG h hD
 ·rintro i m ys H2 ⟨hm,ι2,st2,acc,E2,S2,hDd,ap,ra,la,P2⟩;obtain⟨zs,st9,e9,P9⟩:=aT P2;obtain⟨c1,c2⟩:=F H2 ι2 st2 i E2 S2;cases m with
  |zero=>cases e9
  |succ m=>
   simp only[d_] at e9;cases en:im s i st2 with
   |none=>rw[en] at e9;cases e9
   |some ox=>
    rw[en] at e9;cases ox with
    |none=>
     have e9:R.ok acc st2=R.ok zs st9:=e9;cases e9;refine .inl ⟨c1 en,?_⟩;obtain⟨ι',h1,h2,h3⟩:=S2.add hDd ap ra;have l:(st2++[O.lst acc]).length=st2.length+1:=by simp
     refine P9 H2 ι' (.ref Dd) ?_ h3 ?_
     ·rw[l];have E6:=E0.trans E2;refine⟨⟨Nat.le_succ_of_le E6.le,λn hn=>(h1 n (aw hn E6.le)).trans (E6.ad n hn),E6.tp,E6.fz⟩,λb ob e k=>?_⟩;obtain⟨g1,g2⟩:=E6.fr b ob e k;refine⟨g1,λn hn=>?_⟩;by_cases hn':n=st2.length
      ·rw[hn',h2];obtain⟨g3,_⟩:=E0.fr b ob e k;exact(aG g3 hD).symm
      ·rw[h1 n (by omega)];exact g2 n (by omega)
     ·rw[<-h2,l];exact .ref (aO _)
    |some x=>
     obtain⟨hgo,hyl⟩:=c2 x en
     refine .inr ⟨hgo,λys' H'=>∃ι2 st2 acc,Ext H H' ι ι2 st.length st2.length/\Sim K H' ι2 st2/\H' Dd=some (.lst ys')/\(∀n,n<st2.length->ι2 n≠Dd)/\VRels K H' ι2 st2.length acc ys'/\acc.length<=i+1/\
      b_ K H0 ι0 st0 (ba (d_ f s m (i+1) acc) alloc st2) Q,λys' H' b=>⟨m,aO _,by omega,b⟩,λv H' y=>?_⟩
     obtain⟨EY,SY,rv⟩:=hyl v H' y;obtain⟨hDd,_⟩:=EY.fr Dd _ hDd ap
     replace E2:=E2.trans EY
     replace ra:=ra.ext EY
     simp only[ba] at e9;cases e3:f x st2 with
     |bad=>rw[e3] at e9;cases e9
     |ok o st3=>
      rw[e3] at e9
      refine ok.turn (Q:=λw H4=>match w with
       |some y=>H4 Dd=some (.lst ys)/\ys.length<sizeLine/\∃ι2 st2 acc,Ext H (bE H4 Dd (.lst (ys++[y]))) ι ι2 st.length st2.length/\Sim K (bE H4 Dd (.lst (ys++[y]))) ι2 st2/\bE H4 Dd (.lst (ys++[y])) Dd=some (.lst (ys++[y]))/\(∀n,n<st2.length->ι2 n≠Dd)/\VRels K (bE H4 Dd (.lst (ys++[y]))) ι2 st2.length acc (ys++[y])/\acc.length<=i+1/\
         b_ K H0 ι0 st0 (ba (d_ f s m (i+1) acc) alloc st2) Q
       |none=>∃ι2 st2 acc,Ext H H4 ι ι2 st.length st2.length/\Sim K H4 ι2 st2/\H4 Dd=some (.lst ys)/\(∀n,n<st2.length->ι2 n≠Dd)/\VRels K H4 ι2 st2.length acc ys/\acc.length<=i+1/\
         b_ K H0 ι0 st0 (ba (d_ f s m (i+1) acc) alloc st2) Q) E2 SY rv e3 λH4 ι4 w E4 S4 r4=>?_
      obtain⟨hDd4,ap4⟩:=E4.fr Dd _ hDd ap;cases o with
      |none=>
       cases w with
       |some _=>exact r4.elim
       |none=>
        have e9':d_ f s m (i+1) acc st3=.ok zs st9:=e9;refine⟨ι4,st3,acc,E2.trans E4,S4,hDd4,ap4,ra.ext E4,by omega,?_⟩
        unfold ba;rw[e9'];exact P9
      |some yd=>
       cases w with
       |none=>exact r4.elim
       |some yv=>
        have e9':d_ f s m (i+1) (acc++[yd]) st3=.ok zs st9:=e9;have lra:=ra.length;refine⟨hDd4,by omega,ι4,st3,acc++[yd],?_⟩
        have E5:Ext0 H4 (bE H4 Dd (.lst (ys++[yv]))) ι4 ι4 st3.length st3.length:=⟨ah _,λ_ _=>rfl,λb xs e=>by rw[aE (cM e hDd4 (by intro z;cases z))];exact e,λb ob u e=>by rw[aE (cM e hDd4 (by intro z;cases z))];exact e⟩
        refine⟨?_,⟨S4.inj,λn ob e=>?_⟩,bi,ap4,VRels.ext0 E5 ((ra.ext E4).append (.cons r4 .nil)),by simp;omega,?_⟩
        ·have E6:=E2.trans E4;refine⟨⟨E6.le,E6.ad,λb xs e=>E5.tp b xs (E6.tp b xs e),λb ob u e=>E5.fz b ob u (E6.fz b ob u e)⟩,λb ob e k=>?_⟩;obtain⟨g1,g2⟩:=E6.fr b ob e k;exact⟨by rw[aE (aG e hD)];exact g1,g2⟩
        ·have hn:n<st3.length:=(au e).1;have old:=S4.ob n ob e;exact old.move E5 (aE (ap4 n hn))
        ·unfold ba;rw[e9'];exact P9
theorem AA{K:av}{s:Src}{H0:Hp}(F:cr K J s H0 ι0 m0):j4 K J s H0 ι0 m0:=λH ι st i E S=>by obtain⟨h1,h2⟩:=F H ι st i E S;refine⟨h1,λx e=>?_⟩;obtain⟨h3,h4⟩:=h2 x e;refine⟨h3,λv H' y=>?_⟩;obtain⟨rfl,r⟩:=h4 v H' y;exact⟨Ext.refl _ _ _,S,r⟩
theorem fV{K:av}{tc:TT}{te:TE}{f:Loc->D->M (Option D)}(ok:EltOk K tc te f){s:Src}{st st0:aP}{H0:Hp}{loc:Loc}
  (F:cr K J s H ι st.length)(E0:Ext H0 H ι0 ι st0.length st.length)(S:Sim K H ι st)(L:LRel K H ι st.length loc σ)(P:b_ K H0 ι0 st0 (ce (f loc) s st) Q):∀Dd,H Dd=none->∃W:Nat->Nat->List V->Hp->Prop,(∃m,W 0 m [] (bE H Dd (.lst [])))/\∀i m ys H2,W i m ys H2->
   (J.stop i H2/\Q (.ref Dd) H2)∨(J.go i H2/\∃N:List V->Hp->Prop,(∀ys' H',N ys' H'->∃m',m'<m/\W (i+1) m' ys' H')/\
    ∀x H',J.yld i H2 x H'->tc (some x::σ) H' λb H3=>if b=true then te (some x::σ) H3 λy H4=>H4 Dd=some (.lst ys)/\ys.length<sizeLine/\N (ys++[y]) (bE H4 Dd (.lst (ys++[y]))) else N ys H3):=
 nF (tt:=λv H' K=>tc (some v::σ) H' λb H3=>if b=true then te (some v::σ) H3 λy H4=>K (some y) H4 else K none H3) ⟨λE S r ee k=>ok.turn S (L.ext E) r ee k⟩ (AA F) E0 S P
section
variable{T:Tab}{g:dO}{X:Cx}{sc:Scope}{N:List Str}{pos p2:Pos}
theorem sD{m:Loc->M D}(h:PE X e (tE X.K m))(he:∀whole,isTrue e X.env whole=(do let v <-whole;standAt e.pos;holding [v] (truthy v))):PT X e (tT X.K m):=
 (xu h he).imp λσ H Q hp=>by
  obtain⟨ι,st,loc,S,L,P⟩:=hp;obtain⟨b,st1,e1,k⟩:=P.inv;exact bn S L e1 λH1 ι1 v E1 S1 r1=>by cases r1;exact⟨b,rfl,k H1 ι1 E1 S1⟩
theorem gY{d:D}(h:PE X e (tC v))(r:∀H ι m,VRel X.K H ι m d v):PE X e (tE X.K (run g (.c d))):=
 h.imp λσ H Q hp=>by obtain⟨ι,st,loc,S,L,P⟩:=hp;rw[run] at P;exact P.same S (r H ι _)
theorem t5(C:Ctx T g X sc N)(hi:di N x=some i)(hv:uu sc x):PE X (.Name x pos) (tE X.K (run g (.v i))):=by
 have hN:X.N[i]? =some x:=by rw[C.n];exact b6 hi
 obtain⟨h1,h2⟩:=C.nm x (ak (b6 hi));refine(oB hN (by rw[C.sc];exact hv) h1 h2).imp λσ H Q hp=>?_
 obtain⟨ι,st,loc,S,L,P⟩:=hp;rw[run] at P;unfold dh at P;cases e:loc[i]? with
 |none=>rw[e] at P;exact P.elim
 |some o=>
  rw[e] at P;cases o with
  |none=>exact P.elim
  |some d=>obtain⟨v,hv,r⟩:=L.at_ i d e;exact⟨v,hv,P.same S r⟩
theorem wJ{xs:List Ex}{k:Nat}(ha:PA X es (tA X.K (runs g xs)))(hz:es.length<=1000)(hl:es.length=xs.length):PE X (.Tuple es k pos) (tE X.K (run g (.tup xs))):=
 (xE ha).imp λσ H Q hp=>by obtain⟨ι,st,loc,S,L,P⟩:=hp;rw[run] at P;obtain⟨ds,st1,e1,P⟩:=aT P;have sz:sizeLine=16777216:=sizeLine_eq;refine jm S L e1 λH1 ι1 vs E1 S1 r1=>⟨?_,(P.mono E1).tup S1 r1⟩;have:=runs_len e1;have l:=r1.length;omega
where
 runs_len:∀{xs:List Ex}{loc:Loc}{st st1:aP}{ds:List D},runs g xs loc st=.ok ds st1->ds.length=xs.length
 |[],loc,st,st1,ds,e=>by rw[runs] at e;cases e;rfl
 |x::xs,loc,st,st1,ds,e=>by
  rw[runs] at e;simp only[ba,ret] at e;split at e
  ·split at e
   ·rename_i e2;cases e;rw[List.length_cons,List.length_cons,runs_len e2]
   ·cases e
  ·cases e
theorem An{xs:List Ex}(ha:PA X es (tA X.K (runs g xs)))(hz:es.length<=1000)(hl:es.length=xs.length):PE X (.List es pos) (tE X.K (run g (.lst xs))):=
 (xJ ha).imp λσ H Q hp=>by obtain⟨ι,st,loc,S,L,P⟩:=hp;rw[run] at P;obtain⟨ds,st1,e1,P⟩:=aT P;have sz:sizeLine=16777216:=sizeLine_eq;refine jm S L e1 λH1 ι1 vs E1 S1 r1=>⟨?_,(P.mono E1).alloc S1 r1⟩;have:=wJ.runs_len e1;have l:=r1.length;omega
theorem yL(I:Inv X pins σ H s):sysModules<s.heap.objs.size:=Nat.lt_trans (by decide) (show mainGlobals<s.heap.objs.size from(I.mod.glob.keeps I.bk).lt)
theorem As:PE X (.Dict [] [] pos) (tE X.K (run g .emp)):=by intro pins s σ H Q I ⟨ι,st,loc,S,L,P⟩;rw[run] at P;refine wpAny_Dict_empty ⟨.ref s.heap.objs.size,_,I.laid (a:=s.heap.objs.size) (o:= .dK []) (t':=s.toks) (λ_ _ q=>ae _ q) (ah _) ?_,rfl,P.allocD S _ (I.hok.fresh (ah _))⟩;exact⟨Nat.zero_le _,beq_eq_false_iff_ne.mpr (Ne.symm (ao (yL I))),[],.nil,Heap.DictOf.new s.heap⟩
theorem pw{a b:Ex}{f:D->D->M D}(h:tE X.K (λloc=>ba (run g a loc) λx=>ba (run g b loc) λy=>f x y) σ H Q):wV (rD X.K f) (tE X.K (run g a)) (tE X.K (run g b)) σ H Q:=by obtain⟨ι,st,loc,S,L,P⟩:=h;obtain⟨x,st1,e1,P⟩:=aT P;obtain⟨y,st2,e2,P⟩:=aT P;exact bn S L e1 λH1 ι1 vx E1 S1 r1=>bn S1 (L.ext E1) e2 λH2 ι2 vy E2 S2 r2=>⟨ι2,st2,x,y,S2,r1.ext E2,r2,P.mono (E1.trans E2)⟩
theorem Av{a' b':Ex}{op:Operator}{o:Bo}(ho:AC op=some o)(ha:PE X a (tE X.K (run g a')))(hb:PE X b (tE X.K (run g b'))):PE X (.BinOp a op b pos) (tE X.K (run g (.bin o a' b'))):=by
 have e:op=o.op:=by cases op<;>cases ho<;>rfl
 subst e;refine(zN (xU o) ha hb).imp λσ H Q h=>pw ?_;obtain⟨ι,st,loc,S,L,P⟩:=h;rw[run] at P;exact⟨ι,st,loc,S,L,P⟩
theorem Al{a':Ex}(ha:PE X a (tE X.K (run g a'))):PE X (.UnaryOp .Not a pos) (tE X.K (run g (.not a'))):=
 (xH ha).imp λσ H Q hp=>by
  obtain⟨ι,st,loc,S,L,P⟩:=hp;rw[run] at P;obtain⟨x,st1,e1,P⟩:=aT P;obtain⟨i,st2,e2,P⟩:=aT P;obtain⟨e3,rfl⟩:=bX e2;have:=cb e3;subst this;exact bn S L e1 λH1 ι1 v E1 S1 r1=>by cases r1;exact⟨i,rfl,(P.mono E1).same S1 (.bl _)⟩
theorem zf{a':Ex}(ha:PT X a (tT X.K (run g a'))):PT X (.UnaryOp .Not a pos) (tT X.K (run g (.not a'))):=
 (xw ha).imp λσ H Q hp=>by obtain⟨ι,st,loc,S,L,P⟩:=hp;rw[run] at P;obtain⟨x,st1,e1,P⟩:=eh P;obtain⟨i,st2,e2,P⟩:=eh P;obtain⟨e3,rfl⟩:=bX e2;have:=cb e3;subst this;exact km S L e1 λH1 ι1 E1 S1=>P H1 ι1 E1 S1
theorem Aw{a' b':Ex}(ha:PE X a (tE X.K (run g a')))(hb:PE X (.BoolOp .And (b::r) pos) (tE X.K (run g b'))):PE X (.BoolOp .And (a::b::r) pos) (tE X.K (run g (.and a' b'))):=
 (xM ha hb).imp λσ H Q hp=>by
  obtain⟨ι,st,loc,S,L,P⟩:=hp;rw[run] at P;obtain⟨x,st1,e1,P⟩:=aT P;obtain⟨i,st2,e2,P⟩:=aT P;obtain⟨e3,rfl⟩:=bX e2;have:=cb e3;subst this;refine bn S L e1 λH1 ι1 v E1 S1 r1=>?_;cases r1;refine⟨i,rfl,?_⟩;cases i with
  |true=>rw[if_pos rfl];exact⟨ι1,st2,loc,S1,L.ext E1,P.mono E1⟩
  |false=>rw[if_neg aF];exact(P.mono E1).same S1 (.bl false)
theorem Bw{a' b':Ex}(ha:PE X a (tE X.K (run g a')))(hb:PE X (.BoolOp .Or (b::r) pos) (tE X.K (run g b'))):PE X (.BoolOp .Or (a::b::r) pos) (tE X.K (run g (.or a' b'))):=
 (zM ha hb).imp λσ H Q hp=>by
  obtain⟨ι,st,loc,S,L,P⟩:=hp;rw[run] at P;obtain⟨x,st1,e1,P⟩:=aT P;obtain⟨i,st2,e2,P⟩:=aT P;obtain⟨e3,rfl⟩:=bX e2;have:=cb e3;subst this;refine bn S L e1 λH1 ι1 v E1 S1 r1=>?_;cases r1;refine⟨i,rfl,?_⟩;cases i with
  |false=>rw[if_neg aF];exact⟨ι1,st2,loc,S1,L.ext E1,P.mono E1⟩
  |true=>rw[if_pos rfl];exact(P.mono E1).same S1 (.bl true)
theorem wu{op:BoolOp}{t:TT}(h:PT X (.BoolOp op es pos) t):PW X (.BoolOp op es pos) t:=λwh pins s σ H Q I q=>by have:=h pins s σ H Q I q;exact this
theorem zh{a' b':Ex}(ha:PT X a (tT X.K (run g a')))(hb:PT X (.BoolOp .And (b::r) pos) (tT X.K (run g b'))):PT X (.BoolOp .And (a::b::r) pos) (tT X.K (run g (.and a' b'))):=
 (xt ha (wu hb)).pt.imp λσ H Q hp=>by
  obtain⟨ι,st,loc,S,L,P⟩:=hp;rw[run] at P;obtain⟨x,st1,e1,P⟩:=eh P;obtain⟨i,st2,e2,P⟩:=eh P;obtain⟨e3,rfl⟩:=bX e2;have:=cb e3;subst this;refine km S L e1 λH1 ι1 E1 S1=>?_;cases i with
  |true=>rw[if_pos rfl];exact⟨ι1,st2,loc,S1,L.ext E1,P.mono E1⟩
  |false=>rw[if_neg aF];exact P H1 ι1 E1 S1
theorem AV{a' b':Ex}(ha:PT X a (tT X.K (run g a')))(hb:PT X (.BoolOp .Or (b::r) pos) (tT X.K (run g b'))):PT X (.BoolOp .Or (a::b::r) pos) (tT X.K (run g (.or a' b'))):=
 (zK ha (wu hb)).pt.imp λσ H Q hp=>by
  obtain⟨ι,st,loc,S,L,P⟩:=hp;rw[run] at P;obtain⟨x,st1,e1,P⟩:=eh P;obtain⟨i,st2,e2,P⟩:=eh P;obtain⟨e3,rfl⟩:=bX e2;have:=cb e3;subst this;refine km S L e1 λH1 ι1 E1 S1=>?_;cases i with
  |false=>rw[if_neg aF];exact⟨ι1,st2,loc,S1,L.ext E1,P.mono E1⟩
  |true=>rw[if_pos rfl];exact P H1 ι1 E1 S1
theorem ze{op:BoolOp}{t:TT}(ha:PT X a t):PT X (.BoolOp op [a] pos) t:=by
 cases op with
 |And=>exact(vd ha).pt
 |Or=>exact(xr ha).pt
theorem Au(hu:X.A.units+100<cLine){a' b':Ex}{op:CmpOp}(hm:behindInMarks op b=false)(ha:PE X a (tE X.K (run g a')))(hb:PE X b (tE X.K (run g b'))):PE X (.Compare a [op] [b] pos) (tE X.K (run g (.cmp op a' b'))):=
 (vm (il hu op) ha hb hm).imp λσ H Q hp=>by obtain⟨ι,st,loc,S,L,P⟩:=hp;rw[run] at P;exact pw ⟨ι,st,loc,S,L,P⟩
theorem k8{m:Loc->M D}{t:TE}{Q:Bool->Hp->Prop}(k:∀Q',tE X.K m σ H Q'->t σ H Q')(h:tT X.K m σ H Q):o9 t σ H Q:=by
 refine k _ ?_;obtain⟨ι,st,loc,S,L,P⟩:=h;obtain⟨b,st1,e,q⟩:=P.inv;exact bn S L e λH1 ι1 v E1 S1 r1=>by cases r1;exact⟨b,rfl,q H1 ι1 E1 S1⟩
theorem zg(hu:X.A.units+100<cLine){a' b':Ex}{op:CmpOp}(hm:behindInMarks op b=false)(ha:PE X a (tE X.K (run g a')))(hb:PE X b (tE X.K (run g b'))):PT X (.Compare a [op] [b] pos) (tT X.K (run g (.cmp op a' b'))):=
 (pD (il hu op) ha hb hm).imp λσ H Q h=>k8 (λQ' hp=>by obtain⟨ι,st,loc,S,L,P⟩:=hp;rw[run] at P;exact pw ⟨ι,st,loc,S,L,P⟩) h
theorem mJ{a b c:Ex}{op:CmpOp}(h:tE X.K (run g (.chain op op' a b c)) σ H Q):nY (rD X.K (bZ op)) (rD X.K (bZ op')) (tE X.K (run g a)) (tE X.K (run g b)) (tE X.K (run g c)) σ H Q:=by
 obtain⟨ι,st,loc,S,L,P⟩:=h;rw[run] at P;obtain⟨x,st1,e1,P⟩:=aT P;obtain⟨y,st2,e2,P⟩:=aT P;obtain⟨z,st3,e3,P⟩:=aT P;obtain⟨k,st4,e4,P⟩:=aT P;obtain⟨e5,rfl⟩:=bX e4;have:=cb e5;subst this;refine bn S L e1 λH1 ι1 vx E1 S1 r1=>bn S1 (L.ext E1) e2 λH2 ι2 vy E2 S2 r2=>⟨ι2,st2,x,y,S2,r1.ext E2,r2,?_⟩;rw[e3];intro H3 ι3 vz E3 S3 r3;cases r3;refine⟨k,rfl,?_⟩;have E:=(E1.trans E2).trans E3;cases k with
 |true=>rw[if_pos rfl];obtain⟨w,st5,e5,P⟩:=aT (show b_ X.K H ι st (ba (run g c loc) (λw=>bZ op' y w) st4) Q from P);exact bn S3 (L.ext E) e5 λH5 ι5 vw E5 S5 r5=>⟨ι5,st5,y,w,S5,(r2.ext E3).ext E5,r5,P.mono (E.trans E5)⟩
 |false=>rw[if_neg aF];exact(P.mono E).same S3 (.bl false)
theorem v4(hu:X.A.units+100<cLine){a' b' c':Ex}{op:CmpOp}(hm:behindInMarks op' c=false)(ha:PE X a (tE X.K (run g a')))(hb:PE X b (tE X.K (run g b')))(hc:PE X c (tE X.K (run g c'))):PE X (.Compare a [op,op'] [b,c] pos) (tE X.K (run g (.chain op op' a' b' c'))):=
 (sQ (il hu op) (il hu op') ha hb hc hm).imp λσ H Q h=>mJ h
theorem uS(hu:X.A.units+100<cLine){a' b' c':Ex}{op:CmpOp}(hm:behindInMarks op' c=false)(ha:PE X a (tE X.K (run g a')))(hb:PE X b (tE X.K (run g b')))(hc:PE X c (tE X.K (run g c'))):PT X (.Compare a [op,op'] [b,c] pos) (tT X.K (run g (.chain op op' a' b' c'))):=
 (sE (il hu op) (il hu op') ha hb hc hm).imp λσ H Q h=>k8 (λQ' h'=>mJ h') h
theorem Bx{a' b':Ex}(hu:X.A.units+100<cLine)(hs:gJ b=true)(ha:PE X a (tE X.K (run g a')))(hb:PE X b (tE X.K (run g b'))):PE X (.Subscript a b pos) (tE X.K (run g (.ix a' b'))):=
 (wv (Bn hu) ha hb (λo i=>by cases b<;>first|rfl|cases hs)).imp λσ H Q hp=>by obtain⟨ι,st,loc,S,L,P⟩:=hp;rw[run] at P;exact pw ⟨ι,st,loc,S,L,P⟩
theorem yx{lo hi:Option Expr}{a' l' h':Ex}{hl hh:Bool}{tl th:TO}(ha:PE X a (tE X.K (run g a')))(hlo:PO X lo tl)(hhi:PO X hi th)
  (kl:∀{H:Hp}{ι:Nat->Addr}{st st1:aP}{loc:Loc}{σ:L2.St}{o:Option Int}{Q:Option Int->Hp->Prop},Sim X.K H ι st->LRel X.K H ι st.length loc σ->(if hl=true then ba (run g l' loc) λz=>ba (dh (j_ z)) λi=>ret (some i) else ret none) st=R.ok o st1->
   (∀H1 ι1,Ext H H1 ι ι1 st.length st1.length->Sim X.K H1 ι1 st1->Q o H1)->tl σ H Q)
  (kh:∀{H:Hp}{ι:Nat->Addr}{st st1:aP}{loc:Loc}{σ:L2.St}{o:Option Int}{Q:Option Int->Hp->Prop},Sim X.K H ι st->LRel X.K H ι st.length loc σ->(if hh=true then ba (run g h' loc) λz=>ba (dh (j_ z)) λi=>ret (some i) else ret none) st=R.ok o st1->
   (∀H1 ι1,Ext H H1 ι ι1 st.length st1.length->Sim X.K H1 ι1 st1->Q o H1)->th σ H Q):PE X (.Subscript a (.Slice lo hi none p2) pos) (tE X.K (run g (.sl a' l' h' hl hh))):=
 (sM A9 ha hlo hhi).imp λσ H Q hp=>by obtain⟨ι,st,loc,S,L,P⟩:=hp;rw[run] at P;obtain⟨x,st1,e1,P⟩:=aT P;obtain⟨ol,st2,e2,P⟩:=aT P;obtain⟨oh,st3,e3,P⟩:=aT P;refine bn S L e1 λH1 ι1 vx E1 S1 r1=>kl S1 (L.ext E1) e2 λH2 ι2 E2 S2=>kh S2 ((L.ext E1).ext E2) e3 λH3 ι3 E3 S3=>⟨ι3,st3,x,S3,(r1.ext E2).ext E3,P.mono ((E1.trans E2).trans E3)⟩
theorem pJ{l':Ex}{st st1:aP}{loc:Loc}{o:Option Int}{Q:Option Int->Hp->Prop}(S:Sim X.K H ι st)(L:LRel X.K H ι st.length loc σ)(e:(if false=true then ba (run g l' loc) λz=>ba (dh (j_ z)) λi=>ret (some i) else ret none) st=R.ok o st1)
  (k:∀H1 ι1,Ext H H1 ι ι1 st.length st1.length->Sim X.K H1 ι1 st1->Q o H1):o_ σ H Q:=by
 rw[if_neg aF] at e;cases e;exact k H ι (Ext.refl _ _ _) S
theorem gK{l':Ex}{st st1:aP}{loc:Loc}{o:Option Int}{Q:Option Int->Hp->Prop}(S:Sim X.K H ι st)(L:LRel X.K H ι st.length loc σ)(e:(if true=true then ba (run g l' loc) λz=>ba (dh (j_ z)) λi=>ret (some i) else ret none) st=R.ok o st1)
  (k:∀H1 ι1,Ext H H1 ι ι1 st.length st1.length->Sim X.K H1 ι1 st1->Q o H1):wo (tE X.K (run g l')) σ H Q:=by
 rw[if_pos rfl] at e;simp only[ba,ret] at e;cases e1:run g l' loc st with
 |bad=>rw[e1] at e;cases e
 |ok z st2=>
  rw[e1] at e;simp only[dh] at e;cases e2:j_ z with
  |none=>rw[e2] at e;cases e
  |some i=>
   rw[e2] at e;cases e;have:=tJ e2;subst this;exact bn S L e1 λH1 ι1 v E1 S1 r1=>by cases r1;exact⟨i,rfl,k H1 ι1 E1 S1⟩
theorem By{as:List Expr}{xs:List Ex}(C:Ctx T g X sc N)(hg:bO sc f=true)(hi:di T.fns f=some i)(ha:PA X (a::as) (tA X.K (runs g xs)))(hl:(a::as).length=xs.length)
  (he:starEach (a::as) X.env=(false,eval a X.env)::starEach as X.env)(hpl:(backTo pos (starEach as X.env)).any (·.1)=false):PE X (.Call (.Name f p2) (a::as) [] pos) (tE X.K (run g (.fn i xs))):=by
 obtain⟨hd,ad,fd,ps,k,hm,kp,hb,hr,har,F⟩:=C.fns i f (b6 hi)
 have hgl:Gl X f:=by show X.env.scope.names.lookup f=some .globalImplicit;rw[C.sc];simpa[bO] using hg
 refine(vn F hr hgl hm kp hb .nil wx ha hd he hpl).imp λσ H Q hp=>?_;obtain⟨ι,st,loc,S,L,P⟩:=hp;rw[run] at P;obtain⟨ds,st1,e1,P⟩:=aT P;refine jm S L e1 λH1 ι1 vs E1 S1 r1=>?_;rw[List.append_nil];refine⟨?_,ι1,st1,ds,S1,r1,(f_.val P).mono E1⟩;by_cases hps:ds.length=ps.length
 ·rw[<-r1.length];exact hps
 ·have P2:=f_.val (E:=E0) P;rw[har ds st1 hps] at P2;exact P2.elim
theorem Bz{b:Bt}{as:List Expr}{xs:List Ex}(C:Ctx T g X sc N)(hcm:T.calm=true)(hg:bO sc f=true)(hb:yJ.lookup f=some b)(ha:PA X (a::as) (tA X.K (runs g xs)))
  (he:starEach (a::as) X.env=(false,eval a X.env)::starEach as X.env)(hpl:(backTo pos (starEach as X.env)).any (·.1)=false):PE X (.Call (.Name f p2) (a::as) [] pos) (tE X.K (run g (.bt b xs))):=by
 have hgl:Gl X f:=by show X.env.scope.names.lookup f=some .globalImplicit;rw[C.sc];simpa[bO] using hg
 have hbl:∀x:Str,x∈uq->X.mg x=none:=C.blt
 have key:PE X (.Call (.Name f p2) (a::as) [] pos) (A6 (rB X.K b) (tA X.K (runs g xs))):=by
  have hmem:=aK hb;have cc:eZ X b.val (rB X.K b):=yI (C.calm hcm) b;simp only[yJ,List.mem_cons,List.mem_nil_iff,Prod.mk.injEq,or_false] at hmem;rcases hmem with⟨rfl,rfl⟩|⟨rfl,rfl⟩|⟨rfl,rfl⟩|⟨rfl,rfl⟩|⟨rfl,rfl⟩|⟨rfl,rfl⟩|⟨rfl,rfl⟩
  ·exact jx cc hgl (hbl _ (by decide+kernel)) PySem.boot_len ha (by decide+kernel) (by decide+kernel) he hpl
  all_goals first
   |exact qE cc hgl (hbl _ (by decide+kernel)) (by decide+kernel) ha (by decide+kernel) (by decide+kernel) he hpl
   |exact jx cc hgl (hbl _ (by decide+kernel)) (by decide+kernel) ha (by decide+kernel) (by decide+kernel) he hpl
 refine key.imp λσ H Q hp=>?_;obtain⟨ι,st,loc,S,L,P⟩:=hp;rw[run] at P;obtain⟨ds,st1,e1,P⟩:=aT P;exact jm S L e1 λH1 ι1 vs E1 S1 r1=>⟨ι1,st1,ds,S1,r1,P.mono E1⟩
end
set_option maxHeartbeats 8000000
section
variable{T:Tab}{g:dO}{X:Cx}{sc:Scope}{N:List Str}{pos px:Pos}
theorem cW(C:Ctx T g X sc N)(h:cq sc scope N x=true):CompScope X x scope/\(x::fS scope X.N).Nodup/\(x==("__debug__":Str))=false/\(x==("__classdict__":Str))=false:=by
 unfold cq at h;simp only[Bool.and_eq_true,List.all_eq_true] at h;obtain⟨⟨⟨⟨⟨⟨h1,h2⟩,h3⟩,h4⟩,h5⟩,h6⟩,h7⟩:=h;have hx:(x::fS scope N).Nodup:=of_decide_eq_true h3;refine⟨⟨by simpa using h1,λy hy=>?_,λy hy hl=>?_,by simpa using h2,λy hy hf=>?_,λy hy hl=>?_⟩,by rw[C.n];exact hx,by simpa using h4,by simpa using h5⟩
 ·obtain⟨⟨a,b⟩,c⟩:=h6 y hy;simpa using a
 ·obtain⟨⟨a,b⟩,c⟩:=h6 y hy;rw[hl] at b;simpa using b
 ·obtain⟨⟨a,b⟩,c⟩:=h6 y hy;rw[hf] at c;have c':sc.names.lookup y.1=some .cell∨sc.names.lookup y.1=some .free:=by simpa using c
  show X.env.scope.names.lookup y.1=_∨X.env.scope.names.lookup y.1=_;rw[C.sc];exact c'
 ·rw[C.n] at hy;obtain⟨⟨a,b⟩,c⟩:=h7 y hy;rw[hl] at a;simpa using a
theorem wA{y:Str}(C:Ctx T g X sc N)(h:cq sc scope N x=true)(hy:y∈fS scope N):(y==("__debug__":Str))=false/\(y==("__classdict__":Str))=false:=by
 unfold cq at h;simp only[Bool.and_eq_true,List.all_eq_true] at h;obtain⟨z,hz,rfl⟩:=List.mem_map.mp hy;split
 ·obtain⟨⟨a,b⟩,c⟩:=h.2 z hz;exact⟨by simpa using b,by simpa using c⟩
 ·exact C.nm z hz
theorem fK(C:Ctx T g X sc N)(h:cq sc scope N x=true)(fp:List Addr)(s:Shared)(H:Hp):Ctx T g (bG X x scope fp s H) (cP sc scope) (x::fS scope N):=by
 obtain⟨h1,h2,h3,h4⟩:=cW C h;refine⟨?_,?_,by rw[<-C.n];exact h2,λy hy=>?_,C.calm,C.un,C.fns,C.csts,C.blt,C.icl,C.mks,C.isks⟩
 ·show relabel scope X.env=cP sc scope;rw[<-C.sc];rfl
 ·show x::fS scope X.N=x::fS scope N;rw[C.n]
 ·rcases List.mem_cons.mp hy with rfl|hy
  ·exact⟨h3,h4⟩
  ·exact wA C h hy
theorem kF{K:av}{e:Ex}:EltOk K uT (tE K (run g e)) (λloc x=>ba (run g e (some x::loc)) λy=>ret (some y)) where
 turn:=λ{H ι st st1 loc σ x v o Q} S L rv e1 k=>by
  unfold uT;refine Bp ?_;simp only[ba,ret] at e1;cases e2:run g e (some x::loc) st with
  |bad=>rw[e2] at e1;cases e1
  |ok y st2=>rw[e2] at e1;cases e1;exact bn S (L.cons rv) e2 λH1 ι1 w E1 S1 r1=>k H1 ι1 (some w) E1 S1 r1
theorem yw{K:av}{c e:Ex}:EltOk K (tT K (run g c)) (tE K (run g e)) (λloc x=>ba (run g c (some x::loc)) λz=>ba (dh (eg z)) λk=>if k then ba (run g e (some x::loc)) λy=>ret (some y) else ret none) where
 turn:=λ{H ι st st1 loc σ x v o Q} S L rv e1 k=>by
  simp only[ba] at e1;cases e2:run g c (some x::loc) st with
  |bad=>rw[e2] at e1;cases e1
  |ok z st2=>
   rw[e2] at e1;simp only[dh] at e1;cases e3:eg z with
   |none=>rw[e3] at e1;cases e1
   |some b=>
    rw[e3] at e1;have:=cb e3;subst this;refine km S (L.cons rv) e2 λH1 ι1 E1 S1=>?_;cases b with
    |true=>
     rw[if_pos rfl];simp only[if_true,ba,ret] at e1;cases e4:run g e (some x::loc) st2 with
     |bad=>rw[e4] at e1;cases e1
     |ok y st3=>rw[e4] at e1;cases e1;exact bn S1 ((L.cons rv).ext E1) e4 λH2 ι2 w E2 S2 r2=>k H2 ι2 (some w) (E1.trans E2) S2 r2
    |false=>rw[if_neg aF];simp only[Bool.false_eq_true,if_false,ret] at e1;cases e1;exact k H1 ι1 none E1 S1 True.intro
theorem lg{s':Ex}{k:Loc->Src->M D}{RR:It->Hp->Prop}(h:tE X.K (λloc=>ba (run g s' loc) λd=>ba (dh (cm false d)) λs=>k loc s) σ H Q)
  (hk:∀{J:It}{s:Src}{ι ι1:Nat->Addr}{st st1:aP}{loc:Loc}{H1:Hp},cr X.K J s H1 ι1 st1.length->Ext H H1 ι ι1 st.length st1.length->Sim X.K H1 ι1 st1->LRel X.K H1 ι1 st1.length loc σ->b_ X.K H ι st (k loc s st1) Q->RR J H1)
  (hbad:∀loc n st,(∀xs,st[n]?≠some (.lst xs))->k loc (.at n) st=.bad):Ac X.K (tE X.K (run g s')) σ H RR:=by
 obtain⟨ι,st,loc,S,L,P⟩:=h;obtain⟨d,st1,e1,P⟩:=aT P;obtain⟨s,st2,e2,P⟩:=aT P;obtain⟨e3,rfl⟩:=bX e2;refine bn S L e1 λH1 ι1 v E1 S1 r1=>?_;cases r1 with
 |tup h r=>cases e3;exact⟨_,rfl,.inr ⟨⟨_,h⟩,hk (cr.tup h r) E1 S1 (L.ext E1) P⟩⟩
 |fl h r=>cases e3;exact⟨_,rfl,.inl ⟨⟨_,h.sql⟩,hk (cr.fl h r) E1 S1 (L.ext E1) P⟩⟩
 | @ref n hn=>
  cases e3;cases q:st2[n]? with
  |none=>
   rw[hbad loc n st2 (λxs z=>by rw[q] at z;cases z)] at P
   exact P.elim
  |some o=>
   cases o with
   |lst xs=>obtain⟨vs,h1,_⟩:=S1.ob n _ q;exact⟨_,rfl,.inl ⟨⟨vs,fW.of h1⟩,hk (cr.ref hn) E1 S1 (L.ext E1) P⟩⟩
   |_=>
    rw[hbad loc n st2 (λxs z=>by rw[q] at z;cases z)] at P
    exact P.elim
 |_=>cases e3
theorem uU{s':Ex}{k:Loc->Src->M D}{RR:It->Hp->Prop}(h:tE X.K (λloc=>ba (run g s' loc) λd=>ba (dh (cm true d)) λs=>k loc s) σ H Q)
  (hk:∀{J:It}{s:Src}{ι ι1:Nat->Addr}{st st1:aP}{loc:Loc}{H1:Hp},cr X.K J s H1 ι1 st1.length->Ext H H1 ι ι1 st.length st1.length->Sim X.K H1 ι1 st1->LRel X.K H1 ι1 st1.length loc σ->b_ X.K H ι st (k loc s st1) Q->RR J H1):
  wG (wq (tE X.K (run g s')) wW) σ H RR:=by
 obtain⟨ι,st,loc,S,L,P⟩:=h;obtain⟨d,st1,e1,P⟩:=aT P;obtain⟨s,st2,e2,P⟩:=aT P;obtain⟨e3,rfl⟩:=bX e2;refine bn S L e1 λH1 ι1 v E1 S1 r1=>?_;cases r1 with
 |int j=>
  simp only[cm] at e3;split at e3
  ·rename_i hj;cases e3;exact⟨j,rfl,by omega,by omega,hk cr.rng E1 S1 (L.ext E1) P⟩
  ·cases e3
 |_=>cases e3
theorem pK{st:aP}(h:∀xs,st[n]?≠some (.lst xs)):im (.at n) i st=none:=by
 unfold im;show(match st[n]? with|some (.lst xs)=>some xs[i]?|_=>none)=none
 cases q:st[n]? with
 |none=>rfl
 |some o=>
  cases o with
  |lst xs=>exact absurd q (h xs)
  |_=>rfl
theorem jS{f:D->M (Option D)}(n:Nat)(st:aP)(h:∀xs,st[n]?≠some (.lst xs)):ce f (.at n) st=.bad:=by
 unfold ce;split
 ·simp only[ba,d_,pK h]
 ·rfl
noncomputable def eY(g:dO)(X:Cx)(x:Str)(px:Pos)(iter:Expr)(ifs:List Expr)(elt:Expr)(scope:Scope)(y:Ex):Prop:=
 ∃wi tc te,PI X (.Name x px) iter wi/\(∀fp s H,uI (bG X x scope fp s H) ifs tc)/\(∀fp s H,PE (bG X x scope fp s H) elt te)/\(∀v,foldedSetIterable iter X.env v=pure v)/\∀σ H Q,tE X.K (run g y) σ H Q->mD wi tc te σ H Q∨mD wi tc te σ H λv H1=>yM X (Q v) H1
theorem eY.pe{y:Ex}(C:Ctx T g X sc N)(hcm:T.calm=true)(hc:cq sc scope N x=true)(h:eY g X x px iter ifs elt scope y):PE X (.ListComp elt [⟨.Name x px,iter,ifs,0⟩] scope pos) (tE X.K (run g y)):=by
 obtain⟨wi,tc,te,a,b,c,d,e⟩:=h;obtain⟨h1,h2,_,_⟩:=cW C hc;have p:=pI (pos:=pos) (C.calm hcm) h1 h2 (by rw[C.n];exact C.nd) a b c d
 exact(p.or p.thawD).imp e
theorem eY.ps{z:Str}{y:Ex}{py:Pos}(C:Ctx T g X sc N)(hcm:T.calm=true)(hc:cq sc scope N x=true)(h:eY g X x px iter ifs elt scope y)(hz:X.N[i]? =some z)(hl:L2.Loc X.env.scope z)(hf:X.fn z=true∨X.env.scope.names.lookup z=some .local):
  PS X (.Assign [.Name z py] (.ListComp elt [⟨.Name x px,iter,ifs,0⟩] scope pos) spos) (nZ (tE X.K (run g y)) (d7 i)):=by
 obtain⟨wi,tc,te,a,b,c,d,e⟩:=h;obtain⟨h1,h2,_,_⟩:=cW C hc;have p:=ou (py:=py) (pos:=pos) (spos:=spos) (C.calm hcm) h1 h2 (by rw[C.n];exact C.nd) a b c d hz hl hf
 exact λpins s σ H D I q=>(p.or p.thawD) pins s σ H D I (e _ _ _ q)
variable{x:Str}{elt it:Expr}{scope:Scope}{s' c' e':Ex}
theorem yD(C:Ctx T g X sc N)(hc:cq sc scope N x=true)(hs:PE X it (tE X.K (run g s')))(he:∀fp s H,PE (bG X x scope fp s H) elt (tE X.K (run g e')))(hf:∀v,foldedSetIterable it X.env v=pure v):
  eY g X x px it [] elt scope (.comp false s' e'):=by
 refine⟨_,_,_,jv hs,λ_ _ _=>lB,he,hf,λσ H Q hp=>?_⟩;obtain⟨ι,st,loc,S,L,P⟩:=hp;rw[run] at P;exact .inl (lg (k:=λloc s=>ce (λx=>ba (run g e' (some x::loc)) λy=>ret (some y)) s) ⟨ι,st,loc,S,L,P⟩ (λ{J s ι ι1 st st1 loc H1} F E S1 L1 P1=>fV (loc:=loc) (f:=λloc x=>ba (run g e' (some x::loc)) λy=>ret (some y)) kF F E S1 L1 P1) (λ_=>jS))
theorem t6(C:Ctx T g X sc N)(hc:cq sc scope N x=true)(hs:PE X it (tE X.K (run g s')))(ht:∀fp s H,PT (bG X x scope fp s H) c (tT X.K (run g c')))(he:∀fp s H,PE (bG X x scope fp s H) elt (tE X.K (run g e')))(hf:∀v,foldedSetIterable it X.env v=pure v):
  eY g X x px it [c] elt scope (.compIf s' c' e'):=by
 refine⟨_,_,_,jv hs,λfp s H=>pC (ht fp s H),he,hf,λσ H Q hp=>?_⟩;obtain⟨ι,st,loc,S,L,P⟩:=hp;rw[run] at P
 exact .inl (lg (k:=λloc s=>ce (λx=>ba (run g c' (some x::loc)) λz=>ba (dh (eg z)) λk=>if k then ba (run g e' (some x::loc)) λy=>ret (some y) else ret none) s) ⟨ι,st,loc,S,L,P⟩
  (λ{J s ι ι1 st st1 loc H1} F E S1 L1 P1=>fV (loc:=loc) (f:=λloc x=>ba (run g c' (some x::loc)) λz=>ba (dh (eg z)) λk=>if k then ba (run g e' (some x::loc)) λy=>ret (some y) else ret none) yw F E S1 L1 P1) (λ_=>jS))
variable{a:Expr}{p3 p4:Pos}
theorem v3(C:Ctx T g X sc N)(hc:cq sc scope N x=true)(hg:bO sc "range"=true)(hst:starEach [a] X.env=[(false,eval a X.env)])(hs:PE X a (tE X.K (run g s')))(he:∀fp s H,PE (bG X x scope fp s H) elt (tE X.K (run g e'))):
  eY g X x px (.Call (.Name "range" p3) [a] [] p4) [] elt scope (.comp true s' e'):=by
 have hgl:Gl X "range":=by show X.env.scope.names.lookup _=some .globalImplicit;rw[C.sc];simpa[bO] using hg
 refine⟨_,_,_,kr hgl (C.blt _ (by decide+kernel)) (cJ hs fo hst) hst,λ_ _ _=>lB,he,λ_=>rfl,λσ H Q hp=>?_⟩
 obtain⟨ι,st,loc,S,L,P⟩:=hp;rw[run] at P;exact .inl (uU (k:=λloc s=>ce (λx=>ba (run g e' (some x::loc)) λy=>ret (some y)) s) ⟨ι,st,loc,S,L,P⟩ (λ{J s ι ι1 st st1 loc H1} F E S1 L1 P1=>fV (loc:=loc) (f:=λloc x=>ba (run g e' (some x::loc)) λy=>ret (some y)) kF F E S1 L1 P1))
end
theorem g_{T:Tab}{x:Ex}(h:cE T n sc N b=some x)(op:CmpOp):behindInMarks op b=false:=by
 cases n with
 |zero=>cases h
 |succ n=>cases b<;>first|rfl|cases h
theorem hU{T:Tab}{x:Ex}(h:cE T n sc N b=some x)(env:Env)(v:Value):foldedSetIterable b env v=pure v:=by
 cases n with
 |zero=>cases h
 |succ n=>cases b<;>first|rfl|cases h
theorem cO{T:Tab}{x:Ex}(h:cE T n sc N b=some x)(es:List Expr)(env:Env):starEach (b::es) env=(false,eval b env)::starEach es env:=by
 cases n with
 |zero=>cases h
 |succ n=>cases b<;>first|rfl|cases h
noncomputable def cD:D->Bool
 | .tup _=>false
 |_=>true
theorem VRel.seqB{K:av}{st:aP}{d:D}{xs:List D}(S:Sim K H ι st)(r:VRel K H ι st.length d v)(e:bp st d=some xs):∃a vs,v=.ref a/\j5 K (cD d) H a vs/\VRels K H ι st.length xs vs:=by
 cases r with
 |tup h r=>cases e;exact⟨_,_,rfl,h,r⟩
 |fl h r=>cases e;exact⟨_,_,rfl,h.sql,r⟩
 | @ref n hn=>
  simp only[bp] at e;cases q:st[n]? with
  |none=>rw[q] at e;cases e
  |some o=>
   rw[q] at e;cases o with
   |lst zs=>cases e;obtain⟨vs,h1,h2⟩:=S.ob n _ q;exact⟨_,vs,rfl,fW.of h1,h2⟩
   |_=>cases e
 |_=>cases e
theorem j4.zp{K:av}{a b:Addr}{x y:D}{H0:Hp}(r1:VRel K H0 ι0 m0 x (.ref a))(r2:VRel K H0 ι0 m0 y (.ref b)):j4 K (BE K (cD x) (cD y) a b) (.zp x y) H0 ι0 m0:=λH ι st i E S=>by
 simp only[im];cases q1:bp st x with
 |none=>exact⟨λe=>(by cases e),λx e=>(by cases e)⟩
 |some xs=>
  cases q2:bp st y with
  |none=>exact⟨λe=>(by cases e),λx e=>(by cases e)⟩
  |some ys=>
   obtain⟨_,vs,z,h',r⟩:=(r1.ext E).seqB S q1;cases z;obtain⟨_,ws,z,g1,g2⟩:=(r2.ext E).seqB S q2;cases z;have l:=r.length;have l2:=g2.length;dsimp only;refine⟨λe=>?_,λx e=>?_⟩
   ·have e:=ai e;refine⟨vs,ws,h',g1,?_⟩;cases e1:xs[i]? with
    |none=>exact .inl (by have:=List.getElem?_eq_none_iff.mp e1;omega)
    |some x=>
     cases e2:ys[i]? with
     |none=>exact .inr (by have:=List.getElem?_eq_none_iff.mp e2;omega)
     |some y=>rw[e1,e2] at e;cases e
   ·have e:=ai e;cases e1:xs[i]? with
    |none=>rw[e1] at e;cases e
    |some x1=>
     cases e2:ys[i]? with
     |none=>rw[e1,e2] at e;cases e
     |some y1=>rw[e1,e2] at e;have e:D.tup [x1,y1]=x:=ai e;subst e;obtain⟨v,hv,rv⟩:=r.get e1;obtain⟨u,hu,ru⟩:=g2.get e2;refine⟨⟨vs,ws,v,u,h',g1,hv,hu⟩,λw H' yy=>?_⟩;obtain⟨p,z1,z2,rfl,hp,rfl,hz1,hz2⟩:=yy;have k1:=hz1 vs h';rw[hv] at k1;cases k1;have k2:=hz2 ws g1;rw[hu] at k2;cases k2;obtain⟨E1,S1⟩:=S.tup (xs:=[v,u]) hp;exact⟨E1,S1,.tup (.inl (.inl bi)) (.cons (rv.ext E1) (.cons (ru.ext E1) .nil))⟩
theorem cr.toG{K:av}{H0:Hp}{s:Src}(F:cr K J s H0 ι0 m0):j4 K J s H0 ι0 m0:=λH ι st i E S=>
 ⟨(F H ι st i E S).1,λx e=>⟨((F H ι st i E S).2 x e).1,λv H' y=>by obtain⟨rfl,r⟩:=((F H ι st i E S).2 x e).2 v H' y;exact⟨Ext.refl _ _ _,S,r⟩⟩⟩
section
variable{T:Tab}{g:dO}{X:Cx}{sc scope:Scope}{N:List Str}{pos px py pt:Pos}{x y:Str}
theorem dL(h:dk sc scope N x y=true):cq sc scope N x=true/\scope.names.lookup y=some .local/\(x::y::fS scope N).Nodup/\(y==("__debug__":Str))=false/\(y==("__classdict__":Str))=false:=by
 unfold dk at h;simp only[Bool.and_eq_true] at h;obtain⟨⟨⟨⟨h1,h2⟩,h3⟩,h5⟩,h6⟩:=h;exact⟨h1,by simpa using h2,of_decide_eq_true h3,by simpa using h5,by simpa using h6⟩
theorem kJ(C:Ctx T g X sc N)(h:dk sc scope N x y=true)(fp:List Addr)(s:Shared)(H:Hp):Ctx T g (br X x y scope fp s H) (cP sc scope) (x::y::fS scope N):=by
 obtain⟨h1,h2,h3,h5,h6⟩:=dL h;have C1:=fK C h1 fp s H;refine⟨C1.sc,?_,?_,λz hz=>?_,C1.calm,C1.un,C1.fns,C1.csts,C1.blt,C1.icl,C1.mks,C1.isks⟩
 ·show x::y::fS scope X.N=x::y::fS scope N;rw[C.n]
 ·exact h3
 ·rcases List.mem_cons.mp hz with rfl|hz
  ·exact C1.nm _ List.mem_cons_self
  ·rcases List.mem_cons.mp hz with rfl|hz
   ·exact⟨h5,h6⟩
   ·exact wA C h1 hz
noncomputable def gt(g:dO)(X:Cx)(x y:Str)(px py:Pos)(k:Nat)(pt:Pos)(iter:Expr)(ifs:List Expr)(elt:Expr)(scope:Scope)(z:Ex):Prop:=
 ∃wi gg tc te,PI X (.Tuple [.Name x px,.Name y py] k pt) iter wi/\(∀fp s H,PG (br X x y scope fp s H) (.Tuple [.Name x px,.Name y py] k pt) gg)/\(∀fp s H,uI (br X x y scope fp s H) ifs tc)/\(∀fp s H,PE (br X x y scope fp s H) elt te)/\(∀v,foldedSetIterable iter X.env v=pure v)/\∀σ H Q,tE X.K (run g z) σ H Q->i6 wi gg tc te σ H Q
theorem gt.pe{k:Nat}{z:Ex}(C:Ctx T g X sc N)(hcm:T.calm=true)(hc:dk sc scope N x y=true)(h:gt g X x y px py k pt iter ifs elt scope z):PE X (.ListComp elt [⟨.Tuple [.Name x px,.Name y py] k pt,iter,ifs,0⟩] scope pos) (tE X.K (run g z)):=by obtain⟨wi,gg,tc,te,a,b,c,d,e,f⟩:=h;obtain⟨h1,h2,_,_⟩:=cW C (dL hc).1;exact(kt (C.calm hcm) h1 a b c d e).imp f
theorem gt.ps{k:Nat}{z:Ex}{nm:Str}{pn:Pos}(C:Ctx T g X sc N)(hcm:T.calm=true)(hc:dk sc scope N x y=true)(h:gt g X x y px py k pt iter ifs elt scope z)(hz:X.N[i]? =some nm)(hl:L2.Loc X.env.scope nm)(hf:X.fn nm=true∨X.env.scope.names.lookup nm=some .local):
  PS X (.Assign [.Name nm pn] (.ListComp elt [⟨.Tuple [.Name x px,.Name y py] k pt,iter,ifs,0⟩] scope pos) spos) (nZ (tE X.K (run g z)) (d7 i)):=by
 obtain⟨wi,gg,tc,te,a,b,c,d,e,f⟩:=h;obtain⟨h1,h2,_,_⟩:=cW C (dL hc).1;exact λpins s σ H D I q=>mL (C.calm hcm) h1 (by rw[C.n];exact C.nd) a b c d e hz hl hf pins s σ H D I (f _ _ _ q)
theorem rX{st st1:aP}{loc:Loc}{o:Option D}{Q:Option V->Hp->Prop}{e':Ex}(S:Sim X.K H ι st)(L:LRel X.K H ι st.length loc σ)(k:∀H1 ι1 w,Ext H H1 ι ι1 st.length st1.length->Sim X.K H1 ι1 st1->(match o,w with|some y,some z=>VRel X.K H1 ι1 st1.length y z|none,none=>True|_,_=>False)->Q w H1)(ee:ba (run g e' loc) (λy=>ret (some y)) st=.ok o st1):tE X.K (run g e') σ H λy H4=>Q (some y) H4:=by
 cases e5:run g e' loc st with
 |bad=>simp only[ba,e5] at ee;cases ee
 |ok w st5=>simp only[ba,ret,e5] at ee;cases ee;exact bn S L e5 λH5 ι5 w E5 S5 r5=>k H5 ι5 (some w) E5 S5 r5
theorem ui{k:Nat}(C:Ctx T g X sc N)(hcm:T.calm=true)(hc:dk sc scope N x y=true):∀fp s H,PG (br X x y scope fp s H) (.Tuple [.Name x px,.Name y py] k pt) (yn X.K 2 (kC (d7 0) (kC (d7 1) vT))):=by
 obtain⟨h1,h2,h3,h5,h6⟩:=dL hc;obtain⟨c1,c2,_,_⟩:=cW C h1;have lx:(relabel scope X.env).names.lookup x=some .local:=lookup_relabel_local c1.own;have ly:(relabel scope X.env).names.lookup y=some .local:=lookup_relabel_local h2
 have nd:(x::y::fS scope X.N).Nodup:=by have:=(kJ C hc [] X.s₀ (λ_=>none)).nd;rw[C.n];exact this
 exact λfp s H=>xC (X:=br X x y scope fp s H) (C.calm hcm) (jw (fR (i:=0) nd rfl (.inl lx) (.inr lx)) (jw (fR (i:=1) nd rfl (.inl ly) (.inr ly)) pG))
theorem qX{H1:Hp}{st1:aP}{loc:Loc}{e':Ex}(L:LRel X.K H1 ι1 st1.length loc σ):
  EltG X.K (λv H' K=>∀o1 o2:Option V,yn X.K 2 (kC (d7 0) (kC (d7 1) vT)) v (o1::o2::σ) H' λσ2 H3=>(∃p1 p2,σ2=p1::p2::σ)/\uT σ2 H3 λb H5=>if b=true then tE X.K (run g e') σ2 H5 λy H4=>K (some y) H4 else K none H5) (pairF λa b=>run g e' (some a::some b::loc)) H1 ι1 st1.length:=⟨by
 intro H2 ι2 st3 st4 z v o K E2 S2 rv ee k o1 o2;unfold pairF at ee;split at ee
 ·cases rv with
  |tup hq rr=>
   cases rr with
   |cons ra rr=>
    cases rr with
    |cons rb rr=>cases rr;exact⟨_,_,rfl,hq,rfl,_,_,rfl,_,_,rfl,rfl,⟨_,_,rfl⟩,Eq.mpr (if_pos (e:=K none H2) (rfl:true=true)) (rX S2 (((L.ext E2).cons rb).cons ra) k ee)⟩
 ·cases ee⟩
theorem vZ{k:Nat}{s' e':Ex}(C:Ctx T g X sc N)(hcm:T.calm=true)(hc:dk sc scope N x y=true)(hs:PE X it (tE X.K (run g s')))(hf:∀v,foldedSetIterable it X.env v=pure v)(he:∀fp s H,PE (br X x y scope fp s H) elt (tE X.K (run g e'))):
  gt g X x y px py k pt it [] elt scope (.compU s' e'):=by
 refine⟨_,_,_,_,jv hs,ui C hcm hc,λfp s H=>lB,he,hf,λσ H Q hp=>?_⟩;obtain⟨ι,st,loc,S,L,P⟩:=hp;rw[run] at P;exact lg (k:=λloc s=>ce (pairF λa b=>run g e' (some a::some b::loc)) s) (Q:=Q) ⟨ι,st,loc,S,L,P⟩ (λ{J s ι ι1 st st1 loc H1} F E S1 L1 P1=>nF (qX L1) (cr.toG F) E S1 P1) (λ_=>jS)
theorem yZ{x y:D}{st:aP}(i:Nat)(h:bp st x=none∨bp st y=none):im (.zp x y) i st=none:=by
 simp only[im];rcases h with h|h
 ·rw[h]
 ·rw[h];cases bp st x<;>rfl
end
theorem DRels.zip{K:av}:∀{ks:List Str}{ds:List D}{vs:List V},VRels K H ι m ds vs->DRels K H ι m ((ks.zip ds).map λp=>(Sum.inr p.1,p.2)) ((ks.zip vs).map λq=>((Sum.inr q.1:Key),q.2))
 |[],_,_,_=>.nil
 |_::_,_,_,.nil=>.nil
 |_::_,_,_,.cons h t=>.cons h (DRels.zip t)
section
variable{T:Tab}{g:dO}{X:Cx}{sc:Scope}{N:List Str}{pos:Pos}
theorem kB(C:Ctx T g X sc N)(h:bO sc x=true):Gl X x:=by show X.env.scope.names.lookup _=some .globalImplicit;rw[C.sc];simpa[bO] using h
theorem eR(hk:eB o=true)(m:Str)(env:Env):attributeBase o m env (eval o env)=eval o env:=by
 cases o with
 |Name=>rfl
 |Attribute=>rfl
 |Subscript=>rfl
 |Call f as ks p=>
  cases f with
  |Attribute=>rfl
  |Name=>
   cases as with
   |nil=>cases hk
   |cons=>rfl
  |_=>cases hk
 |_=>cases hk
theorem yz{o':Ex}{m:Str}{kp:Pos}{k:Nat}(hm:tF m=true)(hl:(ap.endLine==cp.line)=true)(hb:attributeBase o m X.env (eval o X.env)=eval o X.env)(ho:PE X o (tE X.K (run g o'))):
  PE X (.Call (.Attribute o m ap) [.Constant (.int 0) k kp] [] cp) (tE X.K (run g (.pop o'))):=by
 have hm:m= "pop":=by simpa[tF] using hm
 subst hm;refine(ww PySem.F.plainAttrs_list PySem.F.slot_list_pop PySem.F.type_list_pop sY ho (cJ sO fo rfl) hb rfl hl rfl rfl).imp λσ H Q hp=>?_;obtain⟨ι,st,loc,S,L,P⟩:=hp;rw[run] at P;obtain⟨x,st1,e1,P⟩:=aT P;refine bn S L e1 λH1 ι1 v E1 S1 r1=>?_;unfold xA at P;split at P
 ·rename_i n;split at P
  ·rename_i xs q;split at P
   ·rename_i y hy;cases r1 with
    |ref hn=>
     obtain⟨vs,g1,g2⟩:=S1.ob _ _ q;obtain⟨u,hu,ru⟩:=g2.get hy;have hlen:0<vs.length:=(au hu).1;have hd:=g2.drop 1;obtain⟨E4,S4⟩:=S1.write q hd;have E4':Ext H1 (bE H1 (ι1 n) (.lst (vs.drop 1))) ι1 ι1 st1.length (st1.set n (O.lst (xs.drop 1))).length:=by rw[aS];exact E4
     refine⟨.inl ⟨rfl,vs,fW.of g1⟩,_,vs,0,0,u,rfl,rfl,g1,by decide,by decide,?_,hu,?_⟩
     ·simp[seqIndex?,hlen]
     ·have z:=P _ ι1 _ (E1.trans E4') S4 (ru.ext E4');rw[List.drop_one] at z;rw[List.eraseIdx_zero];exact z
   ·exact P.elim
  ·exact P.elim
 ·exact P.elim
noncomputable def SD(T:Tab)(g:dO)(n:Nat):Prop:=∀{X:Cx}{sc:Scope}{N:List Str}{es:List Expr}{xs:List Ex}{ks:List Str}{keys:List (Option Expr)}(pos:Pos),Ctx T g X sc N->rm T n sc N es=some xs->qd keys=some ks->ks.length=es.length->
 ∃trs,AH X pos keys es trs/\keys.length=es.length/\keys.all (·.isSome)=true/\∀{σ:L2.St}{H:Hp}{ι:Nat->Addr}{st:aP}{loc:Loc}{ds:List D}{st1:aP}{Q:List (V×V)->Hp->Prop},Sim X.K H ι st->LRel X.K H ι st.length loc σ->runs g xs loc st=.ok ds st1->
  (∀H1 ι1 vs,Ext H H1 ι ι1 st.length st1.length->Sim X.K H1 ι1 st1->VRels X.K H1 ι1 st1.length ds vs->Q ((ks.zip vs).map λp=>(V.str p.1,p.2)) H1)->k9 trs σ H Q
theorem u4(h:∀{X:Cx}{sc:Scope}{N:List Str}{e:Expr}{x:Ex},Ctx T g X sc N->cE T n sc N e=some x->PE X e (tE X.K (run g x)))(hs:SD T g n):SD T g (n+1):=by
 intro X sc N es xs ks keys pos C e hk hl;cases keys with
 |nil=>
  cases hk;cases es with
  |cons=>cases hl
  |nil=>
   cases e;exact⟨[],vh,rfl,rfl,λ{σ H ι st loc ds st1 Q} S L e1 k=>by rw[runs] at e1;cases e1;exact k H ι [] (Ext.refl _ _ _) S .nil⟩
 |cons k r=>
  obtain⟨kk,h0,hk⟩:=bs hk;obtain⟨ks2,hq,rfl⟩:=map_some hk;obtain⟨_,_,rfl⟩:=r_ h0;cases es with
  |nil=>cases hl
  |cons a0 as0=>
   obtain⟨e',e2,e⟩:=bs e;obtain⟨r',r2,rfl⟩:=map_some e;obtain⟨trs,h1,h2,h3,h4⟩:=hs pos C r2 hq (by simpa using hl)
   refine⟨_,sJ sL (h C e2) h1,by simp[h2],by simp[h3],λ{σ H ι st loc ds st1 Q} S L e1 k=>?_⟩
   rw[runs] at e1;unfold ba at e1;cases e5:run g e' loc st with
   |bad=>rw[e5] at e1;cases e1
   |ok d st2=>
    rw[e5] at e1;simp only[ba] at e1;cases e6:runs g r' loc st2 with
    |bad=>rw[e6] at e1;cases e1
    |ok ds2 st3=>rw[e6] at e1;cases e1;show tE X.K (run g e') σ H _;exact bn S L e5 λH1 ι1 v E1 S1 r1=>h4 S1 (L.ext E1) e6 λH2 ι2 vs E2 S2 r2=>k H2 ι2 (v::vs) (E1.trans E2) S2 (.cons (r1.ext E2) r2)
theorem yB{k:Option Expr}{ks:List (Option Expr)}{ks':List Str}{xs:List Ex}(hs:SD T g n)(C:Ctx T g X sc N)(hk:qd (k::ks)=some ks')(he:rm T n sc N es=some xs)(hl:ks'.length=es.length)(h15:ks'.length<=15)(hn:ks'.Nodup):
  PE X (.Dict (k::ks) es pos) (tE X.K (run g (.dict ks' xs))):=by
 obtain⟨trs,h1,h2,h3,h4⟩:=hs pos C he hk hl;refine(vj h1 h3 h2 (by simp) (by rw[h2,<-hl];exact h15)).imp λσ H Q hp=>?_
 obtain⟨ι,st,loc,S,L,P⟩:=hp;intro p hp;rw[run] at P;obtain⟨ds,st1,e1,P⟩:=aT P;have E0:Ext H (bE H p (.dK [])) ι ι st.length st.length:=⟨⟨ah _,λ_ _=>rfl,λb ys e=>by rw[aE (aG e hp)];exact e,λb ob u e=>by rw[aE (aG e hp)];exact e⟩,λb ob e k=>⟨by rw[aE (aG e hp)];exact e,k⟩⟩
 have hap:∀n,n<st.length->ι n≠p:=λn hn=>by obtain⟨_,h,_⟩:=S.obj hn;exact aG h hp
 have S0:Sim X.K (bE H p (.dK [])) ι st:=by refine⟨S.inj,λn o e=>?_⟩;have hn:n<st.length:=(au e).1;have old:=S.ob n o e;exact old.move E0.toExt0 (aE (hap n hn))
 refine h4 S0 (L.ext E0) e1 λH1 ι1 vs E1 S1 r1=>?_;obtain⟨hp1,ap1⟩:=E1.fr p _ bi hap;have lv:=r1.length;unfold allocK at P;split at P
 ·rename_i hkd;refine⟨hp1,(ks'.zip vs).map (λq=>((Sum.inr q.1:Key),q.2)),?_,by simp;omega,?_⟩
  ·rw[List.map_map];rfl
  ·have hmk:fq [] ((ks'.zip vs).map (λq=>((Sum.inr q.1:Key),q.2)))=(ks'.zip vs).map (λq=>((Sum.inr q.1:Key),q.2)):=by
    rw[iJ _ [] ?_ (λk _=>rfl),List.nil_append];rw[List.map_map];have e3:(λq:Key×V=>q.1) ∘ (λq:Str×V=>((Sum.inr q.1:Key),q.2))=(λs:Str=>(Sum.inr s:Key)) ∘ Prod.fst:=rfl;rw[e3,<-List.map_map,List.map_fst_zip (by omega)]
    exact List.Pairwise.map _ (λa b hab z=>hab (Sum.inr.inj z)) hn
   rw[hmk];generalize hkv:(ks'.zip vs).map (λq=>((Sum.inr q.1:Key),q.2))=kvs;have E2:Ext0 H1 (bE H1 p (.dK kvs)) ι1 ι1 st1.length st1.length:=⟨ah _,λ_ _=>rfl,λb ys e=>by rw[aE (cM e hp1 (by intro z;cases z))];exact e,λb ob u e=>by rw[aE (cM e hp1 (by intro z;cases z))];exact e⟩
   have S2:Sim X.K (bE H1 p (.dK kvs)) ι1 st1:=by refine⟨S1.inj,λn o e=>?_⟩;have hn:n<st1.length:=(au e).1;have old:=S1.ob n o e;exact old.move E2 (aE (ap1 n hn))
   have rd:DRels X.K (bE H1 p (.dK kvs)) ι1 st1.length ((ks'.zip ds).map λp=>(Sum.inr p.1,p.2)) kvs:=by have q:=DRels.zip (ks:=ks') (VRels.ext0 E2 r1);rw[hkv] at q;exact q
   obtain⟨ι',g1,g2,g3⟩:=S2.addD bi ap1 rd;have l:(st1++[O.dct ((ks'.zip ds).map λp=>(Sum.inr p.1,p.2))]).length=st1.length+1:=by simp
   refine P _ ι' (.ref p) ?_ g3 ?_
   ·rw[l];have E6:=E0.trans E1;refine⟨⟨Nat.le_succ_of_le E6.le,λn hn=>(g1 n (aw hn E6.le)).trans (E6.ad n hn),λb ys e=>E2.tp b ys (E6.tp b ys e),λb ob u e=>E2.fz b ob u (E6.fz b ob u e)⟩,λb ob e k=>?_⟩;obtain⟨g4,g5⟩:=E6.fr b ob e k;refine⟨by rw[aE (aG e hp)];exact g4,λn hn=>?_⟩
    by_cases hn':n=st1.length
    ·rw[hn',g2];exact(aG e hp).symm
    ·rw[g1 n (by omega)];exact g5 n (by omega)
   ·rw[<-g2,l];exact .ref (aO _)
 ·exact P.elim
end
section
variable{T:Tab}{g:dO}{X:Cx}{sc:Scope}{N:List Str}{pos p2:Pos}
theorem FRels.look_none{K:av}{ds:List (Str×D)}{vs:List (Str×V)}(h:FRels K H ι m ds vs)(e:ds.lookup f=none):vs.lookup f=none:=by
 induction h with
 |nil=>rfl
 | @cons k d' v ds vs h t ih=>
  rw[List.lookup_cons] at e ⊢;cases q:f==k with
  |true=>rw[q] at e;cases e
  |false=>rw[q] at e;exact ih e
theorem pO{c:Str}(h:c∈T.ics f):∃ic∈T.icl,ic.x=c/\f∈ic.flds:=by obtain⟨p,hp,rfl⟩:=List.mem_map.mp h;obtain⟨h1,h2⟩:=List.mem_filter.mp hp;exact⟨p,h1,rfl,List.contains_iff_mem.mp h2⟩
theorem vA{m c:Str}(h:(T.ims m).lookup c=some j):∃ic∈T.icl,ic.x=c/\(m,j)∈ic.mts:=by
 obtain⟨ic,h1,h2⟩:=List.mem_filterMap.mp (aK h);cases q:ic.mts.lookup m with
 |none=>rw[q] at h2;cases h2
 |some i=>rw[q] at h2;cases h2;exact⟨ic,h1,rfl,aK q⟩
theorem Ar{o':Ex}(C:Ctx T g X sc N)(hb:attributeBase o f X.env (eval o X.env)=eval o X.env)(ho:PE X o (tE X.K (run g o'))):PE X (.Attribute o f pos) (tE X.K (run g (.fld o' f [] (T.ics f)))):=by
 refine(xK ho hb).imp λσ H Q hp=>?_;obtain⟨ι,st,loc,S,L,P⟩:=hp;rw[run] at P;obtain⟨x,st1,e1,P⟩:=aT P;unfold yq at P;split at P
 ·rename_i n;split at P
  ·rename_i c fs q;split at P
   ·rename_i d hl;split at P
    ·rename_i hc;obtain⟨ic,hi,rfl,hf⟩:=pO hc;obtain⟨C0,n0,cl,na,_⟩:=C.icl ic hi;refine bn S L e1 λH1 ι1 v E1 S1 r1=>?_;cases r1 with
     |ref hn=>obtain⟨C1,dx,vs,n1,h1,h2,_⟩:=S1.ob n _ q;rw[n0] at n1;cases n1;obtain⟨w,lw,rw'⟩:=h2.look hl;exact⟨_,C0,dx,vs,w,rfl,h1,cl,na f hf,lw,(P.mono E1).same S1 rw'⟩
    ·exact P.elim
   ·exact P.elim
  ·exact P.elim
 ·exact P.elim
theorem Sim.aside{K:av}{st:aP}(S:Sim K H ι st)(hp:H p=none)(ho:HO):Ext H (bE H p ho) ι ι st.length st.length/\Sim K (bE H p ho) ι st:=by
 have E:Ext H (bE H p ho) ι ι st.length st.length:=⟨⟨ah _,λ_ _=>rfl,λb xs e=>by rw[aE (aG e hp)];exact e,λb ob u e=>by rw[aE (aG e hp)];exact e⟩,λb ob e k=>⟨by rw[aE (aG e hp)];exact e,k⟩⟩
 exact⟨E,S.inj,λn o e=>(S.ob n o e).move E.toExt0 (aE (by obtain⟨_,h,_⟩:=S.obj (au e).1;exact aG h hp))⟩
theorem Am{as:List Expr}{xs:List Ex}(C:Ctx T g X sc N)(hg:bO sc x=true)(hi:T.mks.lookup x=some j)(ha:PA X (a::as) (tA X.K (runs g xs)))
  (he:starEach (a::as) X.env=(false,eval a X.env)::starEach as X.env)(hpl:(backTo pos (starEach as X.env)).any (·.1)=false):PE X (.Call (.Name x p2) (a::as) [] pos) (tE X.K (run g (.new x j xs))):=by
 obtain⟨hd,C0,ad,fd,ps,k,hn,hm,mk,hb,hr,har,F⟩:=C.mks x j (aK hi);refine(vi mk F hr (kB C hg) hm hb .nil wx ha hd he hpl).imp λσ H Q hp=>?_;obtain⟨ι,st,loc,S,L,P⟩:=hp;rw[run] at P;obtain⟨ds,st1,e1,P⟩:=aT P;refine jm S L e1 λH1 ι1 vs E1 S1 r1 ax dx hx hdx hne=>?_;rw[List.append_nil];unfold sZ at P;obtain⟨r,st2,e2,P⟩:=aT P;obtain⟨E2,S2⟩:=S1.aside hdx (.own ax);have hx2:bE H1 dx (.own ax) ax=none:=by rw[aE hne.symm];exact hx
 obtain⟨ι2,E3,e3,S3⟩:=S2.laid (o:= .ins x []) (ho:= .ins C0 dx []) hx2 (λι' h1 h2=>⟨C0,dx,[],hn,bi,.nil,by decide⟩)
 have l:(st1++[O.ins x []]).length=st1.length+1:=by simp
 have rr:VRels X.K (bE (bE H1 dx (.own ax)) ax (.ins C0 dx [])) ι2 (st1++[O.ins x []]).length (.ref st1.length::ds) (.ref ax::vs):=by rw[l];refine .cons ?_ (r1.ext (E2.trans E3));rw[<-e3];exact .ref (aO _)
 have hlen:(V.ref ax::vs).length=ps.length:=by
  rw[<-rr.length];by_cases hps:(D.ref st1.length::ds).length=ps.length
  ·exact hps
  ·rw[har _ _ hps] at e2;cases e2
 refine⟨hlen,ι2,_,_,S3,rr,?_⟩;rw[e2];cases r with
 |x n=>exact P.elim
 |v d=>
  cases d with
  |non=>
   intro H' ι' v E' S' rv;cases rv;have E4:Ext H H' ι ι' st.length st2.length:=((E1.trans E2).trans (by rw[<-l] at E3;exact E3)).trans E'
   refine⟨rfl,P H' ι' _ E4 S' ?_⟩;have e4:ι' st1.length=ax:=(E'.ad _ (by rw[l];exact aO _)).trans e3
   rw[<-e4];have:=E'.le;rw[l] at this;exact .ref this
  |_=>exact P.elim
theorem pM{m:Str}{xs:List Ex}{t:TA}{x:D}{loc:Loc}{H1:Hp}{st st1:aP}(C:Ctx T g X sc N)(S1:Sim X.K H1 ι1 st1)(L:LRel X.K H ι st.length loc σ)(E1:Ext H H1 ι ι1 st.length st1.length)(r1:VRel X.K H1 ι1 st1.length x v)
  (P:b_ X.K H ι st (ba (pN m (T.ims m) x) (λj=>ba (runs g xs loc) λds=>ba (g j (x::ds)) λr=>dh r.val?) st1) Q)
  (ht:∀Q':List V->Hp->Prop,tA X.K (runs g xs) σ H1 Q'->t σ H1 Q'):
  ∃a C dx fs f k fd ps sp,v=.ref a/\H1 a=some (.ins C dx fs)/\fs.lookup m=none/\Cls X.K C/\Meth X.K C m f/\FnOk X.prog X.w X.K X.mg X.base (nO X.prog X.w) k f fd ps sp/\Room k X.A/\Binds X.K fd ps []/\t σ H1 λvs H2=>∀E:XK,sp (.ref a::vs) H2 Q E:=by
 obtain⟨j,st2,e2,P2⟩:=aT P;obtain⟨ds,st3,e3,P3⟩:=aT P2;unfold pN at e2;cases x with
 |ref nn=>
  dsimp only at e2;split at e2
  ·rename_i c fs q;split at e2
   ·rename_i i hl hj;cases e2;obtain⟨ic,hi,rfl,hm⟩:=vA hj;obtain⟨C0,n0,cl,na,ms⟩:=C.icl ic hi;obtain⟨a,fd,ps,k,M,hb,hr,har,F⟩:=ms m _ hm;have rr:=r1;cases r1 with
    |ref hn=>
     obtain⟨C1,dx,vs,n1,h1,h2,_⟩:=S1.ob nn _ q;rw[n0] at n1;cases n1;refine⟨_,C0,dx,vs,a,k,fd,ps,_,rfl,h1,h2.look_none hl,cl,M,F,hr,hb,ht _ (jm S1 (L.ext E1) e3 λH2 ι2 ws E2 S2 r2 E=>?_)⟩;have r3:VRels X.K H2 ι2 st3.length (.ref nn::ds) (.ref (ι1 nn)::ws):= .cons (rr.ext E2) r2;refine⟨?_,ι2,st3,_,S2,r3,(f_.val P3).mono (E1.trans E2)⟩;rw[<-r3.length];by_cases hps:(D.ref nn::ds).length=ps.length
     ·exact hps
     ·have P4:=f_.val (E:=E) P3;rw[har _ _ hps] at P4;exact P4.elim
   ·cases e2
  ·cases e2
 |_=>cases e2
theorem yt{as:List Expr}(hpl:(backTo pos (starEach as X.env)).any (·.1)=false)(hz:as.length<29):methodCallForm (as.length+([]:List Keyword).length) (backTo pos (starEach as X.env)) (backToKw pos (keywordEach [] X.env))=true:=by
 unfold methodCallForm
 have h1:(backTo pos (starEach as X.env)).all (!·.1)=true:=by
  rw[List.all_eq_true];intro p hp;cases q:p.1 with
  |false=>rfl
  |true=>have:=List.any_eq_false.mp hpl p hp;rw[q] at this;exact absurd rfl this
 rw[h1];have h2:(backToKw pos (keywordEach [] X.env)).all (·.1.isSome)=true:=rfl;have h3:(backToKw pos (keywordEach [] X.env)).isEmpty=true:=rfl;rw[h2,h3];simp only[Bool.and_self,Bool.true_and,List.length_nil,Nat.add_zero,if_true,decide_eq_true_eq];omega
theorem yA{as:List Expr}{o':Ex}{m:Str}{xs:List Ex}(C:Ctx T g X sc N)(hl:(ap.endLine==pos.line)=true)(hz:(a::as).length<29)(hb:attributeBase o m X.env (eval o X.env)=eval o X.env)(ho:PE X o (tE X.K (run g o')))(ha:PA X (a::as) (tA X.K (runs g xs)))
  (he:starEach (a::as) X.env=(false,eval a X.env)::starEach as X.env)(hpl:(backTo pos (starEach as X.env)).any (·.1)=false)(hpl1:(backTo pos (starEach (a::as) X.env)).any (·.1)=false):PE X (.Call (.Attribute o m ap) (a::as) [] pos) (tE X.K (run g (.meth o' m (T.ims m) xs))):=by
 refine(sN ho hb hl (yt hpl1 hz) ha he hpl).imp λσ H Q hp=>?_;obtain⟨ι,st,loc,S,L,P⟩:=hp;rw[run] at P;obtain⟨x,st1,e1,P⟩:=aT P;exact bn S L e1 λH1 ι1 v E1 S1 r1=>pM C S1 L E1 r1 P λ_ h=>h
theorem vY{o':Ex}{m:Str}(C:Ctx T g X sc N)(hl:(ap.endLine==pos.line)=true)(hb:attributeBase o m X.env (eval o X.env)=eval o X.env)(ho:PE X o (tE X.K (run g o'))):PE X (.Call (.Attribute o m ap) [] [] pos) (tE X.K (run g (.meth o' m (T.ims m) []))):=by refine(qD ho hb hl).imp λσ H Q hp=>?_;obtain⟨ι,st,loc,S,L,P⟩:=hp;rw[run] at P;obtain⟨x,st1,e1,P⟩:=aT P;refine bn S L e1 λH1 ι1 v E1 S1 r1=>pM C S1 L E1 r1 P λQ' h=>?_;obtain⟨ι2,st2,loc2,S2,L2',P2⟩:=h;rw[runs] at P2;exact P2 H1 ι2 [] (Ext.refl _ _ _) S2 .nil
theorem Ap{t:Str}{a':Ex}(C:Ctx T g X sc N)(hg:bO sc "isinstance"=true)(hgt:bO sc t=true)(ht:t∈T.isks)(ha:PE X a (tE X.K (run g a')))
  (he:starEach [a,.Name t p3] X.env=(false,eval a X.env)::starEach [.Name t p3] X.env):PE X (.Call (.Name "isinstance" p2) [a,.Name t p3] [] pos) (tE X.K (run g (.isk a' t))):=by
 obtain⟨hdb,C0,n0,m1,cl,f1,f2,f3,f4,kk⟩:=C.isks t ht;refine(jx um (kB C hg) (C.blt _ (by decide+kernel)) (by decide+kernel) (cJ ha (cJ (pH (v:= .ref C0) (kB C hgt) m1 rfl hdb) fo) he) (by decide+kernel) (by decide+kernel) he rfl).imp λσ H Q hp=>?_
 obtain⟨ι,st,loc,S,L,P⟩:=hp;rw[run] at P;obtain⟨x,st1,e1,P2⟩:=aT P;refine bn S L e1 λH1 ι1 v E1 S1 r1=>?_;unfold yi at P2;split at P2
 ·rename_i n;split at P2
  ·rename_i c fs q;split at P2
   ·rename_i hc;subst hc;cases r1 with
    |ref hn=>obtain⟨C1,dx,vs,n2,h1,h2,_⟩:=S1.ob n _ q;rw[n0] at n2;cases n2;exact⟨_,C0,dx,vs,.ref C0,.ref C0,_,rfl,h1,cl,f1,f2,f3,f4,λu ru=>ru,kk,(P2.mono E1).same S1 (.bl _)⟩
   ·exact P2.elim
  ·exact P2.elim
 ·exact P2.elim
end
theorem d9{st:aP}{x:D}{kvs:List (Key×D)}(h:ck st x=some kvs):∃n,x=.ref n/\st[n]? =some (.dct kvs):=by
 cases x with
 |ref n=>
  unfold ck at h;dsimp only at h;split at h
  ·cases h;exact⟨n,rfl,by assumption⟩
  ·cases h
 |_=>cases h
theorem AE{st:aP}{x:D}:∀{ys:List D}{k:Bool},dM st x ys=some k->k=((List.range ys.length).any λj=>ys[j]?.elim false λy=>dj 60 st y x==some true)/\∀(j:Nat) y,ys[j]? =some y->∃b,dj 60 st y x=some b
 |[],k,h=>by cases h;exact⟨rfl,λj y e=>by simp at e⟩
 |y::ys,k,h=>by
  unfold dM at h;split at h
  ·rename_i a b h1 h2;cases h;obtain⟨h3,h4⟩:=AE h2;refine⟨?_,λj z e=>?_⟩
   ·rw[List.length_cons,List.range_succ_eq_map,List.any_cons,List.any_map,h3];congr 1;simp[h1]
   ·cases j with
    |zero=>cases e;exact⟨a,h1⟩
    |succ j=>exact h4 j z (by simpa using e)
  ·cases h
theorem VRels.of_get{K:av}:∀{ds:List D}{vs:List V},ds.length=vs.length->(∀(j:Nat) d v,ds[j]? =some d->vs[j]? =some v->VRel K H ι m d v)->VRels K H ι m ds vs
 |[],[],_,_=>.nil
 |d::ds,v::vs,l,h=>.cons (h 0 d v rfl rfl) (VRels.of_get (by simpa using l) λj d v a b=>h (j+1) d v (by simpa using a) (by simpa using b))
 |[],_::_,l,_=>by cases l
 |_::_,[],l,_=>by cases l
section
variable{T:Tab}{g:dO}{X:Cx}{sc:Scope}{N:List Str}{pos p1 p2 q1 ap cp:Pos}
theorem tK{a' b':Ex}(hu:X.A.units+100<cLine)(h:tE X.K (run g (.inV a' b')) σ H Q):zm X (tE X.K (run g a')) (tE X.K (run g b')) σ H Q:=by
 obtain⟨ι,st,loc,S,L,P⟩:=h;rw[run] at P;obtain⟨x,st1,e1,P⟩:=aT P;obtain⟨y,st2,e2,P⟩:=aT P;refine bn S L e1 λH1 ι1 v E1 S1 r1=>bn S1 (L.ext E1) e2 λH2 ι2 u E2 S2 r2=>?_;unfold yk at P;split at P
 ·rename_i kvs hk;obtain⟨n,rfl,hn⟩:=d9 hk;split at P
  ·rename_i k ha;obtain⟨h1,h2⟩:=AE ha;cases r2 with
   |ref hl=>
    obtain⟨vs,g1,g2⟩:=S2.ob _ _ hn;have ll:=g2.length;refine⟨_,vs,λj=>(kvs.map (·.2))[j]?.elim false λy=>dj 60 st2 y x==some true,rfl,g1,λpins s u uv j v I rx hv rv=>?_,?_⟩
    ·have hr:=g2.vals;have hv':(vs.map (·.2))[j]? =some v:=by rw[aB];exact hv
     have hj:j<(kvs.map (·.2)).length:=by have:=(au hv').1;simp only[List.length_map] at this ⊢;omega
     have e:(kvs.map (·.2))[j]? =some ((kvs.map (·.2))[j]):=aC hj;obtain⟨w,hw,rw'⟩:=hr.get e;rw[hv'] at hw;cases hw;obtain⟨b,hb⟩:=h2 j _ e;dsimp only;rw[e];obtain⟨_,_,h3⟩:=iD I S2 60 (A:=X.A.in1) hb ⟨_,rw',rv⟩ ⟨_,r1.ext E2,rx⟩ (by show X.A.units+1+60<cLine;omega)
     rw[Option.elim_some,hb];cases b<;>exact h3
    ·rw[<-ll,<-List.length_map (f:=(·.2)) (as:=kvs),<-h1];exact(P.mono (E1.trans E2)).same S2 (.bl k)
  ·exact P.elim
 ·exact P.elim
theorem Aq{a' o':Ex}(C:Ctx T g X sc N)(hcm:T.calm=true)(hl:(ap.endLine==cp.line)=true)(hb:attributeBase o "values" X.env (eval o X.env)=eval o X.env)(ha:PE X a (tE X.K (run g a')))(ho:PE X o (tE X.K (run g o'))):
  PE X (.Compare a [.In] [.Call (.Attribute o "values" ap) [] [] cp] pos) (tE X.K (run g (.inV a' o')))/\PT X (.Compare a [.In] [.Call (.Attribute o "values" ap) [] [] cp] pos) (tT X.K (run g (.inV a' o'))):=by
 have pc:=xN (C.calm hcm) ha ho hb hl;exact⟨(xL pc rfl).imp λσ H Q h=>tK C.un h,(xx pc rfl).imp λσ H Q h=>k8 (λQ' hp=>tK C.un hp) h⟩
theorem kz:∀{kvs:List (Key×D)}{ns:List Int},kA kvs=some ns->kvs.map (·.1)=ns.map (Sum.inl:Int->Key)
 |[],ns,h=>by cases h;rfl
 |(.inl n,d)::r,ns,h=>by obtain⟨ms,h1,rfl⟩:=map_some h;rw[List.map_cons,List.map_cons,kz h1]
 |(.inr _,_)::_,_,h=>by cases h
theorem Ak{o':Ex}(C:Ctx T g X sc N)(hcm:T.calm=true)(hg:bO sc "sorted"=true)(hl:(ap.endLine==cp.line)=true)(hb:attributeBase o "items" X.env (eval o X.env)=eval o X.env)(ho:PE X o (tE X.K (run g o'))):
  PE X (.Call (.Name "sorted" p1) [.Call (.Attribute o "items" ap) [] [] cp] [] q1) (tE X.K (run g (.sit o'))):=by
 refine(xF (C.calm hcm) (kB C hg) (C.blt _ (by decide+kernel)) ho hb hl).imp λσ H Q hp=>?_
 obtain⟨ι,st,loc,S,L,P⟩:=hp;rw[run] at P;obtain⟨x,st1,e1,P⟩:=aT P;refine bn S L e1 λH1 ι1 v E1 S1 r1=>?_;unfold w5 at P;split at P
 ·rename_i kvs hk;obtain⟨n,rfl,hn⟩:=d9 hk;split at P
  ·rename_i ns hns;split at P
   ·rename_i hc;cases r1 with
    |ref hl=>
     obtain⟨vs,g1,g2⟩:=S1.ob _ _ hn;have ll:=g2.length;have hkk:=kz hns;have ln:kvs.length=ns.length:=by simpa using congrArg List.length hkk
     refine⟨_,vs,ns,rfl,g1,by rw[<-g2.keys];exact hkk,hc.1,by rw[<-ll];exact hc.2,λHm as p la hE hF hN hp hT=>?_⟩
     have E2:Ext H1 Hm ι1 ι1 st1.length st1.length:=⟨⟨ah _,λ_ _=>rfl,λb xs e=>hE b _ e,λb ob u e=>hE b _ e⟩,λb ob e k=>⟨hE b _ e,k⟩⟩
     have S2:Sim X.K Hm ι1 st1:=⟨S1.inj,λi ob e=>(S1.ob i ob e).move E2.toExt0 (by obtain⟨u,h,_⟩:=S1.obj (au e).1;rw[h,hE _ _ h])⟩
     refine b_.alloc S2 (P.mono (E1.trans E2)) (VRels.of_get (by simp;omega) λj d v hd hv=>?_) p hp
     rw[aB] at hd hv;cases ha:as[j]? with
     |none=>rw[ha] at hv;cases hv
     |some b=>
      rw[ha] at hv;cases hv;have hj:j<as.length:=(au ha).1;have h1:ns[j]? =some ns[j]:=aC (by omega)
      have h2:kvs[j]? =some kvs[j]:=aC (by omega)
      rw[List.getElem?_zip_eq_some (z:=(ns[j],kvs[j]))|>.mpr ⟨h1,h2⟩] at hd;cases hd;obtain⟨w,hw,rw'⟩:=g2.vals.get (i:=j) (d:=kvs[j].2) (by rw[aB,h2];rfl)
      exact .tup (.inl (.inl (hT j b _ w ha h1 (by rw[<-aB];exact hw)))) (.cons (.int _) (.cons (rw'.ext E2) .nil))
   ·exact P.elim
  ·exact P.elim
 ·exact P.elim
theorem yC{o' a' b':Ex}(C:Ctx T g X sc N)(hl:(ap.endLine==cp.line)=true)(hb:attributeBase o "get" X.env (eval o X.env)=eval o X.env)(h1:starEach [a,b] X.env=(false,eval a X.env)::starEach [b] X.env)(h2:starEach [b] X.env=[(false,eval b X.env)])
  (ho:PE X o (tE X.K (run g o')))(ha:PE X a (tE X.K (run g a')))(hbb:PE X b (tE X.K (run g b'))):PE X (.Call (.Attribute o "get" ap) [a,b] [] cp) (tE X.K (run g (.dget o' a' b'))):=by
 refine(sP (by have:=C.un;omega) ho ha hbb ⟨hb,by rw[h1,h2];rfl,hl,by rw[h1,h2];rfl⟩).imp λσ H Q hp=>?_
 obtain⟨ι,st,loc,S,L,P⟩:=hp;rw[run] at P;obtain⟨x,st1,e1,P⟩:=aT P;obtain⟨_,st2,e2,P⟩:=aT P;obtain⟨k,st3,e3,P⟩:=aT P;obtain⟨z,st4,e4,P2⟩:=aT P;unfold ud at e2;split at e2
 ·rename_i kv0 hk0;cases e2;obtain⟨n,rfl,hn⟩:=d9 hk0;refine bn S L e1 λH1 ι1 v E1 S1 r1=>?_;have r1':=r1;cases r1 with
  |ref hlt=>
   obtain⟨vs,g1,g2⟩:=S1.ob _ _ hn;refine⟨_,rfl,.inl ⟨vs,.inl g1⟩,bn S1 (L.ext E1) e3 λH2 ι2 u E2 S2 r2=>bn S2 ((L.ext E1).ext E2) e4 λH3 ι3 w E3 S3 r3=>?_⟩;have E4:=E2.trans E3;have E5:=E1.trans E4;unfold qf at P2;split at P2
   ·rename_i kvs hk;obtain⟨n',e,hn'⟩:=d9 hk;cases e;obtain⟨ws,k1,k2⟩:=S3.ob _ _ hn';rw[E4.ad n hlt] at k1;split at P2
    ·rename_i kk hkk;have e:=i9 hkk (r2.ext E3);subst e;refine .inl ⟨_,gq.k (k:=kk) k1,?_⟩;have l:=k2.look (k:=kk);cases q:ci kvs kk with
     |none=>rw[q] at l P2;rw[l];exact(P2.mono E5).same S3 r3
     |some d=>rw[q] at l P2;obtain⟨w',hw,rw'⟩:=l;rw[hw];exact(P2.mono E5).same S3 rw'
    ·split at P2
     ·cases r2;exact .inr ⟨rfl,⟨ws,.inl k1⟩,(P2.mono E5).same S3 r3⟩
     ·exact P2.elim
   ·exact P2.elim
 ·cases e2
mutual
theorem VRel.nr{K:av}:∀{d:D}{v:V},VRel K H ι m d v->oC d=true->VRel K H ι 0 d v
 |_,_,.non,_=>.non
 |_,_,.bl b,_=>.bl b
 |_,_,.int i,_=>.int i
 |_,_,.str x,_=>.str x
 |_,_,.tup h r,e=>.tup h (VRels.nr r e)
 |_,_,.fl _ _,e=>by cases e
 |_,_,.ref _,e=>by cases e
theorem VRels.nr{K:av}:∀{ds:List D}{vs:List V},VRels K H ι m ds vs->fY ds=true->VRels K H ι 0 ds vs
 |_,_,.nil,_=>.nil
 |_,_,.cons h t,e=>by have e:(oC _&&fY _)=true:=e;rw[Bool.and_eq_true] at e;exact .cons (VRel.nr h e.1) (VRels.nr t e.2)
end
theorem pU{all:List (Key×D)}{y:D}:∀{kvs:List (Key×D)}{ks:List D},oH all y kvs=some ks->∃f:Nat->Bool,(∀(j:Nat) p,kvs[j]? =some p->∃d,ci all p.1=some d/\dj 60 [] d y=some (f j))/\ks=((List.range kvs.length).filterMap λj=>if f j=true then(kvs[j]?).map λp=>ye p.1 else none)
 |[],ks,h=>by cases h;exact⟨λ_=>false,λj p e=>by simp at e,rfl⟩
 |p::r,ks,h=>by
  obtain⟨d,h0,h⟩:=bs h;split at h
  ·rename_i b ks2 h1 h2;cases h;obtain⟨f,h3,h4⟩:=pU h2;refine⟨λj=>match j with|0=>b|j+1=>f j,λj q e=>?_,?_⟩
   ·cases j with
    |zero=>cases e;exact⟨d,h0,h1⟩
    |succ j=>exact h3 j q (by simpa using e)
   ·rw[List.length_cons,List.range_succ_eq_map,List.filterMap_cons,List.filterMap_map];cases b with
    |true=>simp only[if_true,List.getElem?_cons_zero,Option.map_some];rw[h4];congr 1
    |false=>simp only[Bool.false_eq_true,if_false];rw[h4];congr 1
  ·cases h
theorem tq{K:av}(k:Key):VRel K H ι m (ye k) (kV k):=by
 cases k with
 |inl i=>exact .int i
 |inr s=>exact .str s
theorem Bm:AK X (λx y H Q=>∃a k w,x=.ref a/\y=kV k/\gq H a (kV k) (some w)/\X.A.units+1<cLine/\Q w H):=by intro value slice pins s σ H vx vy ux uy Q I rx ry h hs;obtain⟨a,k,w,rfl,rfl,g,hu,q⟩:=h;cases rx;exact tail_any (iM I g) PySem.F.slot_dict_getitem.lookup (kI hu I g ry λw' s' I' rw2=>⟨w,H,I',rw2,q⟩) hs
theorem xS:i5 X (compareOp .Eq) (λx y H Q=>∃ι dx dy k,VRel X.K H ι 0 dx x/\VRel X.K H ι 0 dy y/\dj 60 [] dx dy=some k/\X.A.units+100<cLine/\Q (.bl k) H):=by
 intro pins s σ H vx vy ux uy Q I rx ry h;obtain⟨ι,dx,dy,k,hx,hy,e,hu,q⟩:=h;obtain⟨h1,_,_⟩:=iD (ι:=ι) (st:=[]) I ⟨λi _ hi=>absurd hi (Nat.not_lt_zero _),λi o e=>by simp at e⟩ 60 (A:=X.A) e ⟨_,hx,rx⟩ ⟨_,hy,ry⟩ (by omega)
 exact h1 _ _ _ _ ⟨.bl k,H,I,rfl,q⟩
theorem dQ{K:av}{H:Hp}{ι:Nat->Addr}{m:Nat}{F:Nat->Option D}{G:Nat->Option V}(h:∀j,(F j=none/\G j=none)∨∃d v,F j=some d/\G j=some v/\VRel K H ι m d v):∀l:List Nat,VRels K H ι m (l.filterMap F) (l.filterMap G)
 |[]=>.nil
 |j::l=>by
  rw[List.filterMap_cons,List.filterMap_cons];rcases h j with⟨e1,e2⟩|⟨d,v,e1,e2,r⟩
  ·rw[e1,e2];exact dQ h l
  ·rw[e1,e2];exact .cons r (dQ h l)
theorem DRels.key_at{K:av}{kvs:List (Key×D)}(h:DRels K H ι m kvs vs)(j:Nat):(kvs[j]?).map (·.1)=(vs[j]?).map (·.1):=by rw[<-aB,<-aB,h.keys]
theorem mN:∀{ds:List D}{d:D},fY ds=true->d∈ds->oC d=true
 |_::_,_,h,.head _=>by have h:(oC _&&fY _)=true:=h;rw[Bool.and_eq_true] at h;exact h.1
 |_::_,_,h,.tail _ t=>by have h:(oC _&&fY _)=true:=h;rw[Bool.and_eq_true] at h;exact mN h.2 t
theorem mC:∀{kvs:List (Key×D)}{k:Key}{d:D},ci kvs k=some d->d∈kvs.map (·.2)
 |p::r,k,d,h=>by
  unfold ci at h;split at h
  ·cases h;exact .head _
  ·exact .tail _ (mC h)
theorem Ao{d k:Str}{px p5 p6 p7 p8:Pos}(C:Ctx T g X sc N)(hc:cq sc scope N x=true)(hd:uu sc d)(hk:uu sc k)(wH:di N d=some i)(hik:di N k=some j)
  (hd1:uu (cP sc scope) d)(hk1:uu (cP sc scope) k)(hx1:uu (cP sc scope) x)(hid1:di (x::fS scope N) d=some (i+1))(hik1:di (x::fS scope N) k=some (j+1)):
  eY g X x px (.Name d p2) [.Compare (.Subscript (.Name d p3) (.Name x p4) p5) [.Eq] [.Name k p7] p6] (.Name x p8) scope (.keq i j):=by
 have v0:PE X (.Name d p2) (nX i):=by
  obtain⟨h1,h2⟩:=C.nm d (ak (b6 wH));exact oB (by rw[C.n];exact b6 wH) (by rw[C.sc];exact hd) h1 h2
 have vs:∀fp s H {z:Str}{pz:Pos}{l:Nat},di (x::fS scope N) z=some l->uu (cP sc scope) z->PE (bG X x scope fp s H) (.Name z pz) (nX l):=λfp s H {z pz l} h1 h2=>by
  have C1:=fK C hc fp s H;obtain⟨h3,h4⟩:=C1.nm z (ak (b6 h1));exact oB (by rw[C1.n];exact b6 h1) (by rw[C1.sc];exact h2) h3 h4
 have hx0:di (x::fS scope N) x=some 0:=if_pos rfl
 refine⟨_,o9 (wV (λx y H Q=>∃ι dx dy k,VRel X.K H ι 0 dx x/\VRel X.K H ι 0 dy y/\dj 60 [] dx dy=some k/\X.A.units+100<cLine/\Q (.bl k) H) (wV (λx y H Q=>∃a k w,x=.ref a/\y=kV k/\gq H a (kV k) (some w)/\X.A.units+1<cLine/\Q w H) (nX (i+1)) (nX 0)) (nX (j+1))),nX 0,
  qC v0,λfp s H=>pC (pD xS (wv Bm (vs fp s H hid1 hd1) (vs fp s H hx0 hx1) (λ_ _=>rfl)) (vs fp s H hik1 hk1) rfl),λfp s H=>vs fp s H hx0 hx1,λ_=>rfl,λσ H Q hp=>.inr ?_⟩
 obtain⟨ι,st,loc,S,L,P⟩:=hp;rw[run] at P;obtain⟨xd,st1,e1,P1⟩:=aT P;obtain⟨yd,st2,e2,P2⟩:=aT P1;obtain⟨e3,rfl⟩:=bX e1;obtain⟨e4,rfl⟩:=bX e2
 have jn:∀{l:Nat}{z:D},loc[l]?.join=some z->loc[l]? =some (some z):=λ{l z} h=>by
  cases q:loc[l]? with
  |none=>rw[q] at h;cases h
  |some o=>rw[q] at h;cases o with
   |none=>cases h
   |some w=>cases h;rfl
 obtain⟨vx,hvx,rx⟩:=L.at_ i _ (jn e3);obtain⟨vy,hvy,ry⟩:=L.at_ j _ (jn e4);unfold vG at P2;cases hkv:ck st2 xd with
 |none=>rw[hkv] at P2;exact P2.elim
 |some kvs=>
 rw[hkv] at P2;dsimp only at P2;by_cases hcd:oC yd=true/\fY (kvs.map (·.2))=true/\kvs.length<=1000
 rotate_left
 ·rw[if_neg hcd] at P2;exact P2.elim
 rw[if_pos hcd] at P2;cases hks:oH kvs yd kvs with
 |none=>rw[hks] at P2;exact P2.elim
 |some ks=>
 rw[hks] at P2;dsimp only at P2;obtain⟨n,rfl,hn⟩:=d9 hkv;obtain⟨f,hf,hks2⟩:=pU hks;cases rx with
 |ref hlt=>
  obtain⟨ws,g1,g2⟩:=S.ob _ _ hn;have ll:=g2.length;have sz:sizeLine=16777216:=sizeLine_eq;refine⟨_,hvx,ι n,ws,rfl,g1,λo nf Dd hDd=>?_⟩;have hne:ι n≠Dd:=λe=>by rw[<-e,bi] at hDd;cases hDd
  have hD0:H Dd=none:=by rw[aE hne.symm] at hDd;exact hDd
  let Y:Nat->List V:=λl=>(List.range l).filterMap λj=>if f j=true then(ws[j]?).map λp=>kV p.1 else none
  have hY:∀l,(Y l).length<=l:=λl=>by
   have:=List.length_filterMap_le (λj=>if f j=true then(ws[j]?).map λp=>kV p.1 else none) (List.range l)
   simpa[Y] using this
  refine⟨λl m ys H2=>l+m=ws.length/\H2=bE (bE H (ι n) (.frz o (.dK ws))) Dd (.lst ys)/\ys=Y l,⟨ws.length,Nat.zero_add _,rfl,rfl⟩,?_⟩;rintro l m ys H2 ⟨hlm,rfl,rfl⟩;have hfz:(bE (bE H (ι n) (.frz o (.dK ws))) Dd (.lst (Y l))) (ι n)=some (.frz o (.dK ws)):=by rw[aE hne,bi]
  cases m with
  |zero=>
   refine .inl ⟨⟨hfz,by omega⟩,ι n,o,ws,hfz,nf,?_⟩
   have he:bE (bE (bE H (ι n) (.frz o (.dK ws))) Dd (.lst (Y l))) (ι n) (.dK ws)=bE H Dd (.lst (Y l)):=by
    funext b;by_cases hb:b=ι n
    ·subst hb;rw[bi,aE hne,g1]
    ·rw[aE hb];by_cases hb2:b=Dd
     ·subst hb2;rw[bi,bi]
     ·rw[aE hb2,aE hb2,aE hb]
   rw[he];refine b_.alloc S P2 ?_ Dd hD0;rw[hks2];have e:kvs.length=l:=by omega
   rw[e];refine dQ (λq=>?_) _;have:=g2.key_at q;cases hfq:f q with
   |false=>exact .inl ⟨rfl,rfl⟩
   |true=>
    simp only[if_true];cases h1:kvs[q]? with
    |none=>
     rw[h1] at this;cases h2:ws[q]? with
     |none=>exact .inl ⟨rfl,rfl⟩
     |some p=>rw[h2] at this;cases this
    |some p=>
     rw[h1] at this;cases h2:ws[q]? with
     |none=>rw[h2] at this;cases this
     |some p'=>rw[h2] at this;have e:p.1=p'.1:=ai this;refine .inr ⟨_,_,rfl,rfl,?_⟩;dsimp only;rw[e];exact tq _
  |succ m=>
   have hl:l<ws.length:=by omega
   have hw:ws[l]? =some ws[l]:=aC hl;refine .inr ⟨⟨hfz,_,hw⟩,λys' H'=>H'=bE (bE H (ι n) (.frz o (.dK ws))) Dd (.lst ys')/\ys'=Y (l+1),λys' H' hN=>⟨m,aO _,by omega,hN⟩,λxv H' hy=>?_⟩
   obtain⟨rfl,p,hp,rfl⟩:=hy;rw[hw] at hp;cases hp;have hkl:l<kvs.length:=by omega
   have hkq:kvs[l]? =some kvs[l]:=aC hkl;obtain⟨dv,hdv,hde⟩:=hf l _ hkq
   have hkk:kvs[l].1=ws[l].1:=by have:=g2.key_at l;rw[hkq,hw] at this;exact ai this
   rw[hkk] at hdv;have lk:=g2.look (k:=ws[l].1);rw[hdv] at lk;obtain⟨w,hwv,rw'⟩:=lk
   have E2:Ext0 H (bE (bE H (ι n) (.frz o (.dK ws))) Dd (.lst (Y l))) ι ι 0 0:=⟨ah _,λ_ h=>absurd h (Nat.not_lt_zero _),λb xs e=>by
     rw[aE (aG e hD0),aE (cM e g1 (by intro z;cases z))];exact e,λb ob u e=>by
     rw[aE (aG e hD0),aE (cM e g1 (by intro z;cases z))];exact e⟩
   have hu:=C.un
   have yl:Y (l+1)=if f l=true then Y l++[kV ws[l].1] else Y l:=by
    show(List.range (l+1)).filterMap _=_;rw[List.range_succ,List.filterMap_append];cases hfl:f l with
    |true=>simp[hfl,hw,Y]
    |false=>simp[hfl,Y]
   refine⟨_,by simpa using hvx,_,rfl,_,_,w,rfl,rfl,.inl ⟨ws,_,.inr ⟨o,hfz⟩,rfl,hwv.symm⟩,by omega,_,by simpa using hvy,ι,dv,yd,f l,?_,?_,hde,hu,_,rfl,?_⟩
   ·exact VRel.ext0 E2 (rw'.nr (mN hcd.2.1 (mC hdv)))
   ·exact VRel.ext0 E2 (ry.nr hcd.1)
   ·cases hfl:f l with
    |false=>rw[if_neg aF];refine⟨rfl,?_⟩;rw[yl,hfl];rfl
    |true=>
     rw[if_pos rfl];refine⟨_,rfl,bi,by have:=hY l;omega,?_,?_⟩
     ·funext b;by_cases hb:b=Dd
      ·subst hb;rw[bi,bi]
      ·rw[aE hb,aE hb,aE hb]
     ·rw[yl,hfl];rfl
end
set_option maxHeartbeats 16000000
noncomputable def Plain(es:List Expr)(env:Env)(pos:Pos):Prop:=(backTo pos (starEach es env)).any (·.1)=false
theorem oy{env:Env}(h:starEach (e::es) env=(false,eval e env)::starEach es env)(k:Plain es env pos):Plain (e::es) env pos:=by unfold Plain at k ⊢;rw[h];simpa[backTo] using k
noncomputable def SX(g:dO)(X:Cx)(e:Expr)(x:Ex):Prop:=PE X e (tE X.K (run g x))/\PT X e (tT X.K (run g x))
noncomputable def SE(T:Tab)(g:dO)(n:Nat):Prop:=∀{X:Cx}{sc:Scope}{N:List Str}{e:Expr}{x:Ex},Ctx T g X sc N->cE T n sc N e=some x->SX g X e x
noncomputable def AF(T:Tab)(g:dO)(n:Nat):Prop:=∀{X:Cx}{sc:Scope}{N:List Str}{es:List Expr}{xs:List Ex},Ctx T g X sc N->rm T n sc N es=some xs->
 PA X es (tA X.K (runs g xs))/\es.length=xs.length/\(∀pos,Plain es X.env pos)/\∀e r,es=e::r->starEach (e::r) X.env=(false,eval e X.env)::starEach r X.env/\∀pos,Plain r X.env pos
noncomputable def SC(T:Tab)(g:dO)(n:Nat):Prop:=∀{X:Cx}{sc scope:Scope}{N:List Str}{x:Str}{elt src:Expr}{ifs:List Expr}{y:Ex}{px:Pos},Ctx T g X sc N->cq sc scope N x=true->
 (kO T n sc N false src x elt ifs scope=some y->eY g X x px src ifs elt scope y)/\
 (∀p3 p4,bO sc "range"=true->kO T n sc N true src x elt ifs scope=some y->eY g X x px (.Call (.Name "range" p3) [src] [] p4) ifs elt scope y)
theorem sf{T:Tab}{g:dO}(h:SE T g n)(hs:AF T g n):AF T g (n+1):=by
 intro X sc N es xs C e;cases es with
 |nil=>cases e;refine⟨fo.imp λσ H Q hp=>?_,rfl,λpos=>rfl,λ_ _ z=>nomatch z⟩;obtain⟨ι,st,loc,S,L,P⟩:=hp;rw[runs] at P;exact P H ι [] (Ext.refl _ _ _) S .nil
 |cons a0 as0=>
  obtain⟨e1,e2,e⟩:=bs e;obtain⟨r1,r2,rfl⟩:=map_some e;have h1:=h C e2;obtain⟨h2,h3,h4,_⟩:=hs C r2;have st:=cO e2 as0 X.env;refine⟨(cJ h1.1 h2 st).imp λσ H Q hp=>?_,by simp[h3],λpos=>oy st (h4 pos),λa b z=>by cases z;exact⟨st,h4⟩⟩
  obtain⟨ι,st,loc,S,L,P⟩:=hp;rw[runs] at P;obtain⟨d,st1,e1,P⟩:=nI P;obtain⟨ds,st2,e2,P⟩:=nI P;exact bn S L e1 λH1 ι1 v E1 S1 r1=>jm S1 (L.ext E1) e2 λH2 ι2 vs E2 S2 r2=>P H2 ι2 (v::vs) (E1.trans E2) S2 (.cons (r1.ext E2) r2)
theorem u5{T:Tab}{g:dO}(h:SE T g n):SC T g (n+1):=by
 intro X sc scope N x elt src ifs y px C hc
 have k:∀{b:Bool},kO T (n+1) sc N b src x elt ifs scope=some y->∃s' e',cE T n sc N src=some s'/\(∀fp s H,PE (bG X x scope fp s H) elt (tE X.K (run g e')))/\((ifs=[]/\y=.comp b s' e')∨∃c c',ifs=[c]/\b=false/\(∀fp s H,PT (bG X x scope fp s H) c (tT X.K (run g c')))/\y=.compIf s' c' e'):=by
  intro b e;obtain⟨s',e1,e⟩:=bs e;obtain⟨e',e2,e⟩:=bs e;rcases ifs with _|⟨c,_|⟨c2,r⟩⟩
  ·cases e;exact⟨s',e',e1,λfp s H=>(h (fK C hc fp s H) e2).1,.inl ⟨rfl,rfl⟩⟩
  ·obtain⟨hb,e⟩:=ff e;obtain⟨c',e3,rfl⟩:=map_some e;exact⟨s',e',e1,λfp s H=>(h (fK C hc fp s H) e2).1,.inr ⟨c,c',rfl,hb,λfp s H=>(h (fK C hc fp s H) e3).2,rfl⟩⟩
  ·cases e
 refine⟨λe=>?_,λp3 p4 hg e=>?_⟩
 ·obtain⟨s',e',e1,h2,⟨rfl,rfl⟩|⟨c,c',rfl,_,h3,rfl⟩⟩:=k e
  ·exact yD C hc (h C e1).1 h2 (hU e1 X.env)
  ·exact t6 C hc (h C e1).1 h3 h2 (hU e1 X.env)
 ·obtain⟨s',e',e1,h2,⟨rfl,rfl⟩|⟨c,c',_,hb,_⟩⟩:=k e
  ·exact v3 C hc hg (cO e1 [] X.env) (h C e1).1 h2
  ·cases hb
theorem both{m:Loc->M D}(h:PE X e (tE X.K m))(he:∀whole,isTrue e X.env whole=(do let v <-whole;standAt e.pos;holding [v] (truthy v))):PE X e (tE X.K m)/\PT X e (tT X.K m):=⟨h,sD h he⟩
theorem ql{T:Tab}{g:dO}(h:SE T g n)(hc:SC T g n){gens:List Comprehension}{y:Ex}(C:Ctx T g X sc N)(ex:cE T (n+1) sc N (.ListComp elt gens scope pos)=some y){G:Prop}
  (k1:∀x px it ifs,gens=[⟨.Name x px,it,ifs,0⟩]->T.calm=true->cq sc scope N x=true->eY g X x px it ifs elt scope y->G)
  (k2:∀x z px py k pt it ifs,gens=[⟨.Tuple [.Name x px,.Name z py] k pt,it,ifs,0⟩]->T.calm=true->dk sc scope N x z=true->gt g X x z px py k pt it ifs elt scope y->G):G:=by
 obtain⟨q,hg,ex⟩:=bs ex;have hg:=tR hg;obtain⟨t,it,ifs⟩:=q;rcases qI ex with⟨x,hx,ex⟩|⟨_,ex⟩
 ·obtain⟨px,e⟩:=cK hx;cases e;obtain⟨⟨hcm,hk⟩,ex⟩:=ff ex;refine k1 x px it ifs hg hcm hk ?_;rcases qI ex with⟨z,hz,ex⟩|⟨_,ex⟩
  ·obtain⟨d,p1,p2,p3,p4,p5,p6,e1,e2,e3,e4⟩:=tz hz;obtain⟨⟨d0,i0⟩,n1,ex⟩:=bs ex;obtain⟨⟨k0,j0⟩,n2,ex⟩:=bs ex;obtain⟨⟨d1,i1⟩,n3,ex⟩:=bs ex;obtain⟨⟨k1,j1⟩,n4,ex⟩:=bs ex;obtain⟨⟨hi,hj,hx⟩,ex⟩:=ff ex;cases ex;obtain⟨a1,b1,c1,d1'⟩:=gL n1;obtain⟨a2,b2,c2,d2⟩:=gL n2;obtain⟨a3,b3,c3,d3⟩:=gL n3;obtain⟨a4,b4,c4,d4⟩:=gL n4;dsimp only at*;rw[e3] at b1 b3;rw[e2] at b1 b3;cases b1;cases b3;rw[b2] at b4;cases b4;rw[hi] at d3;rw[hj] at d4;rw[e1,e2,e4,b2];exact Ao C hk c1 c2 d1' d2 c3 c4 (.inl hx) d3 d4
  rcases qI ex with⟨⟨r,a⟩,hr,ex⟩|⟨_,ex⟩
  ·obtain⟨p3,p4,e⟩:=kM hr;cases e;rcases Bl ex with⟨⟨e,hg2⟩,ex⟩|ex
   ·cases e;exact(hc C hk).2 _ _ hg2 ex
   ·exact(hc C hk).1 ex
  ·exact(hc C hk).1 ex
 ·obtain⟨⟨x,z⟩,hz,ex⟩:=bs ex;obtain⟨⟨hk,hcm⟩,ex⟩:=ff ex;obtain⟨_,_,_,_,e⟩:=qG hz;cases e;obtain⟨e',e2,ex⟩:=bs ex;have he:=λfp s H=>(h (kJ C hk fp s H) e2).1;refine k2 _ _ _ _ _ _ _ _ hg hcm hk ?_;cases ifs with
  |cons=>cases ex
  |nil=>obtain⟨a',e1,rfl⟩:=map_some ex;exact vZ C hcm hk (h C e1).1 (hU e1 X.env) he
theorem vX{T:Tab}{g:dO}{o':Ex}{m:Str}{xs:List Ex}(C:Ctx T g X sc N)(hl:(ap.endLine==pos.line)=true)(hz:args.length<29)(hb:attributeBase o m X.env (eval o X.env)=eval o X.env)(ho:PE X o (tE X.K (run g o')))
  (hA:PA X args (tA X.K (runs g xs))/\args.length=xs.length/\(∀pos,Plain args X.env pos)/\∀e r,args=e::r->starEach (e::r) X.env=(false,eval e X.env)::starEach r X.env/\∀pos,Plain r X.env pos):PE X (.Call (.Attribute o m ap) args [] pos) (tE X.K (run g (.meth o' m (T.ims m) xs))):=by
 obtain⟨h1,h2,h0,h3⟩:=hA;cases args with
 |nil=>have:xs=[]:=List.length_eq_zero_iff.mp h2.symm;subst this;exact vY C hl hb ho
 |cons a as=>obtain⟨h4,h5⟩:=h3 _ _ rfl;exact yA C hl hz hb ho h1 h4 (h5 _) (h0 _)
theorem u3{T:Tab}{g:dO}(h:SE T g n)(hs:AF T g n){fp:Pos}{x:Ex}(C:Ctx T g X sc N)(ex:cE T (n+1) sc N (.Call (.Name f fp) args [] cp)=some x):SX g X (.Call (.Name f fp) args [] cp) x:=by
 obtain⟨hg,ex⟩:=ff ex;rcases qI ex with⟨o,hr,ex⟩|⟨_,ex⟩
 ·obtain⟨hcm,ex⟩:=ff ex;obtain⟨o',ha,rfl⟩:=map_some ex;obtain⟨rfl,hr⟩:=ff hr;obtain⟨c,h1,hr⟩:=bs hr;cases cj h1;obtain⟨ap,cp',rfl,h4,h5⟩:=mS hr;exact both (Ak C hcm hg h4 (eR h5 _ _) (h C ha).1) λ_=>rfl
 cases args with
 |nil=>cases ex
 |cons a as=>
  have kk:∀{xs:List Ex},rm T n sc N (a::as)=some xs->PA X (a::as) (tA X.K (runs g xs))/\(a::as).length=xs.length/\starEach (a::as) X.env=(false,eval a X.env)::starEach as X.env/\∀pos,Plain as X.env pos:=λhx=>by obtain⟨h1,h2,_,h3⟩:=hs C hx;exact⟨h1,h2,h3 _ _ rfl⟩
  rcases qI ex with⟨i,hi,ex⟩|⟨_,ex⟩
  ·obtain⟨xs,hx,rfl⟩:=map_some ex;obtain⟨h1,h2,h4,h5⟩:=kk hx;exact both (By C hg hi h1 h2 h4 (h5 _)) λ_=>rfl
  rcases qI ex with⟨j,hj,ex⟩|⟨_,ex⟩
  ·obtain⟨xs,hx,rfl⟩:=map_some ex;obtain⟨h1,_,h4,h5⟩:=kk hx;exact both (Am C hg hj h1 h4 (h5 _)) λ_=>rfl
  rcases qI ex with⟨b,hb,ex⟩|⟨_,ex⟩
  ·obtain⟨hcm,ex⟩:=ff ex;obtain⟨xs,hx,rfl⟩:=map_some ex;obtain⟨h1,_,h4,h5⟩:=kk hx;exact both (Bz C hcm hg hb h1 h4 (h5 _)) λ_=>rfl
  obtain⟨hf,ex⟩:=ff ex;obtain⟨t',h1,ex⟩:=bs ex;obtain⟨t,h2,ex⟩:=bs ex;obtain⟨⟨hgt,hi⟩,ex⟩:=ff ex;obtain⟨a',ha,rfl⟩:=map_some ex;cases cj h1;obtain⟨_,rfl⟩:=cK h2;subst hf;exact both (Ap C hg hgt hi (h C ha).1 (cO ha _ _)) λ_=>rfl
theorem uZ{T:Tab}{g:dO}(h:SE T g n)(hs:AF T g n)(hc:SC T g n)(hd:SD T g n):SE T g (n+1):=by
 intro X sc N e x C ex;cases e with
 |Constant k _ _=>
  cases k with
  |int=>cases ex;exact both (gY (X:=X) (g:=g) sO (d:= .int _) (λ_ _ _=>.int _)) λ_=>rfl
  |str=>cases ex;exact both (gY (X:=X) (g:=g) sL (d:= .str _) (λ_ _ _=>.str _)) λ_=>rfl
  |bool=>cases ex;exact both (gY (X:=X) (g:=g) zO (d:= .bl _) (λ_ _ _=>.bl _)) λ_=>rfl
  |none=>cases ex;exact both (gY (X:=X) (g:=g) xI (d:= .non) (λ_ _ _=>.non)) λ_=>rfl
  |_=>cases ex
 |Name y _=>
  obtain⟨k,q,ex⟩:=bs ex;cases k with
  |«local»=>obtain⟨i,hi,rfl⟩:=map_some ex;exact both (t5 C hi (.inl q)) λ_=>rfl
  |cell=>obtain⟨i,hi,rfl⟩:=map_some ex;exact both (t5 C hi (.inr (.inl q))) λ_=>rfl
  |free=>obtain⟨i,hi,rfl⟩:=map_some ex;exact both (t5 C hi (.inr (.inr q))) λ_=>rfl
  |globalImplicit=>
   obtain⟨d,hd,rfl⟩:=map_some ex;obtain⟨a1,u,v,a2,a3,a4⟩:=C.csts _ _ hd;exact both (gY (pH (by show X.env.scope.names.lookup _=_;rw[C.sc];exact q) a2 a3 a1) a4) λ_=>rfl
  |_=>cases ex
 |Tuple es _ _=>obtain⟨hz,ex⟩:=ff ex;obtain⟨xs,hx,rfl⟩:=map_some ex;obtain⟨h1,h2,_⟩:=hs C hx;exact both (wJ h1 hz h2) λ_=>rfl
 |List es _=>obtain⟨hz,ex⟩:=ff ex;obtain⟨xs,hx,rfl⟩:=map_some ex;obtain⟨h1,h2,_⟩:=hs C hx;exact both (An h1 hz h2) λ_=>rfl
 |Dict ks vs _=>
  cases ks with
  |nil=>
   cases vs with
   |nil=>cases ex;exact both (As (X:=X) (g:=g)) λ_=>rfl
   |cons=>cases ex
  |cons k ks=>obtain⟨ks',hk,ex⟩:=bs ex;obtain⟨vs',he,ex⟩:=bs ex;obtain⟨hl,ex⟩:=ff ex;cases ex;exact both (yB hd C hk he hl.1 hl.2.1 hl.2.2) λ_=>rfl
 |BinOp a op b _=>obtain⟨a',e1,ex⟩:=bs ex;obtain⟨o,e2,ex⟩:=bs ex;obtain⟨b',e3,rfl⟩:=map_some ex;exact both (Av e2 (h C e1).1 (h C e3).1) λ_=>rfl
 |UnaryOp op a _=>
  cases op with
  |Not=>obtain⟨a',ha,rfl⟩:=map_some ex;exact⟨Al (h C ha).1,zf (h C ha).2⟩
  |_=>cases ex
 |BoolOp op es p=>
  rcases es with _|⟨a,_|⟨b,r⟩⟩
  ·cases ex
  ·exact⟨xG (h C ex).1,ze (h C ex).2⟩
  ·obtain⟨a',e1,ex⟩:=bs ex;obtain⟨b',e2,rfl⟩:=map_some ex;cases op with
   |And=>exact⟨Aw (h C e1).1 (h C e2).1,zh (h C e1).2 (h C e2).2⟩
   |Or=>exact⟨Bw (h C e1).1 (h C e2).1,AV (h C e1).2 (h C e2).2⟩
 |Compare a ops bs' _=>
  rcases qI ex with⟨o,hk,ex⟩|⟨_,ex⟩
  ·obtain⟨hcm,ex⟩:=ff ex;obtain⟨a',e1,ex⟩:=bs ex;obtain⟨o',e2,rfl⟩:=map_some ex;obtain⟨op,ho,hk⟩:=bs hk;cases op with
   |In=>obtain⟨b,hb,hk⟩:=bs hk;cases cj ho;cases cj hb;obtain⟨ap,cp',rfl,h4,h5⟩:=mS hk;exact Aq C hcm h4 (eR h5 _ _) (h C e1).1 (h C e2).1
   |_=>cases hk
  rcases qI ex with⟨op,ho,ex⟩|⟨_,ex⟩
  ·obtain⟨b,hb,ex⟩:=bs ex;obtain⟨a',e1,ex⟩:=bs ex;obtain⟨b',e2,rfl⟩:=map_some ex;cases cj ho;cases cj hb;exact⟨Au C.un (g_ e2 _) (h C e1).1 (h C e2).1,zg C.un (g_ e2 _) (h C e1).1 (h C e2).1⟩
  ·obtain⟨o,ho,ex⟩:=bs ex;obtain⟨b,hb,ex⟩:=bs ex;obtain⟨a',e1,ex⟩:=bs ex;obtain⟨b',e2,ex⟩:=bs ex;obtain⟨c',e3,rfl⟩:=map_some ex;cases dm ho;cases dm hb;exact⟨v4 C.un (g_ e3 _) (h C e1).1 (h C e2).1 (h C e3).1,uS C.un (g_ e3 _) (h C e1).1 (h C e2).1 (h C e3).1⟩
 |Subscript a b _=>
  rcases qI ex with⟨⟨lo,hi⟩,hq,ex⟩|⟨_,ex⟩
  ·obtain⟨p,rfl⟩:=uW hq;cases lo with
   |none=>obtain⟨hh,e0,ex⟩:=bs ex;cases e0;obtain⟨a',e1,ex⟩:=bs ex;obtain⟨h',e2,rfl⟩:=map_some ex;exact both (yx (h C e1).1 pF (i7 (h C e2).1) pJ gK) λ_=>rfl
   |some l=>
    obtain⟨a',e1,ex⟩:=bs ex;obtain⟨l',e2,ex⟩:=bs ex;cases hi with
    |none=>cases ex;exact both (yx (h C e1).1 (i7 (h C e2).1) pF gK pJ) λ_=>rfl
    |some hh=>obtain⟨h',e3,rfl⟩:=map_some ex;exact both (yx (h C e1).1 (i7 (h C e2).1) (i7 (h C e3).1) gK gK) λ_=>rfl
  obtain⟨hp,ex⟩:=ff ex;obtain⟨a',e1,ex⟩:=bs ex;obtain⟨b',e2,rfl⟩:=map_some ex;exact both (Bx C.un hp (h C e1).1 (h C e2).1) λ_=>rfl
 |Call f args kws cp=>
  cases kws with
  |cons=>cases ex
  |nil=>
   cases f with
   |Name f _=>exact u3 h hs C ex
   |Attribute o m ap=>
    obtain⟨hm,ex⟩:=ff ex;simp only[Bool.and_eq_true,decide_eq_true_eq] at hm;obtain⟨o',e1,ex⟩:=bs ex;rcases Bl ex with⟨hpm,ex⟩|ex
    ·obtain⟨a,ha,ex⟩:=bs ex;obtain⟨hz,ex⟩:=ff ex;cases ex;cases cj ha;obtain⟨_,_,rfl⟩:=oJ hz;exact both (yz hpm hm.1.2 (eR hm.1.1 _ _) (h C e1).1) λ_=>rfl
    rcases Bl ex with⟨hgm,ex⟩|ex
    ·obtain⟨z,hz,ex⟩:=bs ex;obtain⟨b',e2,ex⟩:=bs ex;obtain⟨c',e3,rfl⟩:=map_some ex;cases dm hz;subst hgm;exact both (yC C hm.1.2 (eR hm.1.1 _ _) (cO e2 _ _) (cO e3 [] _) (h C e1).1 (h C e2).1 (h C e3).1) λ_=>rfl
    ·obtain⟨as',e2,rfl⟩:=map_some ex;exact both (vX C hm.1.2 hm.2 (eR hm.1.1 _ _) (h C e1).1 (hs C e2)) λ_=>rfl
   |_=>cases ex
 |ListComp elt gens scope pos=>
  exact ql h hc C ex (λx px it ifs e hcm hk hd=>by cases e;exact both (hd.pe C hcm hk) λ_=>rfl) λx z px py k pt it ifs e hcm hk hd=>by cases e;exact both (hd.pe C hcm hk) λ_=>rfl
 |Attribute o f _=>obtain⟨hf,ex⟩:=ff ex;obtain⟨o',ho,rfl⟩:=map_some ex;exact both (Ar C (eR hf _ _) (h C ho).1) λ_=>rfl
 |_=>cases ex
theorem sound(T:Tab)(g:dO):∀n,SE T g n/\AF T g n/\SC T g n/\SD T g n
 |0=>by
  refine⟨?_,?_,?_,?_⟩
  ·intro X sc N e x C h;cases h
  ·intro X sc N e x C h;cases h
  ·intro X sc scope N x elt src ifs y px C hc;exact⟨λh=>(by cases h),λ_ _ _ h=>(by cases h)⟩
  ·intro X sc N es xs ks keys pos C h;cases h
 |n+1=>by obtain⟨a,b,c,d⟩:=sound T g n;exact⟨uZ a b c d,sf a b,u5 a,u4 (λC e=>(a C e).1) d⟩
noncomputable def isLocal(sc:Scope)(x:Str):Bool:=sc.names.lookup x==some .local||sc.names.lookup x==some .cell
noncomputable def tH:Expr->Bool
 | .ListComp .. =>true
 |_=>false
noncomputable def zX:Expr->Bool
 | .Name .. =>true
 | .Call .. =>true
 | .Subscript .. =>true
 |_=>false
noncomputable def jE(s:Str):Bool:=s== "append"
noncomputable def vJ:Expr->Bool
 | .Name .. =>true
 | .Call .. =>true
 | .Subscript .. =>true
 | .Constant .. =>true
 | .BinOp .. =>true
 | .Attribute .. =>true
 | .List .. =>true
 | .Tuple .. =>true
 | .Dict .. =>true
 | .UnaryOp .. =>true
 | .Compare .. =>true
 |_=>false
noncomputable def nW(sc:Scope)(N:List Str):List Expr->Option (List Nat)
 |[]=>some []
 |e::r=>(rj e).bind λx=>if isLocal sc x=true then(di N x).bind λi=>(nW sc N r).map λis=>i::is else none
noncomputable def AD(f:Str->Bool):Expr->Option (Expr×Expr)
 | .Call (.Attribute o m ap) as ks cp=>(match ks with
  |[]=>(one as).bind λa=>if(f m&&(ap.endLine==cp.line)&&eB o)=true then some (o,a) else none
  |_=>none)
 |_=>none
theorem ut{f:Str->Bool}(h:AD f e=some z):∃m ap cp,e= .Call (.Attribute z.1 m ap) [z.2] [] cp/\(f m&&(ap.endLine==cp.line)&&eB z.1)=true:=by
 cases e with
 |Call f as ks cp=>
  cases f with
  |Attribute o m ap=>
   cases ks with
   |cons=>cases h
   |nil=>obtain⟨a,h1,h⟩:=bs h;obtain⟨h2,h⟩:=ff h;cases h;cases cj h1;exact⟨m,ap,cp,rfl,h2⟩
  |_=>cases h
 |_=>cases h
mutual
noncomputable def cS(T:Tab)(n:Nat)(sc:Scope)(N:List Str)(s:Stmt):Option S:=match n with
 |0=>none
 |n+1=>match s with
  | .Assign ts e _=>(one ts).bind λt=>match t with
   | .Name x _=>if isLocal sc x=true then(di N x).bind λi=>(cE T n sc N e).map λe'=>.set i e' else none
   | .Subscript o i _=>if gJ i=true/\vJ e=true then(cE T n sc N o).bind λo'=>(cE T n sc N i).bind λi'=>(cE T n sc N e).map λe'=>.setix o' i' e' else none
   | .Attribute o f _=>if vJ e=true then(cE T n sc N o).bind λo'=>(cE T n sc N e).map λe'=>.setf o' f e' [] (T.ics f) else none
   | .Tuple ts _ _=>if T.calm=true then(nW sc N ts).bind λis=>(cE T n sc N e).bind λe'=>if zX e=true then some (.unp is e') else none else none
   |_=>none
  | .Return o _=>(match o with
   |some e=>some ((cE T n sc N e).elim .stop .ret)
   |none=>none)
  | .Expr e _=>(AD jE e).bind λq=>(cE T n sc N q.1).bind λo'=>(cE T n sc N q.2).map λe'=>.app o' e'
  | .If c a b _=>(cE T n sc N c).bind λc'=>(wK T n sc N a).bind λa'=>(wK T n sc N b).map λb'=>.ite c' a' b'
  | .For t it body els _=>(match els with
   |[]=>(match t with
   | .Name x _=>if isLocal sc x=true/\T.calm=true then(di N x).bind λi=>(wK T n sc N body).bind λb'=>(zH sc it).elim ((rng2 sc it).elim ((cE T n sc N it).map λa'=>.for_ i false a' b') λp=>(cE T n sc N p.1).bind λa'=>(cE T n sc N p.2).map λc'=>.for2 i a' c' b') λa=>(cE T n sc N a).map λa'=>.for_ i true a' b' else none
   | .Tuple ts _ _=>if T.calm=true then(nW sc N ts).bind λis=>(wK T n sc N body).bind λb'=>(y7 sc it).elim ((cE T n sc N it).map λa'=>.forU is a' b') λp=>(cE T n sc N p.1).bind λa'=>(cE T n sc N p.2).map λc'=>.forZ is a' c' b' else none
   |_=>none)
   |_=>none)
  | .While c body els _=>(match els with
   |[]=>(cE T n sc N c).bind λc'=>(wK T n sc N body).map λb'=>.whil c' b'
   |_=>none)
  |_=>none
noncomputable def wK(T:Tab)(n:Nat)(sc:Scope)(N:List Str)(ss:List Stmt):Option (List S):=match n with
 |0=>none
 |n+1=>match ss with
  |[]=>some []
  |s::r=>(wK T n sc N r).map λr'=>(cS T n sc N s).getD .stop::r'
end
noncomputable def dN(K:av)(Xw:Addr->L2.St->Hp->Prop)(H:Hp)(ι:Nat->Addr)(st:aP)(r:R Fl)(D:Ends):Prop:=match r with
 | .ok (.nx loc) st'=>∀H' ι' σ',Ext H H' ι ι' st.length st'.length->Sim K H' ι' st'->LRel K H' ι' st'.length loc σ'->D.nx σ' H'
 | .ok (.rt d) st'=>∀H' ι' v,Ext H H' ι ι' st.length st'.length->Sim K H' ι' st'->VRel K H' ι' st'.length d v->D.rt v H'
 | .ok (.ex n loc) st'=>∀H' ι' σ',Ext H H' ι ι' st.length st'.length->Sim K H' ι' st'->LRel K H' ι' st'.length loc σ'->Xw (ι' n) σ' H'
 | .bad=>False
noncomputable def tS(K:av)(Xw:Addr->L2.St->Hp->Prop)(m:Loc->M Fl):TS:=λD σ H=>∃ι st loc,Sim K H ι st/\LRel K H ι st.length loc σ/\dN K Xw H ι st (m loc st) D
section
variable{K:av}{Xw:Addr->L2.St->Hp->Prop}{H:Hp}{ι:Nat->Addr}{st:aP}
theorem aX{m:M α}{f:α->M Fl}{st0:aP}{D:Ends}(P:dN K Xw H ι st (ba m f st0) D):∃a st1,m st0=.ok a st1/\dN K Xw H ι st (f a st1) D:=by
 unfold ba at P;cases e:m st0 with
 |ok a st1=>rw[e] at P;exact⟨a,st1,rfl,P⟩
 |bad=>rw[e] at P;exact P.elim
theorem dN.mono{r:R Fl}{D:Ends}{H1:Hp}{st1:aP}(P:dN K Xw H ι st r D)(E:Ext H H1 ι ι1 st.length st1.length):dN K Xw H1 ι1 st1 r D:=by
 cases r with
 |ok f st2=>
  cases f with
  |nx loc=>exact λH' ι' σ' E' S' r'=>P H' ι' σ' (E.trans E') S' r'
  |rt d=>exact λH' ι' v E' S' r'=>P H' ι' v (E.trans E') S' r'
  |ex n loc=>exact λH' ι' σ' E' S' r'=>P H' ι' σ' (E.trans E') S' r'
 |bad=>exact P
end
theorem _root_.L2.PS.imp{X:Cx}{s:Stmt}{t t':TS}(h:PS X s t)(k:∀D σ H,t' D σ H->t D σ H):PS X s t':=λpins s σ H D I q=>h pins s σ H D I (k D σ H q)
theorem _root_.L2.PSs.imp{X:Cx}{s:List Stmt}{t t':TS}(h:PSs X s t)(k:∀D σ H,t' D σ H->t D σ H):PSs X s t':=λpins s σ H D I q=>h pins s σ H D I (k D σ H q)
section
variable{T:Tab}{g:dO}{X:Cx}{sc:Scope}{N:List Str}{pos p2 p3:Pos}{Xw:Addr->L2.St->Hp->Prop}
theorem gh(C:Ctx T g X sc N)(h:isLocal sc x=true):L2.Loc X.env.scope x:=by show X.env.scope.names.lookup x=_∨X.env.scope.names.lookup x=_;rw[C.sc];simpa[isLocal] using h
theorem oo{e':Ex}{D:Ends}(h:tS X.K Xw (exec g (.set i e')) D σ H):nZ (tE X.K (run g e')) (d7 i) D σ H:=by obtain⟨ι,st,loc,S,L,P⟩:=h;rw[exec] at P;obtain⟨d,st1,e1,P⟩:=aX P;exact bn S L e1 λH1 ι1 v E1 S1 r1=>P H1 ι1 _ E1 S1 ((L.ext E1).set i r1)
theorem u6{i:Expr}{o' i' e':Ex}(hu:X.A.units+1<cLine)(hp:gJ i=true)(hn:vJ e=true)(ho:PE X o (tE X.K (run g o')))(hi:PE X i (tE X.K (run g i')))(he:PE X e (tE X.K (run g e'))):PS X (.Assign [.Subscript o i p2] e pos) (tS X.K Xw (exec g (.setix o' i' e'))):=by
 refine((sH he (xD ho hi set_list (λv=>by cases i<;>first|rfl|cases hp)) (by cases e<;>rfl) (by cases e<;>rfl)).or (vg hu ho hi he (by cases e<;>first|rfl|cases hn))).imp λD σ H hp=>?_
 obtain⟨ι,st,loc,S,L,P⟩:=hp;rw[exec] at P;obtain⟨d,st1,e1,P⟩:=aX P;obtain⟨x,st2,e2,P⟩:=aX P;obtain⟨k,st3,e3,P⟩:=aX P;obtain⟨u,st4,e4,P⟩:=aX P;have sz:sizeLine=16777216:=sizeLine_eq;unfold gD at e4;cases x with
 |ref n0=>
  dsimp only at e4;split at e4
  ·rename_i xs q;split at e4
   ·split at e4
    ·rename_i j hj;cases e4;refine .inl (bn S L e1 λH1 ι1 v E1 S1 r1=>bn S1 (L.ext E1) e2 λH2 ι2 vx E2 S2 r2=>bn S2 ((L.ext E1).ext E2) e3 λH3 ι3 vk E3 S3 r3=>?_);have r2':=r2.ext E3;have r1':=(r1.ext E2).ext E3;cases r2' with
     |ref hn=>
      cases r3;obtain⟨vs,g1,g2⟩:=S3.ob _ _ q;have rr:=g2.set j r1';obtain⟨E4,S4⟩:=S3.write q rr;refine⟨_,_,_,j,rfl,rfl,g1,by rw[<-g2.length];exact hj,?_⟩
      have E5:=(E1.trans E2).trans E3;have E4':Ext H3 (bE H3 (ι3 n0) (.lst (vs.set j v))) ι3 ι3 st3.length (st3.set n0 (O.lst (xs.set j d))).length:=by rw[aS];exact E4
      exact P _ ι3 σ (E5.trans E4') S4 (((L.ext E5)).ext E4')
    ·cases e4
   ·cases e4
  ·rename_i kvs q;split at e4
   ·rename_i kk hk;split at e4
    ·rename_i hl;cases e4;refine .inr (bn S L e1 λH1 ι1 v E1 S1 r1=>bn S1 (L.ext E1) e2 λH2 ι2 vx E2 S2 r2=>bn S2 ((L.ext E1).ext E2) e3 λH3 ι3 vk E3 S3 r3=>?_);have r2':=r2.ext E3;have r1':=(r1.ext E2).ext E3;have hv:=i9 hk r3;subst hv;cases r2' with
     |ref hn=>
      obtain⟨vs,g1,g2⟩:=S3.ob _ _ q;have ll:=g2.length;obtain⟨E4,S4⟩:=S3.writeD q (g2.put (k:=kk) r1');refine⟨_,_,rfl,uC.k (k:=kk) g1 (by omega),?_⟩
      have E5:=(E1.trans E2).trans E3;have E4':Ext H3 (bE H3 (ι3 n0) (.dK (putK vs kk v))) ι3 ι3 st3.length (st3.set n0 (O.dct (bS kvs kk d))).length:=by rw[aS];exact E4
      exact P _ ι3 σ (E5.trans E4') S4 (((L.ext E5)).ext E4')
    ·cases e4
   ·cases e4
  ·cases e4
 |_=>cases e4
theorem zx{e':Ex}(he:PE X e (tE X.K (run g e'))):PS X (.Return (some e) pos) (tS X.K Xw (exec g (.ret e'))):=
 (xy he).imp λD σ H hp=>by obtain⟨ι,st,loc,S,L,P⟩:=hp;rw[exec] at P;obtain⟨d,st1,e1,P⟩:=aX P;exact bn S L e1 λH1 ι1 v E1 S1 r1=>P H1 ι1 v E1 S1 r1
theorem si{s₀:Stmt}:PS X s₀ (tS X.K Xw (exec g .stop)):=by intro pins s σ H D I h;obtain⟨ι,st,loc,S,L,P⟩:=h;rw[exec] at P;exact False.elim P
theorem zF{o' e':Ex}{m:Str}(hm:jE m=true)(hl:(ap.endLine==cp.line)=true)(hst:starEach [e] X.env=[(false,eval e X.env)])(hb:attributeBase o m X.env (eval o X.env)=eval o X.env)(ho:PE X o (tE X.K (run g o')))(he:PE X e (tE X.K (run g e'))):
  PS X (.Expr (.Call (.Attribute o m ap) [e] [] cp) pos) (tS X.K Xw (exec g (.app o' e'))):=by
 have hm:m= "append":=by simpa[jE] using hm
 subst hm;refine(vf (ww PySem.F.plainAttrs_list PySem.F.slot_list_append PySem.F.type_list_append ip ho (cJ he fo hst) hb (by rw[hst];rfl) hl hst rfl)).imp λD σ H hp=>?_
 obtain⟨ι,st,loc,S,L,P⟩:=hp;rw[exec] at P;obtain⟨x,st1,e1,P⟩:=aX P;obtain⟨u0,st0,e0,P⟩:=aX P;obtain⟨d,st2,e2,P⟩:=aX P;obtain⟨u,st3,e3,P⟩:=aX P;have sz:sizeLine=16777216:=sizeLine_eq;unfold append at e3;split at e3
 ·rename_i n z1 z0;split at e3
  ·rename_i xs q;split at e3
   ·rename_i hz;cases e3;simp only[mW] at e0;split at e0
    ·rename_i zs q0;cases e0;refine bn S L e1 λH1 ι1 vx E1 S1 r1=>?_;cases r1 with
     |ref hn=>
      obtain⟨ws,w1,_⟩:=S1.ob _ _ q0;refine⟨.inl ⟨rfl,ws,fW.of w1⟩,bn S1 (L.ext E1) e2 λH2 ι2 v E2 S2 r2=>?_⟩;obtain⟨vs,g1,g2⟩:=S2.ob _ _ q;have l:=g2.length;have rr:=g2.append (.cons r2 .nil);obtain⟨E4,S4⟩:=S2.write q rr;rw[E2.ad n hn] at g1 E4 S4;refine⟨_,_,_,rfl,rfl,g1,by omega,?_⟩
      have E5:=E1.trans E2;have E4':Ext H2 (bE H2 (ι1 n) (.lst (vs++[v]))) ι2 ι2 st2.length (st2.set n (O.lst (xs++[d]))).length:=by rw[aS];exact E4
      exact P _ ι2 σ (E5.trans E4') S4 ((L.ext E5).ext E4')
    ·cases e0
   ·cases e3
  ·cases e3
 ·cases e3
theorem Ba{a b:List Stmt}{c':Ex}{a' b':List S}(hc:PT X c (tT X.K (run g c')))(ha:PSs X a (tS X.K Xw (execs g a')))(hb:PSs X b (tS X.K Xw (execs g b'))):PS X (.If c a b pos) (tS X.K Xw (exec g (.ite c' a' b'))):=
 (zL hc ha hb).imp λD σ H hp=>by
  obtain⟨ι,st,loc,S,L,P⟩:=hp;rw[exec] at P;obtain⟨x,st1,e1,P⟩:=aX P;obtain⟨i,st2,e2,P⟩:=aX P;obtain⟨e3,rfl⟩:=bX e2;have:=cb e3;subst this;refine km S L e1 λH1 ι1 E1 S1=>?_;cases i with
  |true=>rw[if_pos rfl];exact⟨ι1,st2,loc,S1,L.ext E1,P.mono E1⟩
  |false=>rw[if_neg aF];exact⟨ι1,st2,loc,S1,L.ext E1,P.mono E1⟩
theorem w6{body:List Stmt}{c':Ex}{b':List S}(hp:PassesOwn (model X.prog X.w) X.A X.env X.xe)(hc:PT X c (tT X.K (run g c')))(hb:PSs X body (tS X.K Xw (execs g b'))):PS X (.While c body [] pos) (tS X.K Xw (exec g (.whil c' b'))):=by
 refine(sG hp hc hb).imp λD σ H hp=>?_;obtain⟨ι,st,loc,S,L,P⟩:=hp;rw[exec] at P;refine⟨λm σ2 H2=>∃ι2 st2 loc2,Ext H H2 ι ι2 st.length st2.length/\Sim X.K H2 ι2 st2/\LRel X.K H2 ι2 st2.length loc2 σ2/\dN X.K Xw H ι st (gc (run g c') (execs g b') m loc2 st2) D,⟨yp,ι,st,loc,Ext.refl _ _ _,S,L,P⟩,?_⟩;rintro m σ2 H2 ⟨ι2,st2,loc2,E2,S2,L2',P2⟩;cases m with
 |zero=>exact P2.elim
 |succ m=>
  rw[gc] at P2;obtain⟨x,st3,e3,P3⟩:=aX P2;obtain⟨b,st4,e4,P4⟩:=aX P3;obtain⟨e5,rfl⟩:=bX e4;have:=cb e5;subst this;refine km S2 L2' e3 λH3 ι3 E3 S3=>?_;cases b with
  |false=>rw[if_neg aF];exact P4 H3 ι3 σ2 (E2.trans E3) S3 (L2'.ext E3)
  |true=>
   rw[if_pos rfl];refine⟨λσ4 H4=>∃ι4 st5 loc5,Ext H H4 ι ι4 st.length st5.length/\Sim X.K H4 ι4 st5/\LRel X.K H4 ι4 st5.length loc5 σ4/\dN X.K Xw H ι st (gc (run g c') (execs g b') m loc5 st5) D,λσ' H' q=>⟨m,aO _,q⟩,?_⟩;rw[if_pos rfl] at P4;obtain⟨r,st6,e6,P6⟩:=aX P4;refine⟨ι3,st4,loc2,S3,L2'.ext E3,?_⟩;rw[e6];cases r with
   |nx loc3=>exact λH4 ι4 σ4 E4 S4 L4=>⟨ι4,st6,loc3,(E2.trans E3).trans E4,S4,L4,P6⟩
   |rt d=>exact λH4 ι4 w E4 S4 r4=>P6 H4 ι4 w ((E2.trans E3).trans E4) S4 r4
   |ex n l=>exact λH4 ι4 σ4 E4 S4 L4=>P6 H4 ι4 σ4 ((E2.trans E3).trans E4) S4 L4
noncomputable def l7:List Nat->uG
 |[]=>vT
 |i::is=>kC (d7 i) (l7 is)
theorem gN(C:Ctx T g X sc N)(hfn:∀y,X.fn y=true):∀{ts:List Expr}{is:List Nat},nW sc N ts=some is->yW X ts (l7 is)/\(assignEach ts X.env).length=is.length/\(assignEach ts X.env).findIdx? (·.1)=none
 |[],is,h=>by cases h;exact⟨pG,rfl,rfl⟩
 |t::r,is,h=>by
  obtain⟨x,hx,h⟩:=bs h;obtain⟨hl,h⟩:=ff h;obtain⟨i,hi,h⟩:=bs h;obtain⟨is',hr,rfl⟩:=map_some h;obtain⟨px,rfl⟩:=cK hx;obtain⟨h1,h2,h3⟩:=gN C hfn hr;refine⟨jw (fR (i:=i) (by rw[C.n];exact C.nd) (by rw[C.n];exact b6 hi) (gh C hl) (.inl (hfn x))) h1 rfl,?_,?_⟩
  ·show(assignEach r X.env).length+1=is'.length+1;rw[h2]
  ·show(((false,assign (.Name x px) X.env)::assignEach r X.env).findIdx? (·.1))=none;rw[List.findIdx?_cons,h3];rfl
theorem jB{K:av}{H:Hp}{ι:Nat->Addr}{m:Nat}{Q:L2.St->Hp->Prop}:∀{is:List Nat}{ds:List D}{vs:List V}{loc:Loc}{σ:L2.St},VRels K H ι m ds vs->ds.length=is.length->LRel K H ι m loc σ->(∀σ',LRel K H ι m (gE is ds loc) σ'->Q σ' H)->l7 is vs σ H Q
 |[],_,_,_,_,.nil,_,L,k=>⟨rfl,k _ L⟩
 |i::is,_,_,_,_,.cons (v:=v) (vs:=vs) h t,hl,L,k=>⟨v,vs,rfl,jB t (by simpa using hl) (L.set i h) k⟩
 |[],_,_,_,_,.cons _ _,hl,_,_=>by simp at hl
 |_::_,_,_,_,_,.nil,hl,_,_=>by simp at hl
theorem zw{e':Ex}{k:Nat}(C:Ctx T g X sc N)(hcm:T.calm=true)(hfn:∀y,X.fn y=true)(hn:zX e=true)(ht:nW sc N ts=some is)(he:PE X e (tE X.K (run g e'))):PS X (.Assign [.Tuple ts k p2] e pos) (tS X.K Xw (exec g (.unp is e'))):=by
 obtain⟨h1,h2,h3⟩:=gN C hfn ht;refine(sH he (oA (C.calm hcm) h1 h2 h3) (by cases e<;>first|rfl|cases hn) (by cases e<;>first|rfl|cases hn)).imp λD σ H hp=>?_
 obtain⟨ι,st,loc,S,L,P⟩:=hp;rw[exec] at P;obtain⟨d,st1,e1,P⟩:=aX P;obtain⟨ds,st2,e2,P⟩:=aX P;refine bn S L e1 λH1 ι1 v E1 S1 r1=>?_;unfold items? at e2;split at e2
 ·rename_i xs es;split at e2
  ·rename_i hl;cases e2;obtain⟨a,vs,rfl,hq,rv⟩:=r1.seq S1 es;exact⟨a,vs,rfl,hq,by rw[<-rv.length];exact hl,jB rv hl (L.ext E1) λσ' L'=>P H1 ι1 σ' E1 S1 L'⟩
  ·cases e2
 ·cases e2
theorem jK{s:Src}{st st0:aP}{H0:Hp}{loc:Loc}{D:Ends}{b':List S}
  (F:cr X.K J s H ι st.length)(E0:Ext H0 H ι0 ι st0.length st.length)(Sm:Sim X.K H ι st)(L:LRel X.K H ι st.length loc σ)(P:dN X.K Xw H0 ι0 st0 (d8 (λx loc'=>execs g b' (loc'.set i (some x))) s loc st) D):
  ∃W:Nat->Nat->L2.St->Hp->Prop,(∃m,W 0 m σ H)/\∀k m σ H,W k m σ H->
   (J.stop k H/\D.nx σ H)∨(J.go k H/\∃Nn:L2.St->Hp->Prop,(∀σ' H',Nn σ' H'->∃m',m'<m/\W (k+1) m' σ' H')/\∀x H',J.yld k H x H'->d7 i x σ H' λσ2 H2=>tS X.K Xw (execs g b') {D with nx:=Nn,ct:=Nn,bk:=D.nx} σ2 H2):=by
 refine⟨λk m σ2 H2=>∃ι2 st2 loc2,Ext H H2 ι ι2 st.length st2.length/\Sim X.K H2 ι2 st2/\LRel X.K H2 ι2 st2.length loc2 σ2/\dN X.K Xw H0 ι0 st0 (iY (λx loc'=>execs g b' (loc'.set i (some x))) s m k loc2 st2) D,⟨dA s st+1,ι,st,loc,Ext.refl _ _ _,Sm,L,P⟩,?_⟩;rintro k m σ2 H2 ⟨ι2,st2,loc2,E2,S2,L2',P2⟩;obtain⟨c1,c2⟩:=F H2 ι2 st2 k E2 S2;cases m with
 |zero=>exact P2.elim
 |succ m=>
  simp only[iY] at P2;cases en:im s k st2 with
  |none=>rw[en] at P2;exact P2.elim
  |some ox=>
   rw[en] at P2;cases ox with
   |none=>exact .inl ⟨c1 en,P2 H2 ι2 σ2 (E0.trans E2) S2 L2'⟩
   |some x=>
    obtain⟨hgo,hyl⟩:=c2 x en;refine .inr ⟨hgo,λσ3 H3=>∃ι3 st3 loc3,Ext H H3 ι ι3 st.length st3.length/\Sim X.K H3 ι3 st3/\LRel X.K H3 ι3 st3.length loc3 σ3/\dN X.K Xw H0 ι0 st0 (iY (λx loc'=>execs g b' (loc'.set i (some x))) s m (k+1) loc3 st3) D,λσ' H' q=>⟨m,aO _,q⟩,λv H' y=>?_⟩;obtain⟨rfl,rv⟩:=hyl v H' y;obtain⟨r,st3,e3,P3⟩:=aX P2;refine⟨ι2,st2,loc2.set i (some x),S2,L2'.set i rv,?_⟩;rw[e3];cases r with
    |nx loc3=>exact λH3 ι3 σ3 E3 S3 L3=>⟨ι3,st3,loc3,E2.trans E3,S3,L3,P3⟩
    |rt d=>exact λH3 ι3 w E3 S3 r3=>P3 H3 ι3 w ((E0.trans E2).trans E3) S3 r3
    |ex n l=>exact λH3 ι3 σ3 E3 S3 L3=>P3 H3 ι3 σ3 ((E0.trans E2).trans E3) S3 L3
theorem jc{f:D->Loc->M Fl}{loc:Loc}(n:Nat)(st:aP)(h:∀xs,st[n]?≠some (.lst xs)):d8 f (.at n) loc st=.bad:=by unfold d8;simp only[iY,pK h]
theorem jb{s:Src}{st st0:aP}{H0:Hp}{loc:Loc}{D:Ends}{b':List S}
  (F:j4 X.K J s H ι st.length)(E0:Ext H0 H ι0 ι st0.length st.length)(Sm:Sim X.K H ι st)(L:LRel X.K H ι st.length loc σ)(P:dN X.K Xw H0 ι0 st0 (d8 (λx loc'=>ba (items? is.length x) λds=>execs g b' (gE is ds loc')) s loc st) D):
  ∃W:Nat->Nat->L2.St->Hp->Prop,(∃m,W 0 m σ H)/\∀k m σ H,W k m σ H->
   (J.stop k H/\D.nx σ H)∨(J.go k H/\∃Nn:L2.St->Hp->Prop,(∀σ' H',Nn σ' H'->∃m',m'<m/\W (k+1) m' σ' H')/\∀x H',J.yld k H x H'->Af X.K is.length (l7 is) x σ H' λσ2 H2=>tS X.K Xw (execs g b') {D with nx:=Nn,ct:=Nn,bk:=D.nx} σ2 H2):=by
 refine⟨λk m σ2 H2=>∃ι2 st2 loc2,Ext H H2 ι ι2 st.length st2.length/\Sim X.K H2 ι2 st2/\LRel X.K H2 ι2 st2.length loc2 σ2/\dN X.K Xw H0 ι0 st0 (iY (λx loc'=>ba (items? is.length x) λds=>execs g b' (gE is ds loc')) s m k loc2 st2) D,⟨dA s st+1,ι,st,loc,Ext.refl _ _ _,Sm,L,P⟩,?_⟩;rintro k m σ2 H2 ⟨ι2,st2,loc2,E2,S2,L2',P2⟩;obtain⟨c1,c2⟩:=F H2 ι2 st2 k E2 S2;cases m with
 |zero=>exact P2.elim
 |succ m=>
  simp only[iY] at P2;cases en:im s k st2 with
  |none=>rw[en] at P2;exact P2.elim
  |some ox=>
   rw[en] at P2;cases ox with
   |none=>exact .inl ⟨c1 en,P2 H2 ι2 σ2 (E0.trans E2) S2 L2'⟩
   |some x=>
    obtain⟨hgo,hyl⟩:=c2 x en;refine .inr ⟨hgo,λσ3 H3=>∃ι3 st3 loc3,Ext H H3 ι ι3 st.length st3.length/\Sim X.K H3 ι3 st3/\LRel X.K H3 ι3 st3.length loc3 σ3/\dN X.K Xw H0 ι0 st0 (iY (λx loc'=>ba (items? is.length x) λds=>execs g b' (gE is ds loc')) s m (k+1) loc3 st3) D,λσ' H' q=>⟨m,aO _,q⟩,λv H' y=>?_⟩;obtain⟨EH,SH,rv⟩:=hyl v H' y;have EH2:=E2.trans EH;have L3':=L2'.ext EH;obtain⟨r,st3,e3,P3⟩:=aX P2;unfold items? at e3;cases es:bp st2 x with
    |none=>simp only[ba,es] at e3;cases e3
    |some xs=>
     by_cases hl:xs.length=is.length
     ·have e4:execs g b' (gE is xs loc2) st2=.ok r st3:=by simp only[ba,es,if_pos hl] at e3;exact e3
      obtain⟨a,vs,rfl,hq,rw'⟩:=rv.seq SH es;refine⟨a,vs,rfl,hq,by rw[<-rw'.length];exact hl,jB rw' hl L3' λσ' L'=>⟨ι2,st2,gE is xs loc2,SH,L',?_⟩⟩
      rw[e4];cases r with
      |nx loc3=>exact λH3 ι3 σ3 E3 S3 L3=>⟨ι3,st3,loc3,EH2.trans E3,S3,L3,P3⟩
      |rt d=>exact λH3 ι3 w E3 S3 r3=>P3 H3 ι3 w ((E0.trans EH2).trans E3) S3 r3
      |ex n l=>exact λH3 ι3 σ3 E3 S3 L3=>P3 H3 ι3 σ3 ((E0.trans EH2).trans E3) S3 L3
     ·simp only[ba,es,if_neg hl] at e3;cases e3
theorem nw{f:D->Loc->M Fl}{loc:Loc}{x y:D}{st:aP}(h:bp st x=none∨bp st y=none):d8 f (.zp x y) loc st=.bad:=by simp only[d8,iY,yZ 0 h]
theorem xj(hp:PassesOwn (model X.prog X.w) X.A X.env X.xe)(C:Ctx T g X sc N)(hcm:T.calm=true){body:List Stmt}{a1 a2:Ex}{b':List S}{p3:Pos}(hfn:∀y,X.fn y=true)(ht:nW sc N ts=some is)(hg:bO sc "zip"=true)(hst:starEach [a,b] X.env=(false,eval a X.env)::starEach [b] X.env)(hst2:starEach [b] X.env=[(false,eval b X.env)])
  (ha:PE X a (tE X.K (run g a1)))(hc:PE X b (tE X.K (run g a2)))(hb:PSs X body (tS X.K Xw (execs g b'))):
  PS X (.For (.Tuple ts tk p2) (.Call (.Name "zip" p3) [a,b] [] p4) body [] pos) (tS X.K Xw (exec g (.forZ is a1 a2 b'))):=by
 obtain⟨h1,h2,h3⟩:=gN C hfn ht;refine(ju hp (C.calm hcm) (xB (kB C hg) (C.blt _ (by decide+kernel)) (cJ ha (cJ hc fo hst2) hst) hst hst2) (oA (C.calm hcm) h1 h2 h3) hb (λ_=>rfl)).imp λD σ H hp=>?_
 obtain⟨ι,st,loc,S,L,P⟩:=hp;rw[exec] at P;obtain⟨d,st1,e1,P⟩:=aX P;obtain⟨d2,st2,e2,P⟩:=aX P;obtain⟨s,st3,e3,P⟩:=aX P;obtain⟨e4,rfl⟩:=bX e3;refine bn S L e1 λH1 ι1 v E1 S1 r1=>bn S1 (L.ext E1) e2 λH2 ι2 v2 E2 S2 r2=>?_;cases e4;cases q1:bp st3 d with
 |none=>rw[nw (.inl q1)] at P;exact P.elim
 |some xs=>
  cases q2:bp st3 d2 with
  |none=>rw[nw (.inr q2)] at P;exact P.elim
  |some ys=>obtain⟨_,vs,z,h1,_⟩:=(r1.ext E2).seqB S2 q1;cases z;obtain⟨_,ws,z,h2,_⟩:=r2.seqB S2 q2;cases z;exact⟨_,_,_,_,rfl,⟨vs,h1⟩,⟨ws,h2⟩,jb (j4.zp (r1.ext E2) r2) (E1.trans E2) S2 (L.ext (E1.trans E2)) P⟩
theorem zz(hp:PassesOwn (model X.prog X.w) X.A X.env X.xe)(C:Ctx T g X sc N)(hcm:T.calm=true){body:List Stmt}{a':Ex}{b':List S}(hx:isLocal sc x=true)(hfn:∀y,X.fn y=true)(hi:di N x=some i)(ha:PE X it (tE X.K (run g a')))(hf:∀v,foldedSetIterable it X.env v=pure v)(hb:PSs X body (tS X.K Xw (execs g b'))):
  PS X (.For (.Name x p2) it body [] pos) (tS X.K Xw (exec g (.for_ i false a' b'))):=by
 refine(ju hp (C.calm hcm) (jv ha) (fR (i:=i) (by rw[C.n];exact C.nd) (by rw[C.n];exact b6 hi) (gh C hx) (.inl (hfn x))) hb hf).imp λD σ H hp=>?_
 obtain⟨ι,st,loc,S,L,P⟩:=hp;rw[exec] at P;obtain⟨d,st1,e1,P⟩:=aX P;obtain⟨s,st2,e2,P⟩:=aX P;obtain⟨e3,rfl⟩:=bX e2;refine bn S L e1 λH1 ι1 v E1 S1 r1=>?_;cases r1 with
 |tup h r=>cases e3;exact⟨_,rfl,.inr ⟨⟨_,h⟩,jK (cr.tup h r) E1 S1 (L.ext E1) P⟩⟩
 |fl h r=>cases e3;exact⟨_,rfl,.inl ⟨⟨_,h.sql⟩,jK (cr.fl h r) E1 S1 (L.ext E1) P⟩⟩
 | @ref n hn=>
  cases e3;cases q:st2[n]? with
  |none=>
   rw[jc n st2 (λxs z=>by rw[q] at z;cases z)] at P
   exact P.elim
  |some o=>
   cases o with
   |lst xs=>obtain⟨vs,h1,_⟩:=S1.ob n _ q;exact⟨_,rfl,.inl ⟨⟨vs,fW.of h1⟩,jK (cr.ref hn) E1 S1 (L.ext E1) P⟩⟩
   |_=>
    rw[jc n st2 (λxs z=>by rw[q] at z;cases z)] at P
    exact P.elim
 |_=>cases e3
theorem xk(hp:PassesOwn (model X.prog X.w) X.A X.env X.xe)(C:Ctx T g X sc N)(hcm:T.calm=true){body:List Stmt}{a':Ex}{b':List S}(hfn:∀y,X.fn y=true)(ht:nW sc N ts=some is)(ha:PE X it (tE X.K (run g a')))(hf:∀v,foldedSetIterable it X.env v=pure v)(hb:PSs X body (tS X.K Xw (execs g b'))):
  PS X (.For (.Tuple ts tk p2) it body [] pos) (tS X.K Xw (exec g (.forU is a' b'))):=by
 obtain⟨h1,h2,h3⟩:=gN C hfn ht;refine(ju hp (C.calm hcm) (jv ha) (oA (C.calm hcm) h1 h2 h3) hb hf).imp λD σ H hp=>?_;obtain⟨ι,st,loc,S,L,P⟩:=hp;rw[exec] at P;obtain⟨d,st1,e1,P⟩:=aX P;obtain⟨s,st2,e2,P⟩:=aX P;obtain⟨e3,rfl⟩:=bX e2;refine bn S L e1 λH1 ι1 v E1 S1 r1=>?_;cases r1 with
 |tup h r=>cases e3;exact⟨_,rfl,.inr ⟨⟨_,h⟩,jb (cr.toG (cr.tup h r)) E1 S1 (L.ext E1) P⟩⟩
 |fl h r=>cases e3;exact⟨_,rfl,.inl ⟨⟨_,h.sql⟩,jb (cr.toG (cr.fl h r)) E1 S1 (L.ext E1) P⟩⟩
 | @ref n hn=>
  cases e3;cases q:st2[n]? with
  |none=>
   rw[jc n st2 (λxs z=>by rw[q] at z;cases z)] at P
   exact P.elim
  |some o=>
   cases o with
   |lst xs=>obtain⟨vs,h1,_⟩:=S1.ob n _ q;exact⟨_,rfl,.inl ⟨⟨vs,fW.of h1⟩,jb (cr.toG (cr.ref hn)) E1 S1 (L.ext E1) P⟩⟩
   |_=>
    rw[jc n st2 (λxs z=>by rw[q] at z;cases z)] at P
    exact P.elim
 |_=>cases e3
theorem xl(hp:PassesOwn (model X.prog X.w) X.A X.env X.xe)(C:Ctx T g X sc N)(hcm:T.calm=true){body:List Stmt}{a':Ex}{b':List S}(hx:isLocal sc x=true)(hfn:∀y,X.fn y=true)(hi:di N x=some i)(hg:bO sc "range"=true)(hst:starEach [a] X.env=[(false,eval a X.env)])(ha:PE X a (tE X.K (run g a')))(hb:PSs X body (tS X.K Xw (execs g b'))):
  PS X (.For (.Name x p2) (.Call (.Name "range" p3) [a] [] p4) body [] pos) (tS X.K Xw (exec g (.for_ i true a' b'))):=by
 have hgl:Gl X "range":=by show X.env.scope.names.lookup _=some .globalImplicit;rw[C.sc];simpa[bO] using hg
 refine(ju hp (C.calm hcm) (kr hgl (C.blt _ (by decide+kernel)) (cJ ha fo hst) hst) (fR (i:=i) (by rw[C.n];exact C.nd) (by rw[C.n];exact b6 hi) (gh C hx) (.inl (hfn x))) hb).imp λD σ H hp=>?_
 obtain⟨ι,st,loc,S,L,P⟩:=hp;rw[exec] at P;obtain⟨d,st1,e1,P⟩:=aX P;obtain⟨s,st2,e2,P⟩:=aX P;obtain⟨e3,rfl⟩:=bX e2;refine bn S L e1 λH1 ι1 v E1 S1 r1=>?_;cases r1 with
 |int j=>
  simp only[cm] at e3;split at e3
  ·rename_i hj;cases e3;exact⟨j,rfl,by omega,by omega,jK cr.rng E1 S1 (L.ext E1) P⟩
  ·cases e3
 |_=>cases e3
theorem u_(hp:PassesOwn (model X.prog X.w) X.A X.env X.xe)(C:Ctx T g X sc N)(hcm:T.calm=true){body:List Stmt}{a' c':Ex}{b':List S}(hx:isLocal sc x=true)(hfn:∀y,X.fn y=true)(hi:di N x=some i)(hg:bO sc "range"=true)(hst:starEach [a,b] X.env=(false,eval a X.env)::starEach [b] X.env)(hst2:starEach [b] X.env=[(false,eval b X.env)])
  (ha:PE X a (tE X.K (run g a')))(hc:PE X b (tE X.K (run g c')))(hb:PSs X body (tS X.K Xw (execs g b'))):PS X (.For (.Name x p2) (.Call (.Name "range" p3) [a,b] [] p4) body [] pos) (tS X.K Xw (exec g (.for2 i a' c' b'))):=by
 refine(ju hp (C.calm hcm) (qB (kB C hg) (C.blt _ (by decide+kernel)) (cJ ha (cJ hc fo hst2) hst) (by rw[hst,hst2]) hst2) (fR (i:=i) (by rw[C.n];exact C.nd) (by rw[C.n];exact b6 hi) (gh C hx) (.inl (hfn x))) hb).imp λD σ H hp=>?_
 obtain⟨ι,st,loc,S,L,P⟩:=hp;rw[exec] at P;obtain⟨d,st1,e1,P⟩:=aX P;obtain⟨d2,st2,e2,P⟩:=aX P;obtain⟨s,st3,e3,P⟩:=aX P;obtain⟨e4,rfl⟩:=bX e3;refine bn S L e1 λH1 ι1 v E1 S1 r1=>bn S1 (L.ext E1) e2 λH2 ι2 v2 E2 S2 r2=>?_;unfold gC at e4;split at e4
 ·split at e4
  ·rename_i hj;cases e4;cases r1;cases r2;exact⟨_,_,rfl,⟨by omega,by omega,by omega,by omega⟩,jK cr.rng2 (E1.trans E2) S2 (L.ext (E1.trans E2)) P⟩
  ·cases e4
 ·cases e4
end
theorem Sim.put{K:av}{st:aP}(S:Sim K H ι st){o o':O}{ho:HO}(e:st[n]? =some o)(new:nL K (bE H (ι n) ho) ι st.length (ι n) o'):
  Ext H (bE H (ι n) ho) ι ι st.length st.length/\Sim K (bE H (ι n) ho) ι (st.set n o'):=by
 obtain⟨u,h1,nt,nf⟩:=(S.ob n o e).there;have hn:n<st.length:=(au e).1
 have E:Ext H (bE H (ι n) ho) ι ι st.length st.length:=by
  refine⟨⟨ah _,λ_ _=>rfl,λb zs q=>?_,λb ob w q=>?_⟩,λb ob q k=>⟨by rw[aE (k n hn).symm];exact q,k⟩⟩
  ·rw[aE (cM q h1 (λz=>nt _ z.symm))];exact q
  ·rw[aE (cM q h1 (λz=>nf _ _ z.symm))];exact q
 refine⟨E,λi j hi hj=>S.inj i j (by simpa using hi) (by simpa using hj),λk ob q=>?_⟩
 rw[aS];by_cases hk:k=n
 ·subst hk;rw[aY hn] at q;cases q;exact new
 ·rw[aI (Ne.symm hk)] at q;have hk':k<st.length:=(au q).1;exact(S.ob k ob q).move E.toExt0 (aE λz=>hk (S.inj k n hk' hn z))
section
variable{T:Tab}{g:dO}{X:Cx}{sc:Scope}{N:List Str}{pos p2:Pos}{Xw:Addr->L2.St->Hp->Prop}
theorem yj{c:Str}{fs:List (Str×D)}{d:D}{st:aP}(C:Ctx T g X sc N)(S:Sim X.K H ι st)(q:st[n]? =some (.ins c fs))(hc:c∈T.ics f)(hl:fs.length<900)(r:VRel X.K H ι st.length d v):
  ∃C0 dx vs,H (ι n)=some (.ins C0 dx vs)/\Cls X.K C0/\eT X.K C0 f/\vs.length<1000/\Ext H (bE H (ι n) (.ins C0 dx (dz f v vs))) ι ι st.length (st.set n (O.ins c (putD f d fs))).length/\Sim X.K (bE H (ι n) (.ins C0 dx (dz f v vs))) ι (st.set n (.ins c (putD f d fs))):=by
 obtain⟨ic,hi,rfl,hf⟩:=pO hc;obtain⟨C0,n0,cl,na,_⟩:=C.icl ic hi;obtain⟨C1,dx,vs,n1,h1,h2,h3⟩:=S.ob n _ q;rw[n0] at n1;cases n1;have lw:=h2.length
 have X0:Ext0 H (bE H (ι n) (.ins C0 dx (dz f v vs))) ι ι st.length st.length:=by
  refine⟨ah _,λ_ _=>rfl,λb zs z=>?_,λb ob w z=>?_⟩
  ·rw[aE (cM z h1 (by intro y;cases y))];exact z
  ·rw[aE (cM z h1 (by intro y;cases y))];exact z
 have lp:(putD f d fs).length<=900:=by have:=ft f v vs;have:=(h2.put (f:=f) r).length;omega
 obtain⟨E4,S4⟩:=S.put (ho:= .ins C0 dx (dz f v vs)) (o':= .ins ic.x (putD f d fs)) q ⟨C0,dx,dz f v vs,n0,bi,(h2.put r).ext0 X0,lp⟩;exact⟨C0,dx,vs,h1,cl,na f hf,by omega,by rw[aS];exact E4,S4⟩
theorem w_{o' e':Ex}(C:Ctx T g X sc N)(hn:vJ e=true)(ho:PE X o (tE X.K (run g o')))(he:PE X e (tE X.K (run g e'))):PS X (.Assign [.Attribute o f p2] e pos) (tS X.K Xw (exec g (.setf o' f e' [] (T.ics f)))):=by
 refine(xz ho he (by cases e<;>first|rfl|cases hn)).imp λD σ H hp=>?_
 obtain⟨ι,st,loc,S,L,P⟩:=hp;rw[exec] at P;obtain⟨d,st1,e1,P⟩:=aX P;obtain⟨x,st2,e2,P⟩:=aX P;obtain⟨u,st3,e3,P⟩:=aX P;unfold mG at e3;cases x with
 |ref n=>
  dsimp only at e3;split at e3
  ·rename_i c fs q;split at e3
   ·rename_i hc;cases e3;refine bn S L e1 λH1 ι1 v E1 S1 r1=>bn S1 (L.ext E1) e2 λH2 ι2 vx E2 S2 r2=>?_;have E12:=E1.trans E2;cases r2 with
    |ref hnn=>obtain⟨C0,dx,vs,h1,cl,na,lz,E4,S4⟩:=yj C S2 q hc.2 hc.1 (r1.ext E2);exact⟨_,C0,dx,vs,rfl,h1,cl,na,lz,P _ ι2 σ (E12.trans E4) S4 (L.ext (E12.trans E4))⟩
   ·cases e3
  ·cases e3
 |_=>cases e3
end
noncomputable abbrev nK(X:Cx):Prop:=X.stack=X.env::X.outer/\X.env.frame=some X.env.locals
noncomputable def SS(T:Tab)(g:dO)(n:Nat):Prop:=∀{X:Cx}{sc:Scope}{N:List Str}{s:Stmt}{s':S}{Xw:Addr->L2.St->Hp->Prop},Ctx T g X sc N->(∀y,X.fn y=true)->PassesOwn (model X.prog X.w) X.A X.env X.xe->nK X->cS T n sc N s=some s'->PS X s (tS X.K Xw (exec g s'))
noncomputable def AS(T:Tab)(g:dO)(n:Nat):Prop:=∀{X:Cx}{sc:Scope}{N:List Str}{s:List Stmt}{s':List S}{Xw:Addr->L2.St->Hp->Prop},Ctx T g X sc N->(∀y,X.fn y=true)->PassesOwn (model X.prog X.w) X.A X.env X.xe->nK X->wK T n sc N s=some s'->PSs X s (tS X.K Xw (execs g s'))
theorem se{T:Tab}{g:dO}(h1:SS T g n)(h2:AS T g n):AS T g (n+1):=by
 intro X sc N s s' Xw C hf hp hst h;cases s with
 |nil=>cases h;refine ve.imp λD σ H hp=>?_;obtain⟨ι,st,loc,S,L,P⟩:=hp;rw[execs] at P;exact P H ι σ (Ext.refl _ _ _) S L
 |cons a r=>
  obtain⟨r',er,rfl⟩:=map_some h
  have ea:PS X a (tS X.K Xw (exec g ((cS T n sc N a).getD .stop))):=by
   cases q:cS T n sc N a with
   |none=>exact si
   |some a'=>exact h1 C hf hp hst q
  refine(sF ea (h2 (Xw:=Xw) C hf hp hst er)).imp λD σ H hp=>?_;obtain⟨ι,st,loc,S,L,P⟩:=hp;rw[execs] at P;obtain⟨f,st1,e1,P⟩:=aX P;refine⟨ι,st,loc,S,L,?_⟩;rw[e1];cases f with
  |nx loc1=>exact λH1 ι1 σ1 E1 S1 L1=>⟨ι1,st1,loc1,S1,L1,P.mono E1⟩
  |rt d=>exact P
  |ex n l=>exact P
theorem r8{T:Tab}{e':Ex}(hk:tH e=false)(hm:cE T n sc N e=some e')(o:Option Expr)(l:Nat)(env:Env)(ho:o=none∨∃x p,o=some (.Name x p)):swapsWith e o l env=pure false:=by
 cases n with
 |zero=>cases hm
 |succ n=>
  rcases ho with rfl|⟨x,p,rfl⟩
  ·cases e<;>first|rfl|(cases hm;done)|cases hk
  ·cases e<;>first|rfl|(cases hm;done)|cases hk
theorem vb{T:Tab}{g:dO}(h2:AS T g n):SS T g (n+1):=by
 intro X sc N s s' Xw C hf hp hst h;have snd:=sound T g n;have he:=λ{e:Expr}{e':Ex}(q:cE T n sc N e=some e')=>snd.1 C q;cases s with
 |Assign ts e _=>
  obtain⟨t,ht,h⟩:=bs h;cases cj ht;clear ht;cases t with
  |Name x px=>
   obtain⟨hl,h⟩:=ff h;obtain⟨i,hi,h⟩:=bs h;obtain⟨e',hee,rfl⟩:=map_some h;have k1:X.N[i]? =some x:=by rw[C.n];exact b6 hi
   by_cases hk:tH e=true
   ·cases e with
    |ListComp elt gens scope pos=>
     cases n with
     |zero=>cases hee
     |succ m=>
      exact ql (sound T g m).1 (sound T g m).2.2.1 C hee (λy py it ifs e hcm hc hd=>by cases e;exact(eY.ps C hcm hc hd k1 (gh C hl) (.inl (hf _))).imp λD σ H q=>oo q) λy1 y2 p1 p2 k pt it ifs e hcm hc hd=>by cases e;exact(gt.ps C hcm hc hd k1 (gh C hl) (.inl (hf _))).imp λD σ H q=>oo q
    |_=>cases hk
   ·exact(ow (by rw[C.n];exact C.nd) k1 (gh C hl) (he hee).1 (r8 (by simpa using hk) hee _ _ _ (.inr ⟨_,_,rfl⟩)) (.inl (hf _))).imp λD σ H q=>oo q
  |Subscript o i _=>
   obtain⟨hp',h⟩:=ff h;obtain⟨o',a1,h⟩:=bs h;obtain⟨i',a2,h⟩:=bs h;obtain⟨e',a3,rfl⟩:=map_some h;exact u6 (by have:=C.un;omega) hp'.1 hp'.2 (he a1).1 (he a2).1 (he a3).1
  |Attribute o f _=>obtain⟨hnc,h⟩:=ff h;obtain⟨o',a1,h⟩:=bs h;obtain⟨e',a2,rfl⟩:=map_some h;exact w_ C hnc (he a1).1 (he a2).1
  |Tuple ts _ _=>obtain⟨hcm,h⟩:=ff h;obtain⟨is,ht,h⟩:=bs h;obtain⟨e',a2,h⟩:=bs h;obtain⟨hk,h⟩:=ff h;cases h;exact zw C hcm hf hk ht (he a2).1
  |_=>cases h
 |Return o _=>
  cases o with
  |none=>cases h
  |some e=>
   cases h;cases q:cE T n sc N e with
   |none=>exact si
   |some e'=>exact zx (he q).1
 |Expr e _=>obtain⟨z,hq,h⟩:=bs h;obtain⟨o',a1,h⟩:=bs h;obtain⟨e',a2,rfl⟩:=map_some h;obtain⟨m,ap,cp,rfl,hm⟩:=ut hq;simp only[Bool.and_eq_true] at hm;exact zF hm.1.1 hm.1.2 (cO a2 [] _) (eR hm.2 _ _) (he a1).1 (he a2).1
 |If c a b _=>obtain⟨c',a1,h⟩:=bs h;obtain⟨a',a2,h⟩:=bs h;obtain⟨b',a3,rfl⟩:=map_some h;exact Ba (he a1).2 (h2 (Xw:=Xw) C hf hp hst a2) (h2 (Xw:=Xw) C hf hp hst a3)
 |For t it body els _=>
  cases els with
  |cons=>cases h
  |nil=>
   cases t with
   |Name x _=>
    obtain⟨hl,h⟩:=ff h;obtain⟨i,hi,h⟩:=bs h;obtain⟨b',hb,h⟩:=bs h;rcases qI h with⟨a,ha,h⟩|⟨_,h⟩
    ·obtain⟨a',q,rfl⟩:=map_some h;obtain⟨hg,_,_,rfl⟩:=sx ha;exact xl hp C hl.2 hl.1 hf hi hg (cO q [] _) (he q).1 (h2 (Xw:=Xw) C hf hp hst hb)
    rcases qI h with⟨z,hz,h⟩|⟨_,h⟩
    ·obtain⟨a',q1,h⟩:=bs h;obtain⟨c',q2,rfl⟩:=map_some h;obtain⟨hg,_,_,rfl⟩:=sy hz;exact u_ hp C hl.2 hl.1 hf hi hg (cO q1 _ _) (cO q2 [] _) (he q1).1 (he q2).1 (h2 (Xw:=Xw) C hf hp hst hb)
    ·obtain⟨a',q,rfl⟩:=map_some h;exact zz hp C hl.2 hl.1 hf hi (he q).1 (hU q _) (h2 (Xw:=Xw) C hf hp hst hb)
   |Tuple ts _ _=>
    obtain⟨hcm,h⟩:=ff h;obtain⟨is,ht,h⟩:=bs h;obtain⟨b',hb,h⟩:=bs h;rcases qI h with⟨z,hzi,h⟩|⟨_,h⟩
    ·obtain⟨a',q1,h⟩:=bs h;obtain⟨c',q2,rfl⟩:=map_some h;obtain⟨hg,_,_,rfl⟩:=rA hzi;exact xj hp C hcm hf ht hg (cO q1 _ _) (cO q2 [] _) (he q1).1 (he q2).1 (h2 (Xw:=Xw) C hf hp hst hb)
    ·obtain⟨a',q,rfl⟩:=map_some h;exact xk hp C hcm hf ht (he q).1 (hU q _) (h2 (Xw:=Xw) C hf hp hst hb)
   |_=>cases h
 |While c body els _=>
  cases els with
  |cons=>cases h
  |nil=>obtain⟨c',hc,h⟩:=bs h;obtain⟨b',hb,rfl⟩:=map_some h;exact w6 hp (he hc).2 (h2 (Xw:=Xw) C hf hp hst hb)
 |_=>cases h
theorem k_(T:Tab)(g:dO):∀n,SS T g n/\AS T g n
 |0=>⟨λC hf hp hst h=>(by cases h),λC hf hp hst h=>(by cases h)⟩
 |n+1=>⟨vb (k_ T g n).2,se (k_ T g n).1 (k_ T g n).2⟩
structure Rec where
 name:Str
 fname:Str
 qual:Str
 ps:List Str
 N:List Str
 st:Stmt
 fn:Fn
structure Chk(T:Tab)(r:Rec):Prop where
 sc:FnScope r.N r.ps (bW r.st)
 nm:∀x∈r.N,(x==("__debug__":Str))=false/\(x==("__classdict__":Str))=false
 cc:wK T 100 (bW r.st) r.N (cY r.st)=some r.fn.body
 ar:r.fn.ar=r.ps.length
 nl:r.fn.nl=r.N.length
structure Lnk(K:av)(r:Rec)(a:Addr)(fd:FuncData):Prop where
 f:Fun K r.fname r.qual r.st a fd
 b:Binds K fd r.ps []
theorem B0{K:av}{mg:Str->Option Value}{base:Heap}{qual:Str}{st:Stmt}{f:Addr}{fd:FuncData}{ps:List Str}{k:Nat}{sp:Sp}(F:Fun K x qual st f fd)(S:FnScope N ps (bW st))(len:∀vs H Q E,sp vs H Q E->vs.length=ps.length)
  (hbody:∀(cdv:Value)(A:Around)(outer:List Env)(s:Shared)(H:Hp)(vs:List V)(Q:VK)(E:XK),Room k (A.deeper (envOfC qual (bW st) s.heap.objs.size f cdv))->sp vs H Q E->
   ∃t,PSs (oU (nO P w) P w K mg base N qual (bW st) f cdv A outer s H E) (cY st) t/\t {nx:=λ_ H'=>Q .non H',rt:=Q} (start N vs) H):FnOk P w K mg base (nO P w) (k+1) f fd ps sp:=by
 obtain⟨oc,od,kV,doc,pm,an,cdv,ct,osl,rfl,lk,hcd⟩:=F.ex;exact Ag lk hcd S len λA outer s H vs Q E hr hsp=>hbody cdv A outer s H vs Q E hr hsp
theorem iG{bq:List Rec}{T:Tab}{r:Rec}(hr:bq[i]? =some r)(hc:Chk T r):∀(n:Nat)(ds:List D)(st:aP),ds.length≠r.ps.length->calls (bq.map (·.fn)) n i ds st=.bad
 |0,_,_,_=>rfl
 |n+1,ds,st,h=>by
  have e:(bq.map (·.fn))[i]? =some r.fn:=by rw[aB,hr];rfl
  simp only[calls,e,qk];rw[if_neg (by rw[hc.ar];exact h)]
  rfl
theorem qt{K:av}{ds:List D}{vs:List V}(r:VRels K H ι m ds vs)(N:List Str)(k:Nat)(hk:k=N.length):LRel K H ι m (ds.map some++List.replicate (k - ds.length) none) (L2.start N vs):=by
 have l:=r.length;refine⟨by simp[L2.start,l,hk],λi d e=>?_⟩
 by_cases hi:i<ds.length
 ·rw[aJ (by simpa using hi),aB] at e
  cases q:ds[i]? with
  |none=>rw[q] at e;cases e
  |some d'=>
   rw[q] at e;have e':d'=d:=by simpa using e
   subst e';obtain⟨v,hv,rv⟩:=r.get q;refine⟨v,?_,rv⟩;unfold L2.start;rw[aJ (by simpa[<-l] using hi),aB,hv]
   rfl
 ·rw[aR (by simpa using hi),List.getElem?_replicate] at e
  split at e<;>cases e
structure Facts(P:Program)(w:World)(K:av)(mg:Str->Option Value)(T:Tab)(bq:List Rec):Prop where
 chk:∀r∈bq,Chk T r
 calm:T.calm=true
 fns:∀(i:Nat)(f:Str),T.fns[i]? =some f->(f==("__debug__":Str))=false/\∃r a fd,bq[i]? =some r/\Lnk K r a fd/\mg f=some (.ref a)
 csts:∀x d,T.csts.lookup x=some d->(x==("__debug__":Str))=false/\∃u v,mg x=some u/\RelV v u/\∀H ι m,VRel K H ι m d v
 blt:∀x∈uq,mg x=none
 icl:∀c∈T.icl,∃C,PySem.W.nsIn K mainGlobals c.x=some (some (.ref C))/\Cls K C/\(∀f∈c.flds,eT K C f)/\(∀(m:Str)(j:Nat),(m,j)∈c.mts->∃r a fd,bq[j]? =some r/\Lnk K r a fd/\Meth K C m a)
 mks:∀(x:Str)(j:Nat),(x,j)∈T.mks->(x==("__debug__":Str))=false/\∃C r a fd,bq[j]? =some r/\Lnk K r a fd/\PySem.W.nsIn K mainGlobals x=some (some (.ref C))/\mg x=some (.ref C)/\Mk K C a
 isks:∀t,t∈T.isks->(t==("__debug__":Str))=false/\∃C,PySem.W.nsIn K mainGlobals t=some (some (.ref C))/\mg t=some (.ref C)/\Cls K C/\PySem.W.findIn K (.ref C) "__class__"=some (some (.builtin "object.__class__"))/\
  PySem.W.specialIn K (.builtin "object.__class__") "__get__"=some (some (.builtin "getset_descriptor.__get__"))/\PySem.W.takesIn K (.builtin "object.__class__")=some true/\PySem.W.mroIn K C (.type "object")=some true/\PySem.W.kitOne K (.ref C) (.ref C)=some true
theorem je{P:Program}{w:World}{K:av}{mg:Str->Option Value}{base:Heap}{T:Tab}{bq:List Rec}(Z:Facts P w K mg T bq):
  ∀(n i:Nat)(r:Rec)(a:Addr)(fd:FuncData),bq[i]? =some r->Lnk K r a fd->FnOk P w K mg base (nO P w) (2*n) a fd r.ps (zu K r.ps.length (calls (bq.map (·.fn)) n i))
 |0,i,r,a,fd,hr,L=>⟨λvs H Q E h=>h.1,λA outer s H args us vs Q E _ _ _ _ h=>by obtain⟨_,ι,st,ds,_,_,q⟩:=h;exact False.elim q⟩
 |n+1,i,r,a,fd,hr,L=>by
  have c:=Z.chk r (ak hr);refine B0 (k:=2*n+1) L.f c.sc (λvs H Q E h=>h.1) (λcdv A outer s H vs Q E hroom h=>?_);obtain⟨hlen,ι,st,ds,S,rv,q⟩:=h;have un:=hroom.un
  have C:Ctx T (calls (bq.map (·.fn)) n) (oU (nO P w) P w K mg base r.N r.qual (bW r.st) a cdv A outer s H E) (bW r.st) r.N:=by
   refine⟨rfl,rfl,c.sc.nd,c.nm,λ_=>rfl,?_,λj f hj=>?_,Z.csts,Z.blt,λc hc=>?_,λx j hj=>?_,Z.isks⟩
   ·show(A.deeper _).units+100<cLine;omega
   ·obtain⟨hd,r2,a2,fd2,hr2,L2',hm⟩:=Z.fns j f hj;exact⟨hd,a2,fd2,r2.ps,2*n,hm,L2'.f.kp,L2'.b,hroom.mono (Nat.le_succ _),iG hr2 (Z.chk r2 (ak hr2)) n,je Z n j r2 a2 fd2 hr2 L2'⟩
   ·obtain⟨C0,q1,q2,q3,q4⟩:=Z.icl c hc;refine⟨C0,q1,q2,q3,λm j hj=>?_⟩;obtain⟨r2,a2,fd2,hr2,L2',M⟩:=q4 m j hj;exact⟨a2,fd2,r2.ps,2*n,M,L2'.b,hroom.mono (Nat.le_succ _),iG hr2 (Z.chk r2 (ak hr2)) n,je Z n j r2 a2 fd2 hr2 L2'⟩
   ·obtain⟨hd,C0,r2,a2,fd2,hr2,L2',q1,q2,q3⟩:=Z.mks x j hj;exact⟨hd,C0,a2,fd2,r2.ps,2*n,q1,q2,q3,L2'.b,hroom,iG hr2 (Z.chk r2 (ak hr2)) n,je Z n j r2 a2 fd2 hr2 L2'⟩
  refine⟨_,(k_ _ _ 100).2 (Xw:=λa _ H'=>E (.ref a) none H') C (λ_=>rfl) PassesOwn.leaving ⟨rfl,rfl⟩ c.cc,ι,st,ds.map some++List.replicate (r.fn.nl - ds.length) none,S,qt rv _ _ c.nl,?_⟩;have e:(bq.map (·.fn))[i]? =some r.fn:=by rw[aB,hr];rfl
  have hd:ds.length=r.fn.ar:=by rw[rv.length,hlen,c.ar]
  simp only[calls,e,qk] at q;rw[if_pos hd] at q;unfold ba at q;cases e1:execs (calls (bq.map (·.fn)) n) r.fn.body (ds.map some++List.replicate (r.fn.nl - ds.length) none) st with
  |bad=>rw[e1] at q;exact q.elim
  |ok f st1=>
   rw[e1] at q;cases f with
   |nx loc=>exact λH1 ι1 σ1 E1 S1 L1=>q H1 ι1 .non E1 S1 .non
   |rt d=>exact q
   |ex m l=>exact λH1 ι1 σ1 E1 S1 L1=>q H1 ι1 E1 S1
noncomputable def pf(K:av):Sp:=λvs H Q _=>∃(a:Addr)(ns:List Int),vs=[.ref a]/\fW K H a (ns.map V.int)/\wd H/\ns.length<=63/\∀H',Q (.bl true) H'
theorem m4{K:av}{H:Hp}{ι:Nat->Addr}{m:Nat}:∀ns:List Int,VRels K H ι m (ns.map .int) (ns.map V.int)
 |[]=>.nil
 |n::ns=>.cons (.int n) (m4 ns)
theorem x3{K:av}{mg:Str->Option Value}{base:Heap}{a:Addr}{fd:FuncData}{f:List D->M Rs}(F:FnOk P w K mg base (nO P w) n a fd [x] (zu K 1 f))
  (h:∀ns:List Int,ns.length<=63->∃st',f [.fl (ns.map .int)] []=.ok (.v (.bl true)) st'):FnOk P w K mg base (nO P w) n a fd [x] (pf K):=by
 refine F.imp λvs H Q E hp=>?_;obtain⟨a,ns,e,hS,hO,hl,q⟩:=hp;subst e;obtain⟨st',e⟩:=h ns hl;refine⟨rfl,λ_=>0,[],[.fl (ns.map .int)],⟨λi _ hi=>absurd hi (Nat.not_lt_zero _),λi o e=>by simp at e⟩,.cons (.fl (xs:=ns.map V.int) ?_ (m4 ns)) .nil,?_⟩
 ·rcases hS with(h|h)|h
  ·rcases hO a with z|⟨o,xs,z⟩
   ·rw[h] at z;cases z
   ·rw[h] at z;cases z
  ·exact .inl h
  ·exact .inr h
 ·rw[e];intro H' ι' v E' S' r;cases r;exact q H'
theorem walk{l:PySem.W.OpenLaw}{q:Program}{loose:List Str}{XP:(Str->Option Value)->Heap->Prop}{YP:World->Heap->Prop}{d:DefRec}{K:Params->av}(hn:l.most=some 63)(hdf:d.params.defaults=[])(hr:Room n callerA)
  (hY:∀(w:World)(h:Heap),YP w h->(K w.params).In h)
  (F:∀(w:World)(mg:Str->Option Value)(fa:Addr)(h:Heap),(K w.params).In h->h.Ns mainGlobals mg->mg d.name=some (.ref fa)->
   ∃fd:FuncData,(∀(s:Shared)(u:Value),BindsTo s fd ⟨[u],[]⟩ [(x,u)])/\∀base:Heap,(K w.params).In base->base.Ns mainGlobals mg->FnOk l.prog w (K w.params) mg base (nO l.prog w) n fa fd [x] (pf (K w.params))):
  PySem.W.WalkO q loose XP YP l.row.toRowW d [] (λf vs=>PySem.call f vs):=
 L2.uK (n:=63) (k:=n) (x:=x) (CX:=λw=>nO l.prog w) (sp:=λw=>pf (K w.params)) hn (by decide) hdf hr hY F (λ_ _ a ns hl hO hS=>⟨a,ns,rfl,hS,hO,hl,λ_=>rfl⟩) λ_ _ _ _ _ z=>z.elim
set_option maxHeartbeats 4000000
noncomputable def qP(o:Option (Option Value))(s:String):Bool:=match o with
 |some (some (.builtin t))=>t==s
 |_=>false
theorem i_{o:Option (Option Value)}{s:String}(h:qP o s=true):o=some (some (.builtin s)):=by
 unfold qP at h;split at h
 ·rename_i t;have:t=s:=by simpa using h
  rw[this]
 ·cases h
noncomputable def vI(o:Option (Option Value)):Bool:=match o with
 |some none=>true
 |_=>false
theorem pY{o:Option (Option Value)}(h:vI o=true):o=some none:=by
 unfold vI at h;split at h
 ·rfl
 ·cases h
noncomputable def zZ(o:Option Bool)(b:Bool):Bool:=match o with
 |some c=>c==b
 |_=>false
theorem oM{o:Option Bool}{b:Bool}(h:zZ o b=true):o=some b:=by
 unfold zZ at h;split at h
 ·rename_i c;have:c=b:=by simpa using h
  rw[this]
 ·cases h
noncomputable def jV(K:av)(x:Str)(f:Addr->Bool):Bool:=match PySem.W.nsIn K mainGlobals x with
 |some (some (.ref C))=>f C
 |_=>false
theorem fM{K:av}{f:Addr->Bool}(h:jV K x f=true):∃C,PySem.W.nsIn K mainGlobals x=some (some (.ref C))/\f C=true:=by
 unfold jV at h;split at h
 ·exact⟨_,by assumption,h⟩
 ·cases h
noncomputable def tG(K:av)(o:Option (Option Value)):Bool:=match o with
 |some (some v)=>PySem.W.isFn K v
 |_=>false
section
variable{K:av}{mg:Str->Option Value}{T:Tab}{bq:List Rec}{h:Heap}
noncomputable def vK(K:av)(T:Tab):Bool:=
 (T.icl.all λc=>jV K c.x λC=>PySem.W.plainGet K C Str.empty&&(PySem.W.hasDictIn K C&&(PySem.W.plainOver K C&&(qP (PySem.W.findIn K (.ref C) "__setattr__") "object.__setattr__" &&(c.flds.all (λf=>vI (PySem.W.findIn K (.ref C) f))&&
  c.mts.all (λp=>tG K (PySem.W.findIn K (.ref C) p.1)))))))&&
 ((T.mks.all λp=>jV K p.1 λC=>PySem.W.makesIn K C&&(PySem.W.keepIn K (.ref C)&&tG K (PySem.W.findIn K (.ref C) "__init__")))&&
 (T.isks.all λt=>(t==("__debug__":Str))==false&&jV K t λC=>PySem.W.plainGet K C Str.empty&&(PySem.W.hasDictIn K C&&(PySem.W.plainOver K C&&(qP (PySem.W.findIn K (.ref C) "__setattr__") "object.__setattr__" &&(qP (PySem.W.findIn K (.ref C) "__class__") "object.__class__" &&
  (qP (PySem.W.specialIn K (.builtin "object.__class__") "__get__") "getset_descriptor.__get__" &&(zZ (PySem.W.takesIn K (.builtin "object.__class__")) true&&(zZ (PySem.W.mroIn K C (.type "object")) true&&zZ (PySem.W.kitOne K (.ref C) (.ref C)) true)))))))))
noncomputable def AJ(K:av)(bq:List Rec)(x m:Str)(j:Nat):Prop:=∃C r a fd,bq[j]? =some r/\Lnk K r a fd/\PySem.W.nsIn K mainGlobals x=some (some (.ref C))/\PySem.W.findIn K (.ref C) m=some (some (.ref a))
noncomputable def BD(K:av)(mg:Str->Option Value)(bq:List Rec)(x:Str)(j:Nat):Prop:=(x==("__debug__":Str))=false/\∃C r a fd,bq[j]? =some r/\Lnk K r a fd/\PySem.W.nsIn K mainGlobals x=some (some (.ref C))/\mg x=some (.ref C)/\PySem.W.findIn K (.ref C) "__init__"=some (some (.ref a))
theorem mZ{v:Value}{o:Option (Option Value)}(h:tG K o=true)(e:o=some (some v)):PySem.W.isFn K v=true:=by rw[e] at h;exact h
theorem tY(X:K.In h)(G:h.Ns mainGlobals mg)(hc:∀r∈bq,Chk T r)(hq:T.calm=true)(hlen:T.fns.length<=bq.length)
  (hf:∀p∈List.zip T.fns bq,(p.1==("__debug__":Str))=false/\∃a fd,Lnk K p.2 a fd/\mg p.1=some (.ref a))
  (hcs:∀x d,T.csts.lookup x=some d->(x==("__debug__":Str))=false/\∃u v,mg x=some u/\RelV v u/\∀H ι m,VRel K H ι m d v)
  (hb:∀x∈uq,mg x=none)
  (hI:vK K T=true)(hm:∀c∈T.icl,∀p∈c.mts,AJ K bq c.x p.1 p.2)(hk:∀p∈T.mks,BD K mg bq p.1 p.2)
  (hg:∀t∈T.isks,∀C,PySem.W.nsIn K mainGlobals t=some (some (.ref C))->mg t=some (.ref C)):Facts P w K mg T bq:=by
 unfold vK at hI;simp only[Bool.and_eq_true] at hI;obtain⟨i2,i3,i4⟩:=hI;refine⟨hc,hq,?_,hcs,hb,?_,?_,?_⟩
 ·intro i f e;have hl:i<bq.length:=aw (au e).1 hlen;have er:bq[i]? =some bq[i]:=aC hl;have:(f,bq[i])∈List.zip T.fns bq:=ak (i:=i) (by rw[List.getElem?_zip_eq_some];exact⟨e,er⟩)
  obtain⟨d,a,fd,L,m⟩:=hf _ this;exact⟨d,_,a,fd,er,L,m⟩
 ·intro c hc';obtain⟨C,e,q⟩:=fM (List.all_eq_true.mp i2 c hc');simp only[Bool.and_eq_true] at q;obtain⟨q1,q2,q3,q4,q5,q6⟩:=q;refine⟨C,e,⟨q1,q2,q3,i_ q4⟩,λf hf=>pY (List.all_eq_true.mp q5 f hf),λm j hmj=>?_⟩
  ·obtain⟨C',r,a,fd,hr,L,e',hf⟩:=hm c hc' (m,j) hmj;rw[e] at e';cases e';exact⟨r,a,fd,hr,L,⟨hf,mZ (List.all_eq_true.mp q6 (m,j) hmj) hf,L.f.kp⟩⟩
 ·intro x j hx;obtain⟨hd,C,r,a,fd,hr,L,e,m,hf⟩:=hk (x,j) hx;obtain⟨C',e',q⟩:=fM (List.all_eq_true.mp i3 (x,j) hx);rw[e] at e';cases e';simp only[Bool.and_eq_true] at q;exact⟨hd,C,r,a,fd,hr,L,e,m,⟨q.1,hf,mZ q.2.2 hf,q.2.1⟩⟩
 ·intro t ht;have q:=List.all_eq_true.mp i4 t ht;simp only[Bool.and_eq_true] at q;obtain⟨q0,q⟩:=q;obtain⟨C,e,q⟩:=fM q;simp only[Bool.and_eq_true] at q;obtain⟨q1,q2,q3,q4,q5,q6,q7,q8,q9⟩:=q;exact⟨by simpa using q0,C,e,hg t ht C e,⟨q1,q2,q3,i_ q4⟩,i_ q5,i_ q6,oM q7,oM q8,oM q9⟩
end
noncomputable def yS(r:Rec):Option Obj->Option Obj
 |some ⟨oc,od,.func f,sl⟩=>some ⟨oc,od,.func (PySem.W.fnOf r.fname r.qual (dJ r.st) (cY r.st) (bW r.st) .none f.kwdefaults f.doc f.pyModule f.annotations f.code f.closureTuple),sl⟩
 |_=>none
noncomputable def Bv(K:av)(r:Rec)(a:Addr):Bool:=match K.lookup a with
 |some ⟨_,_,.func f,_⟩=>PySem.W.codeIn K f.code r.qual&&PySem.W.keepIn K (.ref a)
 |_=>false
noncomputable def yY(r:Rec):Prop:=∀(kV doc pm:Value)(an:Option Addr)(cdv ct:Value)(us:List Value),us.length=r.ps.length->bindArgs (PySem.W.fnOf r.fname r.qual (dJ r.st) (cY r.st) (bW r.st) .none kV doc pm an cdv ct) ⟨us,[]⟩=pure (r.ps.zip us)
theorem xZ{K:av}{r:Rec}{a:Addr}(hb:yY r)(h:Bv K r a=true)(e:K.lookup a=yS r (K.lookup a)):∃fd,Lnk K r a fd:=by
 unfold Bv at h;cases q:K.lookup a with
 |none=>rw[q] at h;cases h
 |some o=>
  obtain⟨oc,od,dt,sl⟩:=o;cases dt with
  |func f=>rw[q] at h e;rw[Bool.and_eq_true] at h;have F:=yo (x:=r.fname) (qual:=r.qual) (st:=r.st) (q.trans e) h.1 h.2;exact⟨_,F,F.binds hb⟩
  |_=>rw[q] at h;cases h
noncomputable def zY(o:Option (Option Value))(a:Option Addr):Bool:=match o,a with
 |some (some (.ref x)),some y=>x==y
 |_,_=>false
theorem oK{o:Option (Option Value)}{a:Option Addr}(h:zY o a=true):∃x,a=some x/\o=some (some (.ref x)):=by
 unfold zY at h;split at h
 ·rename_i x y;have:x=y:=by simpa using h
  subst this;exact⟨_,rfl,rfl⟩
 ·cases h
noncomputable def AQ(x:Str):Bool:=(x==("__debug__":Str))==false
noncomputable def ku(K:av)(T:Tab)(bq:List Rec)(ad:List Addr):Bool:=
 bq.length==ad.length&&((bq.zip ad).all (λp=>Bv K p.1 p.2)&&((T.fns.zip (bq.zip ad)).all (λp=>AQ p.1&&zY (PySem.W.nsIn K mainGlobals p.1) (some p.2.2))&&
 (uq.all (λx=>vI (PySem.W.nsIn K mainGlobals x))&&(T.icl.all (λc=>jV K c.x λC=>c.mts.all λp=>zY (PySem.W.findIn K (.ref C) p.1) ad[p.2]?)&&T.mks.all (λp=>AQ p.1&&jV K p.1 λC=>zY (PySem.W.findIn K (.ref C) "__init__") ad[p.2]?)))))
section
variable{K:av}{mg:Str->Option Value}{T:Tab}{bq:List Rec}{h:Heap}{ad:List Addr}
theorem wC(hb:∀r∈bq,yY r)(hl:ku K T bq ad=true)(e:(bq.zip ad).map (λp=>K.lookup p.2)=(bq.zip ad).map λp=>yS p.1 (K.lookup p.2)){a:Addr}(ha:ad[j]? =some a):∃r fd,bq[j]? =some r/\Lnk K r a fd:=by
 unfold ku at hl;simp only[Bool.and_eq_true] at hl;obtain⟨h0,h1,_⟩:=hl;have h0:bq.length=ad.length:=by simpa using h0
 have hj:j<bq.length:=by rw[h0];exact(au ha).1
 have hr:bq[j]? =some bq[j]:=aC hj;have hz:(bq.zip ad)[j]? =some (bq[j],a):=by rw[List.getElem?_zip_eq_some];exact⟨hr,ha⟩
 have hm:=ak hz
 have e2:K.lookup a=yS bq[j] (K.lookup a):=by have q:=congrArg (·[j]?) e;simpa[List.getElem?_map,hz] using q
 obtain⟨fd,L⟩:=xZ (hb _ (ak hr)) (List.all_eq_true.mp h1 _ hm) e2;exact⟨_,fd,hr,L⟩
theorem ue(h:AQ x=true):(x==("__debug__":Str))=false:=by unfold AQ at h;simpa using h
theorem qW(X:K.In h)(G:h.Ns mainGlobals mg)(hc:∀r∈bq,Chk T r)(hq:T.calm=true)(hbd:∀r∈bq,yY r)(hl:ku K T bq ad=true)(e:(bq.zip ad).map (λp=>K.lookup p.2)=(bq.zip ad).map λp=>yS p.1 (K.lookup p.2))
  (hlen:T.fns.length<=bq.length)(hI:vK K T=true)
  (hcs:T.csts=[]):Facts P w K mg T bq:=by
 have LK:=λ{j:Nat}{a:Addr}(ha:ad[j]? =some a)=>wC hbd hl e ha;unfold ku at hl;simp only[Bool.and_eq_true] at hl;obtain⟨h0,h1,h2,h4,h6,h7⟩:=hl;refine tY X G hc hq hlen (λp hp=>?_) (λx d hx=>?_) (λx hx=>PySem.W.mg_none_of X G (pY (List.all_eq_true.mp h4 x hx))) hI (λc hc p hp=>?_) (λp hp=>?_) (λt ht C eC=>PySem.W.mg_of X G eC)
 ·obtain⟨i,hi⟩:=List.getElem?_of_mem hp;rw[List.getElem?_zip_eq_some] at hi;have h0:bq.length=ad.length:=by simpa using h0
  have hj:i<ad.length:=by rw[<-h0];exact(au hi.2).1
  have ha:ad[i]? =some ad[i]:=aC hj;obtain⟨r,fd,hr,L⟩:=LK ha;rw[hi.2] at hr;cases hr;have hz:(T.fns.zip (bq.zip ad))[i]? =some (p.1,p.2,ad[i]):=by rw[List.getElem?_zip_eq_some];exact⟨hi.1,by rw[List.getElem?_zip_eq_some];exact⟨hi.2,ha⟩⟩
  have q:=List.all_eq_true.mp h2 _ (ak hz);simp only[Bool.and_eq_true] at q;obtain⟨x,ex,eo⟩:=oK q.2;cases ex;exact⟨ue q.1,_,fd,L,PySem.W.mg_of X G eo⟩
 ·rw[hcs] at hx;cases hx
 ·obtain⟨C,eC,qq⟩:=fM (List.all_eq_true.mp h6 c hc);obtain⟨a,ea,ef⟩:=oK (List.all_eq_true.mp qq p hp);obtain⟨r,fd,hr,L⟩:=LK ea;exact⟨C,r,a,fd,hr,L,eC,ef⟩
 ·have q:=List.all_eq_true.mp h7 p hp;simp only[Bool.and_eq_true] at q;obtain⟨C,eC,qq⟩:=fM q.2;obtain⟨a,ea,ef⟩:=oK qq;obtain⟨r,fd,hr,L⟩:=LK ea;exact⟨ue q.1,C,r,a,fd,hr,L,eC,PySem.W.mg_of X G eC,ef⟩
theorem vC{l:PySem.W.OpenLaw}{fa:Addr}{li:Nat}{a:Addr}{r:Rec}(X:K.In h)(G:h.Ns mainGlobals mg)(hfa:mg "law"=some (.ref fa))(hbd:∀r∈bq,yY r)(hl:ku K T bq ad=true)(e:(bq.zip ad).map (λp=>K.lookup p.2)=(bq.zip ad).map λp=>yS p.1 (K.lookup p.2))
  (Z:Facts l.prog w K mg T bq)(ha:ad[li]? =some a)(hr:bq[li]? =some r)(hn:PySem.W.nsIn K mainGlobals "law"=some (some (.ref a))) (hp:r.ps=[x])(hs:∀ns:List Int,ns.length<=63->∃st',calls (bq.map (·.fn)) n li [.fl (ns.map .int)] []=.ok (.v (.bl true)) st'):
  ∃fd:FuncData,(∀(s:Shared)(v:Value),BindsTo s fd ⟨[v],[]⟩ [(x,v)])/\∀base:Heap,K.In base->base.Ns mainGlobals mg->FnOk l.prog w K mg base (nO l.prog w) (2*n) fa fd [x] (pf K):=by
 have q:=hfa.symm.trans (PySem.W.mg_of X G hn);cases q;obtain⟨r',fd,hr',L⟩:=wC hbd hl e ha;rw[hr] at hr';cases hr';obtain⟨oc,od,kV,doc,pm,an,cdv,ct,osl,rfl,lk,hcd⟩:=L.f.ex;have hb:=hbd _ (ak hr);refine⟨PySem.W.fnOf r.fname r.qual (dJ r.st) (cY r.st) (bW r.st) .none kV doc pm an cdv ct,λs v=>.of_eq ?_,λbase _ _=>?_⟩
 ·have:=hb kV doc pm an cdv ct [v] (by rw[hp];rfl)
  rw[hp] at this;exact this
 ·have F:=je (P:=l.prog) (w:=w) (base:=base) Z n li r _ _ hr L;rw[hp] at F;exact x3 F hs
end
set_option genInjectivity true
open PySem L2
noncomputable def W{α:Type}(r:R α)(Q:α->aP->Prop):Prop:=match r with
 | .ok a st=>Q a st
 | .bad=>False
theorem W.mono{r:R α}{Q Q':α->aP->Prop}(h:W r Q)(k:∀a st,Q a st->Q' a st):W r Q':=by
 cases r with
 |ok a st=>exact k _ _ h
 |bad=>exact h
theorem W.get{r:R α}{Q:α->aP->Prop}(h:W r Q):∃a st,r=.ok a st/\Q a st:=by
 cases r with
 |ok a st=>exact⟨a,st,rfl,h⟩
 |bad=>exact h.elim
noncomputable def Vq(Q:D->aP->Prop):Rs->aP->Prop:=λr st=>match r with
 | .v d=>Q d st
 | .x _=>False
noncomputable abbrev Wv(r:R Rs)(Q:D->aP->Prop):Prop:=W r (Vq Q)
theorem Wv.mono{r:R Rs}{Q Q':D->aP->Prop}(h:Wv r Q)(k:∀a st,Q a st->Q' a st):Wv r Q':=W.mono h λa st q=>by
 cases a with
 |v d=>exact k _ _ q
 |x n=>exact q
theorem aM{m:M α}{f:α->M β}{st:aP}{Q:β->aP->Prop}(h:W (m st) λa st1=>W (f a st1) Q):W (ba m f st) Q:=by
 unfold ba;cases e:m st with
 |ok a st1=>rw[e] at h;exact h
 |bad=>rw[e] at h;exact h
section
variable{g:dO}{loc:Loc}{st:aP}{Q:D->aP->Prop}{a b c:Ex}
theorem aU{d:D}(h:Q d st):W (run g (.c d) loc st) Q:=by rw[run];exact h
theorem aD{d:D}(e:loc[i]? =some (some d))(h:Q d st):W (run g (.v i) loc st) Q:=by rw[run];unfold dh;rw[e];exact h
theorem aW{es:List Ex}(h:W (runs g es loc st) λds st1=>Q (.tup ds) st1):W (run g (.tup es) loc st) Q:=by rw[run];exact aM (h.mono λ_ _ q=>q)
theorem bN{es:List Ex}(h:W (runs g es loc st) λds st1=>Q (.ref st1.length) (st1++[.lst ds])):W (run g (.lst es) loc st) Q:=by rw[run];exact aM (h.mono λ_ _ q=>q)
theorem fi(h:Q (.ref st.length) (st++[.dct []])):W (run g .emp loc st) Q:=by rw[run];exact h
theorem bc{op:Bo}(h:W (run g a loc st) λx st1=>W (run g b loc st1) λy st2=>W (cf op x y st2) Q):W (run g (.bin op a b) loc st) Q:=by rw[run];exact aM (h.mono λ_ _ q=>aM q)
theorem w_not(h:W (run g a loc st) λx st1=>∃k,x=.bl k/\Q (.bl (!k)) st1):W (run g (.not a) loc st) Q:=by
 rw[run];exact aM (h.mono λ_ _ ⟨i,e,q⟩=>by subst e;exact q)
theorem w_and(h:W (run g a loc st) λx st1=>∃k,x=.bl k/\(k=true->W (run g b loc st1) Q)/\(k=false->Q (.bl false) st1)):W (run g (.and a b) loc st) Q:=by
 rw[run];exact aM (h.mono λ_ _ hp=>by
  obtain⟨k,e,q1,q2⟩:=hp;subst e;cases k with
  |true=>exact q1 rfl
  |false=>exact q2 rfl)
theorem w_or(h:W (run g a loc st) λx st1=>∃k,x=.bl k/\(k=true->Q (.bl true) st1)/\(k=false->W (run g b loc st1) Q)):W (run g (.or a b) loc st) Q:=by
 rw[run];exact aM (h.mono λ_ _ hp=>by
  obtain⟨k,e,q1,q2⟩:=hp;subst e;cases k with
  |true=>exact q1 rfl
  |false=>exact q2 rfl)
theorem bD{op:CmpOp}(h:W (run g a loc st) λx st1=>W (run g b loc st1) λy st2=>W (bZ op x y st2) Q):W (run g (.cmp op a b) loc st) Q:=by rw[run];exact aM (h.mono λ_ _ q=>aM q)
theorem o8{op:CmpOp}(h:W (run g a loc st) λx st1=>W (run g b loc st1) λy st2=>W (bZ op x y st2) λz st3=>∃k,z=.bl k/\
  (k=true->W (run g c loc st3) λw st4=>W (bZ op' y w st4) Q)/\(k=false->Q (.bl false) st3)):W (run g (.chain op op' a b c) loc st) Q:=by
 rw[run]
 exact aM (h.mono λ_ _ q=>aM (q.mono λ_ _ q=>aM (q.mono λ_ _ hp=>by
  obtain⟨k,e,q1,q2⟩:=hp;subst e;cases k with
  |true=>exact aM (show W ((ba (run g c loc) λw=>bZ op' _ w) _) Q from aM (q1 rfl))
  |false=>exact q2 rfl)))
theorem bo(h:W (run g a loc st) λx st1=>W (run g b loc st1) λy st2=>W (index x y st2) Q):W (run g (.ix a b) loc st) Q:=by rw[run];exact aM (h.mono λ_ _ q=>aM q)
theorem jh(h:W (run g a loc st) λx st1=>W (run g b loc st1) λy st2=>∃i,y=.int i/\W (slice x none (some i) st2) Q):W (run g (.sl a b b false true) loc st) Q:=by
 rw[run];refine aM (h.mono λ_ _ q=>aM ?_);show W ((ba (if true=true then ba (run g b loc) λz=>ba (dh (j_ z)) λi=>ret (some i) else ret none) λh=>slice _ none h) _) Q
 exact aM (show W ((ba (run g b loc) λz=>ba (dh (j_ z)) λi=>ret (some i)) _) _ from aM (q.mono λ_ _ ⟨i,e,q⟩=>by subst e;exact q))
theorem ji(h:W (run g a loc st) λx st1=>W (run g b loc st1) λy st2=>∃i,y=.int i/\W (slice x (some i) none st2) Q):W (run g (.sl a b b true false) loc st) Q:=by
 rw[run];refine aM (h.mono λ_ _ q=>aM ?_);exact aM (q.mono λ_ _ ⟨i,e,q⟩=>by subst e;exact q)
theorem bK{f:Nat}{args:List Ex}(h:W (runs g args loc st) λds st1=>Wv (g f ds st1) Q):W (run g (.fn f args) loc st) Q:=by
 rw[run];refine aM (h.mono λds st1 q=>aM (W.mono q λr st2 q=>?_));cases r with
 |v d=>exact q
 |x n=>exact q.elim
theorem aZ{ics:List Str}(h:W (run g a loc st) λx st1=>∃n c fs d,x=.ref n/\st1[n]? =some (.ins c fs)/\fs.lookup f=some d/\c∈ics/\Q d st1):W (run g (.fld a f cs ics) loc st) Q:=by
 rw[run];exact aM (h.mono λx st1 ⟨n,c,fs,d,e,e1,e3,hc,q⟩=>by subst e;simp only[yq,e1,e3];rw[if_pos hc];exact q)
theorem dn{f:Nat}{args:List Ex}(h:W (runs g args loc st) λds st1=>Wv (g f (.ref st1.length::ds) (st1++[.ins x []])) λd st2=>d=.non/\Q (.ref st1.length) st2):W (run g (.new x f args) loc st) Q:=by
 rw[run];refine aM (h.mono λds st1 q=>?_);unfold sZ;refine aM (W.mono q λr st2 q=>?_);cases r with
 |v d=>obtain⟨rfl,q⟩:=q;exact q
 |x n=>exact q.elim
theorem fh{m:Str}{ms:List (Str×Nat)}{args:List Ex}(h:W (run g a loc st) λx st1=>∃n c fs j,x=.ref n/\st1[n]? =some (.ins c fs)/\fs.lookup m=none/\ms.lookup c=some j/\W (runs g args loc st1) λds st2=>Wv (g j (.ref n::ds) st2) Q):W (run g (.meth a m ms args) loc st) Q:=by
 rw[run];refine aM (h.mono λx st1 ⟨n,c,fs,j,e,e1,e2,e3,q⟩=>aM ?_);subst e;simp only[pN,e1,e2,e3];refine aM (q.mono λds st2 q=>aM (W.mono q λr st3 q=>?_));cases r with
 |v d=>exact q
 |x n=>exact q.elim
theorem bQ{f:Bt}{args:List Ex}(h:W (runs g args loc st) λds st1=>W (dW f ds st1) Q):W (run g (.bt f args) loc st) Q:=by rw[run];exact aM h
theorem wR{ks:List Str}{es:List Ex}(h:W (runs g es loc st) λds st1=>(ks.length=ds.length/\ks.Nodup)/\Q (.ref st1.length) (st1++[.dct ((ks.zip ds).map λp=>(Sum.inr p.1,p.2))])):W (run g (.dict ks es) loc st) Q:=by
 rw[run];exact aM (h.mono λds st1 ⟨e,q⟩=>by unfold allocK;rw[if_pos e];exact q)
theorem dP{rng:Bool}(h:W (run g a loc st) λd st1=>∃s,cm rng d=some s/\W (ce (λx=>ba (run g b (some x::loc)) λy=>ret (some y)) s st1) Q):W (run g (.comp rng a b) loc st) Q:=by
 rw[run];exact aM (h.mono λ_ _ ⟨s,e,q⟩=>aM (by unfold dh;rw[e];exact q))
end
section
variable{g:dO}{loc:Loc}{st:aP}{Q:List D->aP->Prop}
theorem aj(h:Q [] st):W (runs g [] loc st) Q:=by rw[runs];exact h
theorem ac{e:Ex}{es:List Ex}(h:W (run g e loc st) λd st1=>W (runs g es loc st1) λds st2=>Q (d::ds) st2):W (runs g (e::es) loc st) Q:=by rw[runs];exact aM (h.mono λ_ _ q=>aM (q.mono λ_ _ q=>q))
end
section
end
noncomputable def Kn(g:dO)(ss:List S)(Q:Fl->aP->Prop):Fl->aP->Prop:=λr st=>match r with
 | .nx loc=>W (execs g ss loc st) Q
 | .rt d=>Q (.rt d) st
 | .ex n l=>Q (.ex n l) st
noncomputable def Kr(Q:D->aP->Prop):Fl->aP->Prop:=λr st=>match r with
 | .nx _=>Q .non st
 | .rt d=>Q d st
 | .ex _ _=>False
section
variable{g:dO}{loc:Loc}{st:aP}{Q:Fl->aP->Prop}{ss:List S}{e o i c:Ex}
theorem bj(h:W (execs g ss loc st) Q):Kn g ss Q (.nx loc) st:=h
theorem cB{d:D}(h:Q (.rt d) st):Kn g ss Q (.rt d) st:=h
theorem gP{Q:D->aP->Prop}(h:Q .non st):Kr Q (.nx loc) st:=h
theorem bg{Q:D->aP->Prop}{d:D}(h:Q d st):Kr Q (.rt d) st:=h
theorem aN(h:Q (.nx loc) st):W (execs g [] loc st) Q:=by rw[execs];exact h
theorem cw{s:S}(h:W (exec g s loc st) (Kn g ss Q)):W (execs g (s::ss) loc st) Q:=by
 rw[execs];refine aM (h.mono λr st1 q=>?_);cases r with
 |nx loc'=>exact q
 |rt d=>exact q
 |ex n l=>exact q
theorem wN{ics:List Str}(h:W (run g e loc st) λd st1=>W (run g o loc st1) λx st2=>W (mG cs ics x f d st2) λ_ st3=>W (execs g ss loc st3) Q):W (execs g (.setf o f e cs ics::ss) loc st) Q:=
 cw (by rw[exec];exact aM (h.mono λ_ _ q=>aM (q.mono λ_ _ q=>aM (q.mono λ_ _ q=>q))))
theorem a_(h:W (run g e loc st) λd st1=>W (execs g ss (loc.set n (some d)) st1) Q):W (execs g (.set n e::ss) loc st) Q:=
 cw (by rw[exec];exact aM (h.mono λ_ _ q=>q))
theorem cX(h:W (run g e loc st) λd st1=>W (run g o loc st1) λx st2=>W (run g i loc st2) λk st3=>W (gD x k d st3) λ_ st4=>W (execs g ss loc st4) Q):W (execs g (.setix o i e::ss) loc st) Q:=
 cw (by rw[exec];exact aM (h.mono λ_ _ q=>aM (q.mono λ_ _ q=>aM (q.mono λ_ _ q=>aM (q.mono λ_ _ q=>q)))))
theorem bh(h:W (run g e loc st) λd st1=>Q (.rt d) st1):W (execs g (.ret e::ss) loc st) Q:=
 cw (by rw[exec];exact aM (h.mono λ_ _ q=>q))
theorem gy(h:W (run g o loc st) λx st1=>W (mW x st1) λ_ st2=>W (run g e loc st2) λd st3=>W (append x d st3) λ_ st4=>W (execs g ss loc st4) Q):W (execs g (.app o e::ss) loc st) Q:=
 cw (by rw[exec];exact aM (h.mono λ_ _ q=>aM (q.mono λ_ _ q=>aM (q.mono λ_ _ q=>aM (q.mono λ_ _ q=>q)))))
theorem mq{c:Loc->M D}{f:Loc->M Fl}(I:Nat->Loc->aP->Prop)(turn:∀m loc st,I m loc st->W (c loc st) λx st1=>∃b,x=.bl b/\(b=true->∃m',m=m'+1/\W (f loc st1) λr st2=>match r with| .nx loc'=>I m' loc' st2| .rt d=>Q (.rt d) st2| .ex n l=>Q (.ex n l) st2)/\(b=false->Q (.nx loc) st1)):
  ∀k m loc st,m<k->I m loc st->W (gc c f k loc st) Q
 |0,m,loc,st,h1,h=>by omega
 |k+1,m,loc,st,h1,h=>by
  rw[gc];refine aM ((turn m loc st h).mono λx st1 hp=>?_);obtain⟨b,e,q1,q2⟩:=hp;subst e;cases b with
  |false=>exact q2 rfl
  |true=>
   obtain⟨m',rfl,q⟩:=q1 rfl;refine aM (show W ((if true=true then ba (f loc) _ else _) st1) _ from aM (q.mono λr st2 q=>?_))
   cases r with
   |nx loc'=>exact mq I turn k m' loc' st2 (by omega) q
   |rt d=>exact q
   |ex n l=>exact q
theorem cZ{x y:List S}(h:W (run g c loc st) λz st1=>∃k,z=.bl k/\(k=true->W (execs g x loc st1) (Kn g ss Q))/\(k=false->W (execs g y loc st1) (Kn g ss Q))):W (execs g (.ite c x y::ss) loc st) Q:=
 cw (by
  rw[exec]
  exact aM (h.mono λ_ _ hp=>by
   obtain⟨k,e,q1,q2⟩:=hp;subst e;cases k with
   |true=>exact q1 rfl
   |false=>exact q2 rfl))
noncomputable def Kf(I:Loc->aP->Prop)(Q:Fl->aP->Prop):Fl->aP->Prop:=λr st=>match r with
 | .nx loc=>I loc st
 | .rt d=>Q (.rt d) st
 | .ex n l=>Q (.ex n l) st
theorem cv{I:Loc->aP->Prop}(h:I loc st):Kf I Q (.nx loc) st:=h
end
section
end
theorem wM{g:dO}{loc:Loc}{st:aP}{Q:Fl->aP->Prop}{ss body:List S}{c:Ex}(I:Nat->Loc->aP->Prop)(m:Nat)(hm:m<1000000000)(h0:I m loc st)(turn:∀m loc st,I m loc st->W (run g c loc st) λx st1=>∃b,x=.bl b/\(b=true->∃m',m=m'+1/\W (execs g body loc st1) (Kf (I m') (Kn g ss Q)))/\(b=false->W (execs g ss loc st1) Q)):
  W (execs g (.whil c body::ss) loc st) Q:=by
 refine cw ?_;rw[exec];refine mq I (λm loc st h=>(turn m loc st h).mono λx st1 ⟨b,e,q1,q2⟩=>⟨b,e,λhb=>?_,q2⟩) yp m loc st hm h0;obtain⟨m',e,q⟩:=q1 hb;refine⟨m',e,q.mono λr st2 q=>?_⟩;cases r with
 |nx loc'=>exact q
 |rt d=>exact q
 |ex n l=>exact q
theorem rS{tab:List Fn}{k f:Nat}{fn:Fn}{ds:List D}{st:aP}{Q:D->aP->Prop}(hf:tab[f]? =some fn)(hl:ds.length=fn.ar)(h:W (execs (calls tab k) fn.body (ds.map some++List.replicate (fn.nl - ds.length) none) st) (Kr Q)):Wv (calls tab (k+1) f ds st) Q:=by
 simp only[Wv,calls,hf,qk,if_pos hl];refine aM (h.mono λr st1 q=>?_);cases r with
 |nx loc'=>exact q
 |rt d=>exact q
 |ex n l=>exact q.elim
section
variable{st:aP}{Q:D->aP->Prop}{i j:Int}
theorem w_add(h:Q (.int (i+j)) st):W (cf .add (.int i) (.int j) st) Q:=h
theorem w_sub(h:Q (.int (i - j)) st):W (cf .sub (.int i) (.int j) st) Q:=h
theorem w_mul(hb:(-18446744073709551616<i/\i<18446744073709551616)∨(-18446744073709551616<j/\j<18446744073709551616))(h:Q (.int (i*j)) st):W (cf .mul (.int i) (.int j) st) Q:=by simp only[cf,sX];rw[if_pos (.inl (show(-big<i/\i<big)∨(-big<j/\j<big) from hb))];exact h
theorem w_mod(hb:0<j)(h:Q (.int (i % j)) st):W (cf .mod (.int i) (.int j) st) Q:=by
 simp only[cf,ii];rw[if_pos (by omega),Int.fmod_eq_emod_of_nonneg i (by omega)];exact h
theorem cG(hb:0<j/\j<4611686018427387904)(h:Q (.int (i / j)) st):W (cf .fdiv (.int i) (.int j) st) Q:=by
 simp only[cf,ii];rw[if_pos ⟨by omega,aw (show j.natAbs<4611686018427387904 by omega) (by decide)⟩,Int.fdiv_eq_ediv_of_nonneg i (by omega)];exact h
theorem fj{as bs:List D}(hm:st[m]? =some (.lst as))(hn:st[n]? =some (.lst bs))(hb:as.length+bs.length<=1000000)(h:Q (.ref st.length) (st++[.lst (as++bs)])):W (cf .add (.ref m) (.ref n) st) Q:=by simp only[cf,addD,hm,hn];rw[if_pos hb];exact h
theorem w_eq{x y:D}{k:Bool}(e:dj 60 st x y=some k)(h:Q (.bl k) st):W (bZ .Eq x y st) Q:=by simp only[bZ,e];exact h
theorem uN{x y:D}{k:Bool}(e:dj 60 st x y=some k)(h:Q (.bl (!k)) st):W (bZ .NotEq x y st) Q:=by simp only[bZ,e];exact h
theorem f7(h:Q (.bl (decide (i=j))) st):W (bZ .Eq (.int i) (.int j) st) Q:=w_eq (k:=decide (i=j)) (by simp[dj,shape,qb];rfl) h
theorem w_lt(h:Q (.bl (decide (i<j))) st):W (bZ .Lt (.int i) (.int j) st) Q:=h
theorem wP(h:Q (.bl (decide (i<=j))) st):W (bZ .LtE (.int i) (.int j) st) Q:=h
theorem wQ(h:Q (.bl (decide (j<i))) st):W (bZ .Gt (.int i) (.int j) st) Q:=h
theorem w_is{x y:D}{k:Bool}(e:yT x y=some k)(h:Q (.bl k) st):W (bZ .Is x y st) Q:=by simp only[bZ,e];exact h
theorem bw{xs:List D}{d:D}(e:qm xs i=some d)(h:Q d st):W (index (.tup xs) (.int i) st) Q:=by simp only[index,bp,e];exact h
theorem jj{xs:List D}{d:D}(hn:st[n]? =some (.lst xs))(e:qm xs i=some d)(h:Q d st):W (index (.ref n) (.int i) st) Q:=by simp only[index,bp,hn,e];exact h
theorem rN{kvs:List (Key×D)}{k:Str}{d:D}(hn:st[n]? =some (.dct kvs))(e:ci kvs (.inr k)=some d)(h:Q d st):W (index (.ref n) (.str k) st) Q:=by simp only[index,yV,hn,e];exact h
theorem kZ{kvs:List (Key×D)}{d:D}(hn:st[n]? =some (.dct kvs))(e:ci kvs (.inl i)=some d)(h:Q d st):W (index (.ref n) (.int i) st) Q:=by simp only[index,bp,yV,hn,e];exact h
theorem em{kvs:List (Key×D)}(hn:st[n]? =some (.dct kvs))(h:Q (.ref st.length) (st++[.dct kvs])):W (dW .dict [.ref n] st) Q:=by simp only[dW,rn,ck,hn];exact h
theorem b9{kvs:List (Key×D)}{x v:D}{k:Key}{Q:Unit->aP->Prop}(hn:st[n]? =some (.dct kvs))(hk:j9 x=some k)(hl:kvs.length<1000000)(h:Q () (st.set n (.dct (bS kvs k v)))):W (gD (.ref n) x v st) Q:=by simp only[gD,hn,hk];rw[if_pos hl];exact h
theorem uL{c:Str}{fs:List (Str×D)}{ics:List Str}{v:D}{Q:Unit->aP->Prop}(hn:st[n]? =some (.ins c fs))(hl:fs.length<900/\c∈ics)(h:Q () (st.set n (.ins c (putD f v fs)))):W (mG cs ics (.ref n) f v st) Q:=by simp only[mG,hn];rw[if_pos hl];exact h
theorem oW{xs:List α}(h0:0<=i)(h1:i<xs.length):∃d,qm xs i=some d/\xs[i.toNat]? =some d:=by
 have hi:i.toNat<xs.length:=by omega
 refine⟨xs[i.toNat],?_,by simp[hi]⟩
 unfold qm wD;rw[if_pos h0,if_pos h1];show xs[i.toNat]? =_;simp[hi]
theorem fP{xs:List D}(hn:st[n]? =some (.lst xs))(h0:0<=i)(h1:i<xs.length)(h:∀d,d∈xs->xs[i.toNat]? =some d->Q d st):W (index (.ref n) (.int i) st) Q:=by obtain⟨d,e,e2⟩:=oW h0 h1;exact jj hn e (h d (ak e2) e2)
theorem rM{xs:List D}(h:Q (.int xs.length) st):W (dW .len [.tup xs] st) Q:=h
theorem gf{xs:List D}(hn:st[n]? =some (.lst xs))(h:Q (.int xs.length) st):W (dW .len [.ref n] st) Q:=by simp only[dW,rn,bp,hn];exact h
theorem fO{xs:List D}(h:Q (.ref st.length) (st++[.lst xs])):W (dW .list [.tup xs] st) Q:=h
theorem mw{xs:List D}(h:Q (.tup xs) st):W (dW .tuple [.tup xs] st) Q:=h
theorem bP{xs:List D}(hn:st[n]? =some (.lst xs))(h:Q (.tup xs) st):W (dW .tuple [.ref n] st) Q:=by simp only[dW,rn,bp,hn];exact h
theorem wg{xs:List D}(hn:¬(HT.cu xs.length 0 lo=0/\HT.cu xs.length xs.length hi=xs.length))(h:Q (.tup (cutD xs lo hi)) st):W (slice (.tup xs) lo hi st) Q:=by simp only[slice];rw[if_neg hn];exact h
theorem rH{xs:List D}(hn:st[n]? =some (.lst xs))(h:Q (.ref st.length) (st++[.lst (cutD xs lo hi)])):W (slice (.ref n) lo hi st) Q:=by simp only[slice,bp,hn];exact h
theorem db{xs:List D}{Q:Unit->aP->Prop}(hn:st[n]? =some (.lst xs))(h:Q () st):W (mW (.ref n) st) Q:=by simp only[mW,hn];exact h
theorem cH{xs:List D}{v:D}{Q:Unit->aP->Prop}(hn:st[n]? =some (.lst xs))(hl:xs.length<1000000)(h:Q () (st.set n (.lst (xs++[v])))):W (append (.ref n) v st) Q:=by simp only[append,hn];rw[if_pos hl];exact h
end
noncomputable def Gr(st st':aP):Prop:=∃t,st'=st++t
theorem Gr.refl(st:aP):Gr st st:=⟨[],by simp⟩
theorem Gr.trans{a b c:aP}(h:Gr a b)(k:Gr b c):Gr a c:=by
 obtain⟨t,rfl⟩:=h;obtain⟨u,rfl⟩:=k;exact⟨t++u,by simp⟩
theorem Gr.one(st:aP)(o:O):Gr st (st++[o]):=⟨[o],rfl⟩
theorem Gr.more{a b:aP}(h:Gr a b)(o:O):Gr a (b++[o]):=h.trans (.one b o)
theorem Gr.le{a b:aP}(h:Gr a b):a.length<=b.length:=by obtain⟨t,rfl⟩:=h;simp
theorem Gr.at{a b:aP}(h:Gr a b){o:O}(e:a[i]? =some o):b[i]? =some o:=by obtain⟨t,rfl⟩:=h;have:=(au e).1;rw[aJ this];exact e
theorem aq{st:aP}{o:O}:(st++[o])[st.length]? =some o:=by simp
theorem aL{st:aP}{o:O}{t:aP}(e:st[i]? =some o):(st++t)[i]? =some o:=by have:=(au e).1;rw[aJ this];exact e
theorem cy{j:Int}(h: -1000000<=j/\j<=1000000):cm true (.int j)=some (.its (bL j.toNat)):=by simp only[cm];rw[if_pos h]
theorem bH(n:Nat):(bL n).length=n:=by simp[bL]
theorem cn{st:aP}{o:O}(h:n<st.length):(st.set n o)[n]? =some o:=by rw[aY h]
theorem wT{st:aP}{a b:O}:(st++[a,b])[st.length]? =some a:=by simp
theorem bJ{st:aP}{a b:O}:(st++[a]).set st.length b=st++[b]:=by simp
theorem jq{st:aP}{a b c:O}:(st++[a,b]).set st.length c=st++[c,b]:=by simp
section
variable{g:dO}{loc:Loc}{st:aP}{Q:D->aP->Prop}{a b c e:Ex}
theorem wk(h:W (run g a loc st) λx st1=>∃n y ys,x=.ref n/\st1[n]? =some (.lst (y::ys))/\Q y (st1.set n (.lst ys))):W (run g (.pop a) loc st) Q:=by
 rw[run];exact aM (h.mono λx st1 ⟨n,y,ys,e,e1,q⟩=>by subst e;simp only[xA,e1];exact q)
theorem wn(h:W (run g a loc st) λy st1=>∃n fs,y=.ref n/\st1[n]? =some (.ins x fs)/\Q (.bl true) st1):W (run g (.isk a x) loc st) Q:=by
 rw[run];exact aM (h.mono λy st1 ⟨n,fs,e,e1,q⟩=>by subst e;simp only[yi,e1];exact q)
theorem rJ(h:W (run g a loc st) λy st1=>∃n kvs ns,y=.ref n/\st1[n]? =some (.dct kvs)/\kA kvs=some ns/\(ns.Pairwise (· < ·)/\kvs.length<64)/\Q (.ref st1.length) (st1++[.lst ((ns.zip kvs).map λp=>.tup [.int p.1,p.2.2])])):W (run g (.sit a) loc st) Q:=by
 rw[run];exact aM (h.mono λy st1 ⟨n,kvs,ns,e,e1,e2,e3,q⟩=>by subst e;simp only[w5,ck,e1,e2];rw[if_pos e3];exact q)
theorem y_{y:D}{kvs:List (Key×D)}{ks:List D}(hi:loc[i]? =some (some (.ref n)))(hj:loc[j]? =some (some y))(hn:st[n]? =some (.dct kvs))(hc:oC y=true/\fY (kvs.map (·.2))=true/\kvs.length<=1000)(hk:oH kvs y kvs=some ks)(h:Q (.ref st.length) (st++[.lst ks])):W (run g (.keq i j) loc st) Q:=by rw[run];refine aM ?_;unfold dh;rw[hi];refine aM ?_;rw[hj];show W (vG (.ref n) y st) Q;simp only[vG,ck,hn];rw[if_pos hc];simp only[hk];exact h
theorem zc(h:W (run g a loc st) λx st1=>W (run g b loc st1) λy st2=>∃n kvs k,y=.ref n/\st2[n]? =some (.dct kvs)/\dM st2 x (kvs.map (·.2))=some k/\Q (.bl k) st2):W (run g (.inV a b) loc st) Q:=by
 rw[run];exact aM (h.mono λx st1 q=>aM (q.mono λy st2 ⟨n,kvs,k,e,e1,e2,q⟩=>by subst e;simp only[yk,ck,e1,e2];exact q))
noncomputable def iS(kvs:List (Key×D)):D->D
 | .int i=>(ci kvs (.inl i)).getD (.int i)
 |d=>d
theorem rQ(h:W (run g a loc st) λx st1=>∃n kv0,x=.ref n/\st1[n]? =some (.dct kv0)/\W (run g b loc st1) λk st2=>W (run g c loc st2) λz st3=>∃kvs,st3[n]? =some (.dct kvs)/\z=k/\(k=.non∨∃i,k=.int i)/\Q (iS kvs k) st3):W (run g (.dget a b c) loc st) Q:=by
 rw[run];refine aM (h.mono λx st1 hp=>?_);obtain⟨n,kv0,e,e1,q⟩:=hp;subst e;refine aM ?_;simp only[ud,ck,e1];refine aM (q.mono λk st2 q=>aM (q.mono λz st3 hp=>?_));obtain⟨kvs,e2,rfl,e3,q⟩:=hp;rcases e3 with rfl|⟨i,rfl⟩
 ·simp only[qf,ck,e2,j9];exact q
 ·simp only[qf,ck,e2,j9];exact q
theorem my(h:W (run g a loc st) λd st1=>∃s,cm false d=some s/\W (ce (λx=>ba (run g b (some x::loc)) λz=>ba (dh (eg z)) λk=>if k then ba (run g c (some x::loc)) λy=>ret (some y) else ret none) s st1) Q):W (run g (.compIf a b c) loc st) Q:=by
 rw[run];exact aM (h.mono λ_ _ ⟨s,e,q⟩=>aM (by unfold dh;rw[e];exact q))
theorem dG(h:W (run g a loc st) λd st1=>∃s,cm false d=some s/\W (ce (pairF λx y=>run g b (some x::some y::loc)) s st1) Q):W (run g (.compU a b) loc st) Q:=by
 rw[run];exact aM (h.mono λ_ _ ⟨s,e,q⟩=>aM (by unfold dh;rw[e];exact q))
variable{i j:Int}
theorem w_pow(hb:0<=j/\j<=1000/\i.natAbs<1000)(h:Q (.int (i^j.toNat)) st):W (cf .pow (.int i) (.int j) st) Q:=by simp only[cf,ii];rw[if_pos hb];exact h
theorem rO{k:Bool}(h:Q (.int (if k then 1 else 0)) st):W (dW .int [.bl k] st) Q:=h
theorem wm(h:Q (.int (if j>i then j else i)) st):W (dW .max [.int i,.int j] st) Q:=h
theorem wl(h:Q (.int (if j<i then j else i)) st):W (dW .min [.int i,.int j] st) Q:=h
theorem wj{xs:List D}(hm:st[m]? =some (.lst xs))(hj:0<=j/\j<=1000/\xs.length<=1000)(h:Q (.ref st.length) (st++[.lst (List.replicate j.toNat xs).flatten])):W (cf .mul (.ref m) (.int j) st) Q:=by simp only[cf,sX,hm];rw[if_pos hj];exact h
theorem uO{xs:List D}{ps:List (Key×D)}(hp:qz xs=some ps)(h:Q (.ref st.length) (st++[.dct (tX ps)])):W (dW .dict [.tup xs] st) Q:=by simp only[dW,rn,hp];exact h
theorem nR{kvs:List (Key×D)}(hn:st[n]? =some (.dct kvs))(h:Q (.int kvs.length) st):W (dW .len [.ref n] st) Q:=by simp only[dW,rn,bp,ck,hn];exact h
theorem rP{x:D}{kvs:List (Key×D)}{k:Key}(hn:st[n]? =some (.dct kvs))(hk:j9 x=some k)(h:Q (.bl (ci kvs k).isSome) st):W (bZ .In x (.ref n) st) Q:=by simp only[bZ,bp,iE,hn,hk];exact h
theorem zd{kvs:List (Key×D)}(hn:st[n]? =some (.dct kvs))(h:Q (.bl false) st):W (bZ .In .non (.ref n) st) Q:=by simp only[bZ,bp,iE,hn,j9];exact h
theorem uM{x:D}{ys:List D}{k:Bool}(e:dM st x ys=some k)(h:Q (.bl (!k)) st):W (bZ .NotIn x (.tup ys) st) Q:=by simp only[bZ,bp,e];exact h
theorem y8{xs:List D}(h:Q (.ref st.length) (st++[.lst (cutD xs lo hi)])):W (slice (.fl xs) lo hi st) Q:=h
end
section
variable{g:dO}{loc:Loc}{st:aP}{Q:Fl->aP->Prop}{ss:List S}{e a b:Ex}
theorem mr(h:W (run g e loc st) λd st1=>∃ds,bp st1 d=some ds/\ds.length=is.length/\W (execs g ss (gE is ds loc) st1) Q):W (execs g (.unp is e::ss) loc st) Q:=
 cw (by
  rw[exec];exact aM (h.mono λd st1 ⟨ds,e1,e2,q⟩=>aM (by unfold items?;simp only[e1];rw[if_pos e2];exact q)))
theorem ej{rng:Bool}{body:List S}(h:W (run g e loc st) λd st1=>∃s,cm rng d=some s/\W (d8 (λx loc'=>execs g body (loc'.set n (some x))) s loc st1) (Kn g ss Q)):W (execs g (.for_ n rng e body::ss) loc st) Q:=
 cw (by rw[exec];exact aM (h.mono λ_ _ ⟨s,e,q⟩=>aM (by unfold dh;rw[e];exact q)))
theorem o7{body:List S}(h:W (run g a loc st) λx st1=>W (run g b loc st1) λy st2=>∃s,gC x y=some s/\W (d8 (λx loc'=>execs g body (loc'.set n (some x))) s loc st2) (Kn g ss Q)):W (execs g (.for2 n a b body::ss) loc st) Q:=
 cw (by rw[exec];exact aM (h.mono λ_ _ q=>aM (q.mono λ_ _ ⟨s,e,q⟩=>aM (by unfold dh;rw[e];exact q))))
theorem gx{body:List S}(h:W (run g e loc st) λd st1=>∃s,cm false d=some s/\W (d8 (λx loc'=>ba (items? is.length x) λds=>execs g body (gE is ds loc')) s loc st1) (Kn g ss Q)):W (execs g (.forU is e body::ss) loc st) Q:=
 cw (by rw[exec];exact aM (h.mono λ_ _ ⟨s,e,q⟩=>aM (by unfold dh;rw[e];exact q)))
theorem k5{body:List S}(h:W (run g a loc st) λx st1=>W (run g b loc st1) λy st2=>W (d8 (λx loc'=>ba (items? is.length x) λds=>execs g body (gE is ds loc')) (.zp x y) loc st2) (Kn g ss Q)):W (execs g (.forZ is a b body::ss) loc st) Q:=
 cw (by rw[exec];exact aM (h.mono λ_ _ q=>aM (q.mono λ_ _ q=>aM (show W ((dh (y4 _ _)) _) _ from q))))
theorem fQ{ds:List D}{f:List D->M Fl}(hl:ds.length=n)(h:W (f ds st) Q):W ((ba (items? n (.tup ds)) f) st) Q:=aM (by unfold items?;simp only[bp];rw[if_pos hl];exact h)
theorem o6{f:D->Loc->M Fl}{s:Src}{L:List D}(I:Nat->Loc->aP->Prop)(nx:∀i loc st,I i loc st->im s i st=some L[i]?)(step:∀i x loc st,L[i]? =some x->I i loc st->W (f x loc st) (Kf (I (i+1)) Q))
  (fin:∀loc st,I L.length loc st->Q (.nx loc) st):∀k i loc st,i<=L.length->L.length<k+i->I i loc st->W (iY f s k i loc st) Q
 |0,i,loc,st,h1,h2,h=>by omega
 |k+1,i,loc,st,h1,h2,h=>by
  simp only[iY,nx i loc st h];cases e:L[i]? with
  |none=>
   have:i=L.length:=by have:=List.getElem?_eq_none_iff.mp e;omega
   subst this;exact fin loc st h
  |some x=>
   have hi:=(au e).1;refine aM ((step i x loc st e h).mono λr st1 q=>?_);cases r with
   |nx loc'=>exact o6 I nx step fin k (i+1) loc' st1 hi (by omega) q
   |rt d=>exact q
   |ex n l=>exact q
theorem cx{f:D->Loc->M Fl}{s:Src}{L:List D}(hl:L.length<=dA s st)(I:Nat->Loc->aP->Prop)(h0:I 0 loc st)(nx:∀i loc st,I i loc st->im s i st=some L[i]?)(step:∀i x loc st,L[i]? =some x->I i loc st->W (f x loc st) (Kf (I (i+1)) Q))
  (fin:∀loc st,I L.length loc st->Q (.nx loc) st):W (d8 f s loc st) Q:=by
 unfold d8;exact o6 I nx step fin _ 0 loc st (Nat.zero_le _) (by omega) h0
end
section
variable{st:aP}{Q:D->aP->Prop}{f:D->M (Option D)}
theorem jk{s:Src}{L:List D}{Q:List D->aP->Prop}(I:Nat->List D->aP->Prop)(nx:∀i acc st,I i acc st->im s i st=some L[i]?)(step:∀i x acc st,L[i]? =some x->I i acc st->W (f x st) λo st1=>I (i+1) (match o with|some y=>acc++[y]|none=>acc) st1)
  (fin:∀acc st,I L.length acc st->Q acc st):∀k i acc st,i<=L.length->L.length<k+i->I i acc st->W (d_ f s k i acc st) Q
 |0,i,acc,st,h1,h2,h=>by omega
 |k+1,i,acc,st,h1,h2,h=>by
  simp only[d_,nx i acc st h];cases e:L[i]? with
  |none=>
   have:i=L.length:=by have:=List.getElem?_eq_none_iff.mp e;omega
   subst this;exact fin acc st h
  |some x=>
   have hi:=(au e).1;refine aM ((step i x acc st e h).mono λo st1 q=>?_);cases o with
   |none=>exact jk I nx step fin k (i+1) acc st1 hi (by omega) q
   |some y=>exact jk I nx step fin k (i+1) (acc++[y]) st1 hi (by omega) q
theorem et{s:Src}{L:List D}(hl:dA s st<=1000000)(hL:L.length<=dA s st)(I:Nat->List D->aP->Prop)(h0:I 0 [] st)(nx:∀i acc st,I i acc st->im s i st=some L[i]?)(step:∀i x acc st,L[i]? =some x->I i acc st->W (f x st) λo st1=>I (i+1) (match o with|some y=>acc++[y]|none=>acc) st1)
  (fin:∀acc st,I L.length acc st->Q (.ref st.length) (st++[.lst acc])):W (ce f s st) Q:=by
 unfold ce;rw[if_pos hl];exact aM (W.mono (jk (Q:=λacc st=>Q (.ref st.length) (st++[.lst acc])) I nx step fin _ 0 [] st (Nat.zero_le _) (by omega) h0) λacc st q=>(show Q (.ref st.length) (st++[.lst acc]) from q))
theorem ge{xs:List D}{F:D->D}(hl:xs.length<=1000000)(h:∀x∈xs,∀st1,Gr st st1->W (f x st1) λo st2=>o=some (F x)/\Gr st1 st2)(k:∀st2,Gr st st2->Q (.ref st2.length) (st2++[.lst (xs.map F)])):W (ce f (.its xs) st) Q:=by
 refine et (L:=xs) hl (ah _) (λi acc st1=>Gr st st1/\acc=(xs.take i).map F) ⟨.refl _,rfl⟩ (λi acc st1 _=>rfl) (λi x acc st1 e hp=>?_) (λacc st1 hp=>?_)
 ·obtain⟨g,rfl⟩:=hp;refine(h x (ak e) st1 g).mono λo st2 q=>?_;obtain⟨rfl,g2⟩:=q;refine⟨g.trans g2,?_⟩;rw[List.take_add_one,e];simp
 ·obtain⟨g,rfl⟩:=hp;rw[List.take_length];exact k st1 g
theorem wO{xs:List D}{F:D->D}(hn:st[n]? =some (.lst xs))(hl:xs.length<=1000000)(h:∀x∈xs,∀st1,Gr st st1->W (f x st1) λo st2=>o=some (F x)/\Gr st1 st2)(k:∀st2,Gr st st2->Q (.ref st2.length) (st2++[.lst (xs.map F)])):W (ce f (.at n) st) Q:=by
 have hL:dA (.at n) st=xs.length:=by simp only[dA,hn]
 refine et (L:=xs) (by rw[hL];exact hl) (by rw[hL];exact ah _) (λi acc st1=>Gr st st1/\acc=(xs.take i).map F) ⟨.refl _,rfl⟩ (λi acc st1 hp=>by simp only[im,hp.1.at hn]) (λi x acc st1 e hp=>?_) (λacc st1 hp=>?_)
 ·obtain⟨g,rfl⟩:=hp;refine(h x (ak e) st1 g).mono λo st2 q=>?_;obtain⟨rfl,g2⟩:=q;refine⟨g.trans g2,?_⟩;rw[List.take_add_one,e];simp
 ·obtain⟨g,rfl⟩:=hp;rw[List.take_length];exact k st1 g
theorem c0{g:dO}{loc:Loc}{e:Ex}{Q:Option D->aP->Prop}(h:W (run g e loc st) λy st1=>Q (some y) st1):W ((ba (run g e loc) λy=>ret (some y)) st) Q:=aM (h.mono λ_ _ q=>q)
theorem gu{f:D->D->M D}{x y:D}{Q:Option D->aP->Prop}(h:W (f x y st) λz st1=>Q (some z) st1):W (pairF f (.tup [x,y]) st) Q:=aM (h.mono λ_ _ q=>q)
end
mutual
noncomputable def yF:D->Nat
 | .tup xs=>nA xs+1
 |_=>0
noncomputable def nA:List D->Nat
 |[]=>0
 |d::ds=>max (yF d) (nA ds)
end
mutual
theorem qa{st:aP}:∀(n:Nat)(d:D),oC d=true->yF d<n->dj n st d d=some true
 |0,_,_,h=>absurd h (Nat.not_lt_zero _)
 |n+1,.tup xs,h,hd=>by
  have h:fY xs=true:=h;have hd:nA xs+1<n+1:=hd;show(match shape st (.tup xs),shape st (.tup xs) with|a,b=>dj (n+1) st (.tup xs) (.tup xs))=_
  dsimp only;have:=jO (st:=st) n xs h (by omega)
  unfold dj;simp only[shape];exact this
 |n+1,.non,_,_=>by simp[dj,shape,qb]
 |n+1,.bl _,_,_=>by simp[dj,shape,qb]
 |n+1,.int _,_,_=>by simp[dj,shape,qb]
 |n+1,.str _,_,_=>by simp[dj,shape,qb]
 |_+1,.fl _,h,_=>by cases h
 |_+1,.ref _,h,_=>by cases h
theorem jO{st:aP}:∀(n:Nat)(xs:List D),fY xs=true->nA xs<n->dF (mn (dj n st)) xs xs=some true
 |_,[],_,_=>rfl
 |n,d::ds,h,hd=>by
  have h:(oC d&&fY ds)=true:=h;rw[Bool.and_eq_true] at h;have hd:max (yF d) (nA ds)<n:=hd
  have h1:mn (dj n st) d d=some true:=by
   unfold mn;split
   ·rw[if_pos rfl]
   ·exact qa n d h.1 (by omega)
  unfold dF;rw[h1,jO n ds h.2 (by omega)]
  rfl
end
theorem l_{m:Nat}:∀{xs:List D},(∀x∈xs,yF x<=m)->nA xs<=m
 |[],_=>Nat.zero_le _
 |x::xs,h=>by show max (yF x) (nA xs)<=m;have h1:=h x (.head _);have h2:=l_ λy hy=>h y (.tail _ hy);omega
theorem lD:∀{xs:List D},(∀x∈xs,oC x=true)->fY xs=true
 |[],_=>rfl
 |x::xs,h=>by show(oC x&&fY xs)=true;rw[h x (.head _),lD λy hy=>h y (.tail _ hy)];rfl
local macro_rules| `(tactic|walk_at "ev1")=> `(tactic|with_reducible first
 |refine aU ?_|(refine aD (by with_unfolding_all rfl) ?_)|refine aW ?_|refine bN ?_|refine fi ?_|refine bc ?_|refine w_not ?_|refine w_and ?_|refine w_or ?_|refine bD ?_|refine o8 ?_|refine bo ?_|refine jh ?_|refine ji ?_
 |refine dn ?_|refine bK ?_|refine bQ ?_|refine dP ?_|refine my ?_|refine dG ?_|refine aj ?_|refine ac ?_|refine c0 ?_|refine wk ?_|refine wn ?_|refine rJ ?_|refine zc ?_|refine rQ ?_|refine aZ ?_|refine fh ?_
 |refine aN ?_|refine a_ ?_|refine cX ?_|refine bh ?_|refine gy ?_|refine cZ ?_|refine mr ?_|refine ej ?_|refine o7 ?_|refine gx ?_|refine k5 ?_|refine bj ?_|refine cB ?_|refine gP ?_|refine bg ?_|refine cv ?_|refine kf_rt ?_
 |refine w_add ?_|refine w_sub ?_|refine f7 ?_|refine w_neI ?_|refine w_lt ?_|refine wP ?_|refine wQ ?_|refine rM ?_|refine w_lenF ?_|refine fO ?_|refine mw ?_|refine rO ?_|refine wm ?_|refine wl ?_
 |(refine w_mul (by omega) ?_)|(refine w_mod (by omega) ?_)|(refine cG (by omega) ?_)|(refine w_pow (by decide) ?_)|(refine bw (by with_unfolding_all rfl) ?_))
local macro_rules| `(tactic|walk_at "ev")=> `(tactic|repeat (walk_at "ev1"))
namespace K21
variable{P:D->Prop}{d e kd r t v x y:D}{f:Str}{c j l m n p s:Nat}{a b st st' st1:aP}{ss:List S}{Q:Fl->aP->Prop}{loc:Loc}{g:dO}{o:O}{cs ks rows tk xs ys:List D}{i num skip w:Int}{bl gv kvs nm:List (Key×D)}{qs rs:List Nat}{x12 x13 x14 x15 x2 x5 x6 x7 x8 x9:Option D}{hi lo:Option Int}
noncomputable abbrev vQ:Nat:=0
noncomputable def gW:Fn:=⟨2,2,[.ite (.and (.cmp .Eq (.ix (.v 0) (.c (.int (0)))) (.c (.str "name"))) (.cmp .In (.ix (.v 0) (.c (.int (1)))) (.v 1))) [.ret (.ix (.v 1) (.ix (.v 0) (.c (.int (1)))))] [],.ret (.v 0)]⟩
noncomputable abbrev tL:Nat:=1
noncomputable def jN:Fn:=⟨2,2,[.ret (.bt .tuple [(.comp false (.v 0) (.fn 0 [(.v 0),(.v 2)]))])]⟩
noncomputable abbrev lR:Nat:=2
noncomputable def eD:Fn:=⟨3,3,[.ret (.tup [(.dget (.v 2) (.ix (.v 0) (.c (.int (0)))) (.ix (.v 0) (.c (.int (0))))),(.fn 1 [(.ix (.v 0) (.c (.int (1)))),(.v 1)])])]⟩
noncomputable abbrev lS:Nat:=3
noncomputable def eE:Fn:=⟨2,3,[.set 2 (.bin .mod (.bin .add (.bin .add (.bin .mul (.bin .mod (.v 0) (.c (.int (2147483629)))) (.c (.int (48271)))) (.bin .mul (.v 1) (.c (.int (7919))))) (.c (.int (104729)))) (.c (.int (2147483629)))),.set 2 (.bin .mod (.bin .add (.bin .add (.bin .mul (.bin .mod (.bin .mul (.v 2) (.v 2)) (.c (.int (2147483629)))) (.c (.int (16807)))) (.bin .mul (.v 1) (.c (.int (104729))))) (.c (.int (11)))) (.c (.int (2147483587)))),.ret (.bin .mod (.bin .mul (.v 2) (.v 2)) (.c (.int (2147483587))))]⟩
noncomputable abbrev jG:Nat:=4
noncomputable def dC:Fn:=⟨2,6,[.set 2 (.lst []),.for_ 3 false (.v 0) [.set 4 (.v 3),.for_ 5 true (.c (.int (40))) [.ite (.cmp .Lt (.v 3) (.bin .pow (.c (.int (10))) (.c (.int (18))))) [.app (.v 2) (.bin .mod (.fn 3 [(.v 3),(.bt .len [(.v 2)])]) (.c (.int (1009))))] [.ite (.cmp .Gt (.v 4) (.c (.int (0)))) [.app (.v 2) (.bin .mod (.v 4) (.c (.int (1009)))),.set 4 (.bin .fdiv (.v 4) (.c (.int (1009))))] []]]],.whil (.cmp .Lt (.bt .len [(.v 2)]) (.v 1)) [.app (.v 2) (.bin .mod (.fn 3 [(.bt .len [(.v 2)]),(.v 1)]) (.c (.int (1009))))],.ret (.sl (.v 2) (.v 1) (.v 1) false true)]⟩
noncomputable abbrev m_:Nat:=5
noncomputable def fw:Fn:=⟨1,1,[.ite (.cmp .Eq (.v 0) (.lst [])) [.ret (.c (.int (0)))] [],.ret (.pop (.v 0))]⟩
noncomputable abbrev oN:Nat:=6
noncomputable def gk:Fn:=⟨1,1,[.setix (.v 0) (.c (.str "count")) (.bin .add (.ix (.v 0) (.c (.str "count"))) (.c (.int (1)))),.ret (.cmp .Eq (.ix (.v 0) (.c (.str "count"))) (.ix (.v 0) (.c (.str "at"))))]⟩
noncomputable abbrev jF:Nat:=7
noncomputable def dB:Fn:=⟨4,6,[.set 4 (.fn 5 [(.v 0)]),.ite (.fn 6 [(.v 1)]) [.set 5 (.lst [(.tup [(.c (.str "name")),(.c (.int (77)))]),(.tup [(.c (.str "num")),(.c (.bl true))]),(.tup [(.c (.str "truth")),(.c (.int (1)))]),(.tup [(.c (.str "num")),(.c (.int (3)))]),(.tup [(.c (.str "truth")),(.c (.bl false))]),(.tup [(.c (.str "name")),(.bin .mod (.v 4) (.c (.int (12))))])]),.ret (.ix (.v 5) (.bin .mod (.bin .fdiv (.v 4) (.c (.int (12)))) (.c (.int (6)))))] [],.set 5 (.keq 2 3),.ite (.or (.cmp .NotIn (.v 3) (.tup [(.tup [(.c (.str "num"))]),(.tup [(.c (.str "truth"))])])) (.and (.cmp .NotEq (.v 5) (.lst [])) (.cmp .Gt (.bin .mod (.v 4) (.c (.int (4)))) (.c (.int (0)))))) [.ret (.tup [(.c (.str "name")),(.ix (.bin .add (.v 5) (.lst [(.c (.int (78)))])) (.bin .mod (.bin .fdiv (.v 4) (.c (.int (4)))) (.bt .max [(.c (.int (1))),(.bt .len [(.v 5)])])))])] [],.ite (.cmp .Eq (.v 3) (.tup [(.c (.str "num"))])) [.ret (.tup [(.c (.str "num")),(.bin .sub (.bin .fdiv (.v 4) (.c (.int (4)))) (.c (.int (9))))])] [],.ret (.tup [(.c (.str "truth")),(.cmp .Eq (.bin .mod (.bin .fdiv (.v 4) (.c (.int (4)))) (.c (.int (2)))) (.c (.int (0))))])]⟩
noncomputable abbrev iz:Nat:=8
noncomputable def cR:Fn:=⟨2,6,[.set 2 (.tup [(.c (.str "num"))]),.set 3 (.tup [(.c (.str "truth"))]),.set 4 (.tup [(.c (.str "row")),(.c (.int (2)))]),.set 5 (.lst [(.tup [(.c (.str "add")),(.c (.non)),(.tup [(.v 2),(.v 2)]),(.v 2)]),(.tup [(.c (.str "less")),(.c (.non)),(.tup [(.v 2),(.v 2)]),(.v 3)]),(.tup [(.c (.str "neg")),(.c (.non)),(.tup [(.v 2)]),(.v 2)])]),.set 5 (.bin .add (.v 5) (.lst [(.tup [(.c (.str "and")),(.c (.non)),(.tup [(.v 3),(.v 3)]),(.v 3)]),(.tup [(.c (.str "copy")),(.c (.non)),(.tup [(.v 2)]),(.v 2)])])),.app (.v 5) (.tup [(.c (.str "copy")),(.c (.non)),(.tup [(.v 3)]),(.v 3)]),.set 5 (.bin .add (.v 5) (.lst [(.tup [(.c (.str "make")),(.v 4),(.tup [(.v 2),(.v 2)]),(.v 4)]),(.tup [(.c (.str "sub")),(.c (.non)),(.tup [(.v 2),(.v 2)]),(.v 2)]),(.tup [(.c (.str "log")),(.c (.non)),(.tup [(.v 2)]),(.c (.non))])])),.set 5 (.bin .add (.v 5) (.lst [(.tup [(.c (.str "log")),(.c (.non)),(.tup [(.v 3)]),(.c (.non))]),(.tup [(.c (.str "tick")),(.c (.non)),(.tup []),(.c (.non))]),(.tup [(.c (.str "same")),(.c (.non)),(.tup [(.v 2),(.v 2)]),(.v 3)])])),.ite (.inV (.v 4) (.v 1)) [.set 5 (.bin .add (.v 5) (.lst [(.tup [(.c (.str "get")),(.c (.int (1))),(.tup [(.v 4)]),(.v 2)]),(.tup [(.c (.str "put")),(.c (.int (0))),(.tup [(.v 4),(.v 2)]),(.v 4)]),(.tup [(.c (.str "copy")),(.c (.non)),(.tup [(.v 4)]),(.v 4)])]))] [],.ret (.ix (.v 5) (.bin .mod (.v 0) (.bt .len [(.v 5)])))]⟩
noncomputable abbrev iC:Nat:=9
noncomputable def cV:Fn:=⟨4,12,[.set 4 (.fn 5 [(.v 0)]),.unp [5,6,7,8] (.fn 8 [(.v 4),(.v 2)]),.set 9 (.bt .tuple [(.comp false (.v 7) (.fn 7 [(.v 1),(.v 2),(.v 3),(.v 0)]))]),.ite (.fn 6 [(.v 1)]) [.set 10 (.lst [(.tup [(.c (.str "div")),(.c (.non))]),(.tup [(.c (.str "add")),(.c (.int (0)))]),(.tup [(.c (.str "get")),(.c (.int (2)))]),(.tup [(.c (.str "none")),(.c (.non))]),(.tup [(.c (.str "tick")),(.c (.non))]),(.tup [(.c (.str "log")),(.c (.non))]),(.tup [(.c (.str "call")),(.c (.str "main"))])]),.unp [5,6] (.ix (.v 10) (.bin .mod (.bin .fdiv (.v 4) (.c (.int (16)))) (.c (.int (7)))))] [],.ite (.fn 6 [(.v 1)]) [.set 9 (.sl (.v 9) (.c (.int (1))) (.c (.int (1))) true false)] [],.ite (.cmp .Is (.v 8) (.c (.non))) [.ret (.tup [(.c (.non)),(.v 5),(.v 6),(.v 9)])] [],.set 11 (.bt .len [(.v 3)]),.ite (.fn 6 [(.v 1)]) [.set 11 (.bin .mod (.bin .fdiv (.v 4) (.c (.int (16)))) (.bin .add (.v 11) (.c (.int (2))))),.set 8 (.ix (.lst [(.tup [(.c (.str "num"))]),(.tup [(.c (.str "truth"))])]) (.bin .mod (.v 4) (.c (.int (2)))))] [],.setix (.v 2) (.v 11) (.v 8),.setix (.v 3) (.v 11) (.v 8),.ret (.tup [(.v 11),(.v 5),(.v 6),(.v 9)])]⟩
noncomputable abbrev ng:Nat:=10
noncomputable def fB:Fn:=⟨6,8,[.ite (.fn 6 [(.v 1)]) [.stop] [],.set 6 (.lst []),.ite (.chain .LtE .Lt (.c (.int (0))) (.v 4) (.bt .len [(.v 3)])) [.set 6 (.sl (.compU (.ix (.v 3) (.v 4)) (.v 1)) (.v 5) (.v 5) true false)] [],.set 7 (.bt .tuple [(.comp false (.v 6) (.fn 7 [(.v 1),(.v 2),(.v 3),(.v 0)]))]),.ite (.fn 6 [(.v 1)]) [.set 7 (.sl (.v 7) (.c (.int (1))) (.c (.int (1))) true false)] [],.ret (.tup [(.v 4),(.v 7)])]⟩
noncomputable abbrev oO:Nat:=11
noncomputable def gl:Fn:=⟨5,15,[.set 5 (.fn 5 [(.v 0)]),.set 6 (.bt .len [(.v 3)]),.set 7 (.bt .min [(.bin .add (.v 4) (.c (.int (1)))),(.bin .sub (.v 6) (.c (.int (1))))]),.ite (.or (.cmp .Eq (.v 6) (.c (.int (1)))) (.cmp .Eq (.bin .mod (.v 5) (.c (.int (8)))) (.c (.int (0))))) [.ret (.ix (.lst [(.tup [(.c (.str "back")),(.fn 7 [(.v 0),(.v 1),(.v 2),(.tup [(.c (.str "num"))])])]),(.tup [(.c (.str "raise")),(.c (.str "odd"))])]) (.bin .mod (.bin .fdiv (.v 5) (.c (.int (8)))) (.c (.int (2)))))] [],.set 8 (.bin .add (.c (.int (1))) (.bin .mod (.bin .fdiv (.v 5) (.c (.int (8)))) (.bin .sub (.v 6) (.c (.int (1)))))),.set 9 (.fn 10 [(.v 0),(.v 1),(.v 2),(.v 3),(.v 7),(.c (.int (0)))]),.ite (.cmp .Lt (.bin .mod (.v 5) (.c (.int (8)))) (.c (.int (3)))) [.ret (.tup [(.c (.str "jump")),(.v 9)])] [],.ite (.cmp .Lt (.bin .mod (.v 5) (.c (.int (8)))) (.c (.int (5)))) [.set 10 (.fn 7 [(.v 0),(.v 1),(.v 2),(.tup [(.c (.str "truth"))])]),.ret (.tup [(.c (.str "branch")),(.v 10),(.v 9),(.fn 10 [(.v 0),(.v 1),(.v 2),(.v 3),(.v 8),(.c (.int (0)))])])] [],.ite (.or (.cmp .Eq (.sl (.ix (.v 3) (.v 7)) (.c (.int (1))) (.c (.int (1))) false true) (.lst [])) (.cmp .NotEq (.ix (.ix (.ix (.v 3) (.v 7)) (.c (.int (0)))) (.c (.int (1)))) (.tup [(.c (.str "num"))]))) [.ret (.tup [(.c (.str "back")),(.fn 7 [(.v 0),(.v 1),(.v 2),(.tup [(.c (.str "num"))])])])] [],.set 11 (.bin .mul (.lst [(.tup [(.c (.str "zero")),(.fn 10 [(.v 0),(.v 1),(.v 2),(.v 3),(.v 8),(.c (.int (0)))])])]) (.bin .mod (.bin .fdiv (.v 5) (.c (.int (64)))) (.c (.int (2))))),.set 11 (.bin .add (.v 11) (.bin .mul (.lst [(.tup [(.c (.str "odd")),(.fn 10 [(.v 0),(.v 1),(.v 2),(.v 3),(.v 8),(.c (.int (0)))])])]) (.bin .mod (.bin .fdiv (.v 5) (.c (.int (128)))) (.c (.int (2)))))),.ite (.fn 6 [(.v 1)]) [.set 11 (.bin .add (.v 11) (.sl (.v 11) (.c (.int (1))) (.c (.int (1))) false true))] [],.set 12 (.bt .tuple [(.comp true (.c (.int (2))) (.fn 7 [(.v 1),(.v 2),(.v 3),(.tup [(.c (.str "num"))])]))]),.set 13 (.fn 10 [(.v 0),(.v 1),(.v 2),(.v 3),(.v 7),(.c (.int (1)))]),.ite (.cmp .Eq (.bin .mod (.v 5) (.c (.int (8)))) (.c (.int (7)))) [.set 14 (.ix (.lst [(.c (.str "f")),(.c (.str "main")),(.c (.str "g"))]) (.bin .mod (.bin .fdiv (.v 5) (.c (.int (128)))) (.ix (.lst [(.c (.int (3))),(.c (.int (2)))]) (.bt .int [(.cmp .Lt (.bin .mod (.v 5) (.c (.int (16)))) (.c (.int (8))))])))),.ret (.tup [(.c (.str "risk")),(.c (.str "call")),(.v 14),(.sl (.v 12) (.c (.int (1))) (.c (.int (1))) false true),(.v 13),(.bt .tuple [(.v 11)])])] [],.ret (.tup [(.c (.str "risk")),(.ix (.lst [(.c (.str "div")),(.c (.str "mul")),(.c (.str "mod"))]) (.bin .mod (.bin .fdiv (.v 5) (.c (.int (128)))) (.c (.int (3))))),(.c (.non)),(.v 12),(.v 13),(.bt .tuple [(.v 11)])])]⟩
noncomputable abbrev iV:Nat:=12
noncomputable def c8:Fn:=⟨2,3,[.set 2 (.lst []),.ite (.cmp .Eq (.ix (.v 0) (.c (.int (0)))) (.c (.str "jump"))) [.set 2 (.lst [(.ix (.v 0) (.c (.int (1))))])] [],.ite (.cmp .Eq (.ix (.v 0) (.c (.int (0)))) (.c (.str "branch"))) [.set 2 (.lst [(.ix (.v 0) (.c (.int (2)))),(.ix (.v 0) (.c (.int (3))))])] [],.ite (.cmp .Eq (.ix (.v 0) (.c (.int (0)))) (.c (.str "risk"))) [.set 2 (.bin .add (.lst [(.ix (.v 0) (.c (.int (4))))]) (.compU (.ix (.v 0) (.c (.int (5)))) (.v 1)))] [],.ret (.cmp .NotEq (.compIf (.v 2) (.cmp .LtE (.ix (.v 0) (.c (.int (0)))) (.v 2)) (.v 0)) (.lst []))]⟩
noncomputable abbrev iU:Nat:=13
noncomputable def c7:Fn:=⟨2,16,[.set 2 (.bin .add (.c (.int (1))) (.bin .mod (.fn 5 [(.v 0)]) (.c (.int (5))))),.set 3 .emp,.set 4 (.lst [(.lst [])]),.for_ 5 true (.ix (.lst [(.c (.int (1))),(.c (.int (1))),(.c (.int (0))),(.c (.int (2)))]) (.bin .mod (.fn 5 [(.v 0)]) (.c (.int (4))))) [.setix (.v 3) (.v 5) (.ix (.lst [(.tup [(.c (.str "num"))]),(.tup [(.c (.str "num"))]),(.tup [(.c (.str "truth"))])]) (.bin .mod (.fn 5 [(.v 0)]) (.c (.int (3))))),.app (.ix (.v 4) (.c (.int (0)))) (.tup [(.v 5),(.ix (.v 3) (.v 5))])],.set 6 (.bt .tuple [(.compU (.ix (.v 4) (.c (.int (0)))) (.v 1))]),.ite (.fn 6 [(.v 1)]) [.set 6 (.ix (.lst [(.bin .add (.v 6) (.tup [(.tup [(.c (.str "num"))])])),(.sl (.v 6) (.c (.int (1))) (.c (.int (1))) true false),(.bin .mul (.tup [(.tup [(.c (.str "truth"))])]) (.bt .len [(.v 6)]))]) (.bin .mod (.fn 5 [(.v 0)]) (.c (.int (3)))))] [],.for2 7 (.c (.int (1))) (.v 2) [.app (.v 4) (.lst []),.for_ 5 true (.bin .mod (.fn 5 [(.v 0)]) (.c (.int (3)))) [.set 8 (.bin .mod (.fn 5 [(.v 0)]) (.c (.int (8)))),.set 9 (.ix (.lst [(.tup [(.c (.str "num"))]),(.tup [(.c (.str "truth"))]),(.tup [(.c (.str "row")),(.c (.int (2)))])]) (.ix (.lst [(.c (.int (0))),(.c (.int (1))),(.c (.int (0))),(.c (.int (0))),(.c (.int (1))),(.c (.int (0))),(.c (.int (0))),(.c (.int (2)))]) (.v 8))),.app (.ix (.v 4) (.v 7)) (.tup [(.bt .len [(.v 3)]),(.v 9)]),.setix (.v 3) (.bt .len [(.v 3)]) (.v 9)]],.set 10 (.lst []),.set 11 .emp,.for_ 7 true (.v 2) [.set 12 (.bt .dict [(.v 11)]),.forU [13,9] (.ix (.v 4) (.v 7)) [.setix (.v 12) (.v 13) (.v 9)],.set 14 (.lst []),.for_ 5 true (.bin .mod (.fn 5 [(.v 0)]) (.c (.int (4)))) [.app (.v 14) (.fn 9 [(.v 0),(.v 1),(.v 12),(.v 3)])],.ite (.cmp .Eq (.v 7) (.c (.int (0)))) [.set 11 (.bt .dict [(.v 12)])] [],.set 15 (.fn 11 [(.v 0),(.v 1),(.v 12),(.v 4),(.v 7)]),.ite (.and (.fn 12 [(.v 15),(.v 7)]) (.not (.fn 6 [(.v 1)]))) [.app (.v 14) (.tup [(.c (.non)),(.c (.str "tick")),(.c (.non)),(.tup [])])] [],.app (.v 10) (.tup [(.bt .tuple [(.compU (.ix (.v 4) (.v 7)) (.v 0))]),(.bt .tuple [(.v 14)]),(.v 15)])],.ite (.fn 6 [(.v 1)]) [.setix (.v 3) (.c (.int (50))) (.tup [(.c (.str "num"))])] [],.ret (.tup [(.v 6),(.tup [(.c (.str "num"))]),(.bt .tuple [(.sit (.v 3))]),(.bt .tuple [(.v 10)])])]⟩
noncomputable abbrev iT:Nat:=14
noncomputable def c6:Fn:=⟨1,1,[.ite (.cmp .Eq (.ix (.v 0) (.c (.int (0)))) (.c (.str "jump"))) [.ret (.new "Jump" 27 [(.ix (.v 0) (.c (.int (1))))])] [],.ite (.cmp .Eq (.ix (.v 0) (.c (.int (0)))) (.c (.str "branch"))) [.ret (.new "Branch" 31 [(.ix (.v 0) (.c (.int (1)))),(.ix (.v 0) (.c (.int (2)))),(.ix (.v 0) (.c (.int (3))))])] [],.ite (.cmp .Eq (.ix (.v 0) (.c (.int (0)))) (.c (.str "back"))) [.ret (.new "Back" 35 [(.ix (.v 0) (.c (.int (1))))])] [],.ite (.cmp .Eq (.ix (.v 0) (.c (.int (0)))) (.c (.str "raise"))) [.ret (.new "Raise" 38 [(.ix (.v 0) (.c (.int (1))))])] [],.ret (.new "Risk" 41 [(.ix (.v 0) (.c (.int (1)))),(.ix (.v 0) (.c (.int (2)))),(.bt .list [(.ix (.v 0) (.c (.int (3))))]),(.ix (.v 0) (.c (.int (4)))),(.bt .list [(.ix (.v 0) (.c (.int (5))))])])]⟩
noncomputable abbrev nb:Nat:=15
noncomputable def fA:Fn:=⟨1,10,[.unp [1,2,3,4] (.v 0),.set 5 (.lst []),.forU [6,7,8] (.v 4) [.set 9 (.comp false (.v 7) (.new "Row" 23 [(.ix (.v 0) (.c (.int (0)))),(.ix (.v 0) (.c (.int (1)))),(.ix (.v 0) (.c (.int (2)))),(.ix (.v 0) (.c (.int (3))))])),.app (.v 5) (.new "Block" 45 [(.bt .list [(.v 6)]),(.v 9),(.fn 14 [(.v 8)])])],.ret (.new "Function" 47 [(.bt .list [(.v 1)]),(.v 2),(.bt .dict [(.v 3)]),(.v 5)])]⟩
noncomputable abbrev lT:Nat:=16
noncomputable def eF:Fn:=⟨2,2,[.ite (.and (.cmp .Eq (.ix (.v 0) (.c (.int (0)))) (.c (.str "name"))) (.cmp .In (.ix (.v 0) (.c (.int (1)))) (.v 1))) [.ret (.ix (.v 1) (.ix (.v 0) (.c (.int (1)))))] [],.ret (.v 0)]⟩
noncomputable abbrev gU:Nat:=17
noncomputable def cN:Fn:=⟨3,4,[.set 3 (.ix (.v 0) (.c (.int (0)))),.ite (.cmp .In (.v 3) (.v 2)) [.set 3 (.ix (.v 2) (.v 3))] [],.ret (.tup [(.v 3),(.bt .tuple [(.comp false (.ix (.v 0) (.c (.int (1)))) (.fn 16 [(.v 0),(.v 2)]))])])]⟩
noncomputable abbrev iA:Nat:=18
noncomputable def cT:Fn:=⟨3,4,[.set 3 (.ix (.v 0) (.c (.int (0)))),.ite (.cmp .In (.v 3) (.v 2)) [.set 3 (.ix (.v 2) (.v 3))] [],.ret (.tup [(.v 3),(.ix (.v 0) (.c (.int (1)))),(.ix (.v 0) (.c (.int (2)))),(.bt .tuple [(.comp false (.ix (.v 0) (.c (.int (3)))) (.fn 16 [(.v 0),(.v 2)]))])])]⟩
noncomputable abbrev iB:Nat:=19
noncomputable def cU:Fn:=⟨3,6,[.ite (.cmp .Eq (.ix (.v 0) (.c (.int (0)))) (.c (.str "jump"))) [.ret (.tup [(.c (.str "jump")),(.fn 17 [(.ix (.v 0) (.c (.int (1)))),(.v 1),(.v 2)])])] [],.ite (.cmp .Eq (.ix (.v 0) (.c (.int (0)))) (.c (.str "branch"))) [.set 3 (.comp false (.sl (.v 0) (.c (.int (2))) (.c (.int (2))) true false) (.fn 17 [(.v 0),(.v 2),(.v 3)])),.ret (.tup [(.c (.str "branch")),(.fn 16 [(.ix (.v 0) (.c (.int (1)))),(.v 1)]),(.ix (.v 3) (.c (.int (0)))),(.ix (.v 3) (.c (.int (1))))])] [],.ite (.cmp .Eq (.ix (.v 0) (.c (.int (0)))) (.c (.str "back"))) [.ret (.tup [(.c (.str "back")),(.fn 16 [(.ix (.v 0) (.c (.int (1)))),(.v 1)])])] [],.ite (.cmp .Eq (.ix (.v 0) (.c (.int (0)))) (.c (.str "raise"))) [.ret (.v 0)] [],.set 4 (.bt .tuple [(.comp false (.ix (.v 0) (.c (.int (3)))) (.fn 16 [(.v 0),(.v 2)]))]),.set 5 (.bt .tuple [(.compU (.ix (.v 0) (.c (.int (5)))) (.tup [(.v 0),(.fn 17 [(.v 1),(.v 3),(.v 4)])]))]),.ret (.tup [(.c (.str "risk")),(.ix (.v 0) (.c (.int (1)))),(.ix (.v 0) (.c (.int (2)))),(.v 4),(.fn 17 [(.ix (.v 0) (.c (.int (4)))),(.v 1),(.v 2)]),(.v 5)])]⟩
noncomputable abbrev lU:Nat:=20
noncomputable def eG:Fn:=⟨2,9,[.set 2 .emp,.set 3 .emp,.set 4 .emp,.forU [5,6] (.ix (.v 1) (.c (.int (2)))) [.set 7 (.fn 5 [(.v 0)]),.ite (.cmp .Eq (.bin .mod (.v 7) (.c (.int (3)))) (.c (.int (0)))) [.setix (.v 2) (.v 5) (.ix (.lst [(.tup [(.c (.str "name")),(.bin .mod (.bin .fdiv (.v 7) (.c (.int (3)))) (.c (.int (40))))]),(.tup [(.c (.str "num")),(.v 7)]),(.tup [(.c (.str "truth")),(.c (.bl true))]),(.tup [(.c (.str "name")),(.v 5)])]) (.bin .mod (.bin .fdiv (.v 7) (.c (.int (3)))) (.c (.int (4)))))] [],.ite (.cmp .Eq (.bin .mod (.v 7) (.c (.int (3)))) (.c (.int (1)))) [.setix (.v 3) (.v 5) (.v 7)] []],.for_ 8 true (.bt .len [(.ix (.v 1) (.c (.int (3))))]) [.set 7 (.fn 5 [(.v 0)]),.ite (.cmp .Eq (.bin .mod (.v 7) (.c (.int (2)))) (.c (.int (0)))) [.setix (.v 4) (.v 8) (.bin .mod (.bin .fdiv (.v 7) (.c (.int (2)))) (.c (.int (20))))] []],.ret (.tup [(.v 2),(.v 3),(.v 4)])]⟩
noncomputable abbrev gj:Nat:=21
noncomputable def cA:Fn:=⟨3,15,[.unp [3,4,5] (.v 2),.unp [6,7,8] (.v 1),.forZ [9,10] (.fld (.v 0) "rows" [] ["Block"]) (.v 7) [.set 11 (.meth (.v 9) "moved" [("Row",25),("Jump",29),("Branch",33),("Back",37),("Raise",40),("Risk",43)] [(.v 3),(.v 4)]),.ite (.or (.not (.isk (.v 11) "Row")) (.or (.cmp .NotEq (.meth (.v 11) "told" [("Row",24),("Jump",28),("Branch",32),("Back",36),("Raise",39),("Risk",42),("Block",46),("Function",48)] []) (.fn 18 [(.v 10),(.v 3),(.v 4)])) (.cmp .NotEq (.meth (.v 9) "told" [("Row",24),("Jump",28),("Branch",32),("Back",36),("Raise",39),("Risk",42),("Block",46),("Function",48)] []) (.v 10)))) [.ret (.c (.bl false))] [],.ite (.or (.cmp .NotEq (.fn 1 [(.ix (.v 10) (.c (.int (3)))),(.v 3)]) (.ix (.fn 18 [(.v 10),(.v 3),(.v 4)]) (.c (.int (3))))) (.cmp .NotEq (.meth (.meth (.v 9) "moved" [("Row",25),("Jump",29),("Branch",33),("Back",37),("Raise",40),("Risk",43)] [.emp,.emp]) "told" [("Row",24),("Jump",28),("Branch",32),("Back",36),("Raise",39),("Risk",42),("Block",46),("Function",48)] []) (.v 10))) [.ret (.c (.bl false))] [],.for_ 12 false (.ix (.v 10) (.c (.int (3)))) [.ite (.cmp .NotEq (.fn 0 [(.v 12),(.v 3)]) (.fn 16 [(.v 12),(.v 3)])) [.ret (.c (.bl false))] []]],.set 11 (.meth (.fld (.v 0) "end" [] ["Block"]) "moved" [("Row",25),("Jump",29),("Branch",33),("Back",37),("Raise",40),("Risk",43)] [(.v 3),(.v 5)]),.ite (.or (.cmp .NotEq (.meth (.v 11) "told" [("Row",24),("Jump",28),("Branch",32),("Back",36),("Raise",39),("Risk",42),("Block",46),("Function",48)] []) (.fn 19 [(.v 8),(.v 3),(.v 5)])) (.cmp .NotEq (.meth (.fld (.v 0) "end" [] ["Block"]) "told" [("Row",24),("Jump",28),("Branch",32),("Back",36),("Raise",39),("Risk",42),("Block",46),("Function",48)] []) (.v 8))) [.ret (.c (.bl false))] [],.forU [13,14] (.meth (.fld (.v 0) "end" [] ["Block"]) "edges" [("Jump",30),("Branch",34),("Back",26),("Raise",26),("Risk",44)] []) [.ite (.cmp .NotEq (.fn 2 [(.v 13),(.v 3),(.v 5)]) (.fn 17 [(.v 13),(.v 3),(.v 5)])) [.ret (.c (.bl false))] []],.ret (.cmp .Eq (.meth (.meth (.fld (.v 0) "end" [] ["Block"]) "moved" [("Row",25),("Jump",29),("Branch",33),("Back",37),("Raise",40),("Risk",43)] [.emp,.emp]) "told" [("Row",24),("Jump",28),("Branch",32),("Back",36),("Raise",39),("Risk",42),("Block",46),("Function",48)] []) (.v 8))]⟩
noncomputable abbrev Ab:Nat:=22
noncomputable def tZ:Fn:=⟨1,8,[.set 1 (.fn 4 [(.sl (.v 0) (.c (.int (62))) (.c (.int (62))) false true),(.c (.int (200)))]),.set 2 (.fn 13 [(.v 1),(.dict ["count","at"] [(.c (.int (0))),(.c (.int (0)))])]),.set 3 (.fn 15 [(.v 2)]),.set 4 (.fn 20 [(.v 1),(.v 2)]),.set 5 (.comp false (.v 4) (.bt .dict [(.v 0)])),.forZ [6,7] (.fld (.v 3) "blocks" [] ["Function"]) (.ix (.v 2) (.c (.int (3)))) [.ite (.not (.fn 21 [(.v 6),(.v 7),(.v 4)])) [.ret (.c (.bl false))] []],.ret (.and (.cmp .Eq (.bt .list [(.v 4)]) (.v 5)) (.and (.cmp .Eq (.meth (.v 3) "told" [("Row",24),("Jump",28),("Branch",32),("Back",36),("Raise",39),("Risk",42),("Block",46),("Function",48)] []) (.v 2)) (.cmp .Eq (.fn 0 [(.tup [(.c (.str "name")),(.c (.int (5)))]),.emp]) (.tup [(.c (.str "name")),(.c (.int (5)))]))))]⟩
noncomputable abbrev oQ:Nat:=23
noncomputable def gn:Fn:=⟨5,5,[.setf (.v 0) "name" (.v 1) [] ["Row"],.setf (.v 0) "op" (.v 2) [] ["Row","Risk"],.setf (.v 0) "extra" (.v 3) [] ["Row","Risk"],.setf (.v 0) "operands" (.bt .tuple [(.v 4)]) [] ["Row"]]⟩
noncomputable abbrev oP:Nat:=24
noncomputable def gm:Fn:=⟨1,1,[.ret (.tup [(.fld (.v 0) "name" [] ["Row"]),(.fld (.v 0) "op" [] ["Row","Risk"]),(.fld (.v 0) "extra" [] ["Row","Risk"]),(.fld (.v 0) "operands" [] ["Row"])])]⟩
noncomputable abbrev nh:Nat:=25
noncomputable def fC:Fn:=⟨3,3,[.ret (.new "Row" 23 [(.dget (.v 2) (.fld (.v 0) "name" [] ["Row"]) (.fld (.v 0) "name" [] ["Row"])),(.fld (.v 0) "op" [] ["Row","Risk"]),(.fld (.v 0) "extra" [] ["Row","Risk"]),(.fn 1 [(.fld (.v 0) "operands" [] ["Row"]),(.v 1)])])]⟩
noncomputable def fH:Fn:=⟨1,1,[.ret (.lst [])]⟩
noncomputable abbrev nk:Nat:=27
noncomputable def fG:Fn:=⟨2,2,[.setf (.v 0) "edge" (.v 1) [] ["Jump","Risk"]]⟩
noncomputable def fF:Fn:=⟨1,1,[.ret (.tup [(.c (.str "jump")),(.fld (.v 0) "edge" [] ["Jump","Risk"])])]⟩
noncomputable abbrev lX:Nat:=29
noncomputable def eM:Fn:=⟨3,3,[.ret (.new "Jump" 27 [(.fn 2 [(.fld (.v 0) "edge" [] ["Jump","Risk"]),(.v 1),(.v 2)])])]⟩
noncomputable def eN:Fn:=⟨1,1,[.ret (.lst [(.tup [(.fld (.v 0) "edge" [] ["Jump","Risk"]),(.c (.bl false))])])]⟩
noncomputable abbrev kb:Nat:=31
noncomputable def dU:Fn:=⟨4,4,[.setf (.v 0) "test" (.v 1) [] ["Branch"],.setf (.v 0) "yes" (.v 2) [] ["Branch"],.setf (.v 0) "no" (.v 3) [] ["Branch"]]⟩
noncomputable def dS:Fn:=⟨1,1,[.ret (.tup [(.c (.str "branch")),(.fld (.v 0) "test" [] ["Branch"]),(.fld (.v 0) "yes" [] ["Branch"]),(.fld (.v 0) "no" [] ["Branch"])])]⟩
noncomputable abbrev jH:Nat:=33
noncomputable def dD:Fn:=⟨3,4,[.set 3 (.fn 2 [(.fld (.v 0) "yes" [] ["Branch"]),(.v 1),(.v 2)]),.ret (.new "Branch" 31 [(.fn 0 [(.fld (.v 0) "test" [] ["Branch"]),(.v 1)]),(.v 3),(.fn 2 [(.fld (.v 0) "no" [] ["Branch"]),(.v 1),(.v 2)])])]⟩
noncomputable def dE:Fn:=⟨1,1,[.ret (.lst [(.tup [(.fld (.v 0) "yes" [] ["Branch"]),(.c (.bl false))]),(.tup [(.fld (.v 0) "no" [] ["Branch"]),(.c (.bl false))])])]⟩
noncomputable abbrev nv:Nat:=35
noncomputable def fJ:Fn:=⟨2,2,[.setf (.v 0) "operand" (.v 1) [] ["Back"]]⟩
noncomputable def fI:Fn:=⟨1,1,[.ret (.tup [(.c (.str "back")),(.fld (.v 0) "operand" [] ["Back"])])]⟩
noncomputable abbrev l0:Nat:=37
noncomputable def eQ:Fn:=⟨3,3,[.ret (.new "Back" 35 [(.fn 0 [(.fld (.v 0) "operand" [] ["Back"]),(.v 1)])])]⟩
noncomputable abbrev lW:Nat:=38
noncomputable def eL:Fn:=⟨2,2,[.setf (.v 0) "fault" (.v 1) [] ["Raise"]]⟩
noncomputable def eK:Fn:=⟨1,1,[.ret (.tup [(.c (.str "raise")),(.fld (.v 0) "fault" [] ["Raise"])])]⟩
noncomputable abbrev ka:Nat:=40
noncomputable def dR:Fn:=⟨3,3,[.ret (.new "Raise" 38 [(.fld (.v 0) "fault" [] ["Raise"])])]⟩
noncomputable abbrev nj:Nat:=41
noncomputable def fE:Fn:=⟨6,6,[.setf (.v 0) "op" (.v 1) [] ["Row","Risk"],.setf (.v 0) "extra" (.v 2) [] ["Row","Risk"],.setf (.v 0) "asked" (.bt .tuple [(.v 3)]) [] ["Risk"],.setf (.v 0) "edge" (.v 4) [] ["Jump","Risk"],.setf (.v 0) "catches" (.bt .tuple [(.v 5)]) [] ["Risk"]]⟩
noncomputable def fD:Fn:=⟨1,1,[.ret (.tup [(.c (.str "risk")),(.fld (.v 0) "op" [] ["Row","Risk"]),(.fld (.v 0) "extra" [] ["Row","Risk"]),(.fld (.v 0) "asked" [] ["Risk"]),(.fld (.v 0) "edge" [] ["Jump","Risk"]),(.fld (.v 0) "catches" [] ["Risk"])])]⟩
noncomputable abbrev lV:Nat:=43
noncomputable def eI:Fn:=⟨3,5,[.set 3 (.fn 2 [(.fld (.v 0) "edge" [] ["Jump","Risk"]),(.v 1),(.v 2)]),.set 4 (.compU (.fld (.v 0) "catches" [] ["Risk"]) (.tup [(.v 0),(.fn 2 [(.v 1),(.v 3),(.v 4)])])),.ret (.new "Risk" 41 [(.fld (.v 0) "op" [] ["Row","Risk"]),(.fld (.v 0) "extra" [] ["Row","Risk"]),(.fn 1 [(.fld (.v 0) "asked" [] ["Risk"]),(.v 1)]),(.v 3),(.v 4)])]⟩
noncomputable def eJ:Fn:=⟨1,1,[.ret (.bin .add (.lst [(.tup [(.fld (.v 0) "edge" [] ["Jump","Risk"]),(.c (.bl true))])]) (.compU (.fld (.v 0) "catches" [] ["Risk"]) (.tup [(.v 1),(.c (.bl false))])))]⟩
noncomputable abbrev lZ:Nat:=45
noncomputable def eP:Fn:=⟨4,4,[.setf (.v 0) "params" (.bt .tuple [(.v 1)]) [] ["Block"],.setf (.v 0) "rows" (.bt .tuple [(.v 2)]) [] ["Block"],.setf (.v 0) "end" (.v 3) [] ["Block"]]⟩
noncomputable abbrev lY:Nat:=46
noncomputable def eO:Fn:=⟨1,1,[.ret (.tup [(.fld (.v 0) "params" [] ["Block"]),(.bt .tuple [(.comp false (.fld (.v 0) "rows" [] ["Block"]) (.meth (.v 0) "told" [("Row",24),("Jump",28),("Branch",32),("Back",36),("Raise",39),("Risk",42),("Block",46),("Function",48)] []))]),(.meth (.fld (.v 0) "end" [] ["Block"]) "told" [("Row",24),("Jump",28),("Branch",32),("Back",36),("Raise",39),("Risk",42),("Block",46),("Function",48)] [])])]⟩
noncomputable abbrev iX:Nat:=47
noncomputable def c_:Fn:=⟨5,5,[.setf (.v 0) "takes" (.bt .tuple [(.v 1)]) [] ["Function"],.setf (.v 0) "gives" (.v 2) [] ["Function"],.setf (.v 0) "kinds" (.bt .dict [(.v 3)]) [] ["Function"],.setf (.v 0) "kept_kinds" (.bt .dict [(.v 3)]) [] ["Function"],.setf (.v 0) "blocks" (.bt .tuple [(.v 4)]) [] ["Function"]]⟩
noncomputable abbrev iW:Nat:=48
noncomputable def c9:Fn:=⟨1,2,[.set 1 (.bt .tuple [(.sit (.fld (.v 0) "kept_kinds" [] ["Function"]))]),.ret (.tup [(.fld (.v 0) "takes" [] ["Function"]),(.fld (.v 0) "gives" [] ["Function"]),(.v 1),(.bt .tuple [(.comp false (.fld (.v 0) "blocks" [] ["Function"]) (.meth (.v 0) "told" [("Row",24),("Jump",28),("Branch",32),("Back",36),("Raise",39),("Risk",42),("Block",46),("Function",48)] []))])])]⟩
noncomputable def tab:List Fn:=[gW,jN,eD,eE,dC,fw,gk,dB,cR,cV,fB,gl,c8,c7,c6,fA,eF,cN,cT,cU,eG,cA,tZ,gn,gm,fC,fH,fG,fF,eM,eN,dU,dS,dD,dE,fJ,fI,eQ,eL,eK,dR,fE,fD,eI,eJ,eP,eO,c_,c9]
local macro_rules| `(tactic|walk_at "call0")=> `(tactic|(refine rS rfl rfl ?_;dsimp only[gW,jN,eD,eE,dC,fw,gk,dB,cR,cV,fB,gl,c8,c7,c6,fA,eF,cN,cT,cU,eG,cA,tZ,gn,gm,fC,fH,fG,fF,eM,eN,dU,dS,dD,dE,fJ,fI,eQ,eL,eK,dR,fE,fD,eI,eJ,eP,eO,c_,c9,List.map_cons,List.map_nil,List.cons_append,List.nil_append,List.length_cons,List.length_nil,List.replicate,Nat.reduceAdd,Nat.reduceSub]))
local macro_rules| `(tactic|walk_at "call")=> `(tactic|(walk_at "call0";walk_at "ev"))
noncomputable def qx(n op ex x:D):List (Str×D):=[("name",n),("op",op),("extra",ex),("operands",x)]
noncomputable def ko(op ex x e c:D):List (Str×D):=[("op",op),("extra",ex),("asked",x),("edge",e),("catches",c)]
theorem pQ:∀{fs:List (Str×D)}{m:Str},(fs.map (·.1)).contains m=false->fs.lookup m=none
 |[],_,_=>rfl
 |(a,w)::r,m,h=>by simp only[List.map_cons,List.contains_cons,Bool.or_eq_false_iff] at h;simp only[List.lookup_cons,h.1];exact pQ h.2
theorem lk:∀{fs:List (Str×D)}{f:Str}{d:D}(i:Nat),fs[i]? =some (f,d)->((fs.take i).map (·.1)).contains f=false->fs.lookup f=some d
 |(a,w)::r,f,d,0,h,_=>by simp at h;obtain⟨rfl,rfl⟩:=h;simp[List.lookup_cons]
 |(a,w)::r,f,d,i+1,h,k=>by
  simp only[List.take_succ_cons,List.map_cons,List.contains_cons,Bool.or_eq_false_iff] at k;simp only[List.lookup_cons,k.1];exact lk i (by simpa using h) k.2
theorem fg{c:Str}{fs:List (Str×D)}{ics:List Str}(hp:st1[p]? =some (.ins c fs))(i:Nat)(hi:fs[i]? =some (f,d))(q:P d)(hc:c∈ics:=by decide+kernel)(hk:((fs.take i).map (·.1)).contains f=false:=by(simp only[qx,ko,List.nil_append,List.cons_append,List.take_succ_cons,List.take_zero,List.map_cons,List.map_nil];decide+kernel)):∃n c fs d,D.ref p=.ref n/\st1[n]? =some (.ins c fs)/\fs.lookup f=some d/\c∈ics/\P d:=⟨p,c,fs,d,rfl,hp,lk i hi hk,hc,q⟩
theorem mP{c m:Str}{fs:List (Str×D)}{ms:List (Str×Nat)}{P:Nat->Nat->Prop}(hp:st1[p]? =some (.ins c fs))(hj:ms.lookup c=some j)(q:P p j)(hk:(fs.map (·.1)).contains m=false:=by(simp only[qx,ko,List.nil_append,List.cons_append,List.map_cons,List.map_nil];decide+kernel)):∃n c fs j,D.ref p=.ref n/\st1[n]? =some (.ins c fs)/\fs.lookup m=none/\ms.lookup c=some j/\P n j:=⟨p,c,fs,j,rfl,hp,pQ hk,hj,q⟩
theorem pA:∀{fs:List (Str×D)}{f:Str}{v:D},(fs.map (·.1)).contains f=false->putD f v fs=fs++[(f,v)]
 |[],_,_,_=>rfl
 |(a,w)::r,f,v,h=>by
  simp only[List.map_cons,List.contains_cons,Bool.or_eq_false_iff] at h;have hne:a≠f:=λz=>by simp[z] at h
  simp[putD,hne,pA h.2]
theorem dq{e:Ex}{cs ics:List Str}(h0:loc[0]? =some (some (.ref p)))
  (h:W (run g e loc st) λd st1=>∃c fs,(st1[p]? =some (.ins c fs)/\fs.length<900/\c∈ics/\(fs.map (·.1)).contains f=false)/\W (execs g ss loc (st1.set p (.ins c (fs++[(f,d)])))) Q):W (execs g (.setf (.v 0) f e cs ics::ss) loc st) Q:=
 wN (h.mono λd st1 ⟨c,fs,⟨hp,hl,hc,hk⟩,q⟩=>aD h0 (uL hp ⟨hl,hc⟩ (by rw[pA hk];exact q)))
theorem jJ{c:Str}{fs:List (Str×D)}{ics:List Str}{P:Str->List (Str×D)->Prop}(hp:st1[p]? =some (.ins c fs))(q:P c fs)(hl:fs.length<900:=by simp)(hc:c∈ics:=by decide+kernel)(hk:(fs.map (·.1)).contains f=false:=by(simp only[qx,ko,List.nil_append,List.cons_append,List.map_cons,List.map_nil];decide+kernel)):∃c fs,(st1[p]? =some (.ins c fs)/\fs.length<900/\c∈ics/\(fs.map (·.1)).contains f=false)/\P c fs:=⟨c,fs,⟨hp,hl,hc,hk⟩,q⟩
theorem sn{i:Nat}{x:O}(h:st[i]? =some o)(hne:j≠i):(st.set j x)[i]? =some o:=by rw[aI hne];exact h
theorem eq_str{a b:Str}:dj 60 st (.str a) (.str b)=some (a==b):=by simp[dj,shape,qb]
noncomputable abbrev Fp(st:aP)(d:D):D->aP->Prop:=λx st1=>x=d/\Gr st st1
noncomputable abbrev kN:D:= .tup [.str "num"]
noncomputable abbrev kT:D:= .tup [.str "truth"]
noncomputable abbrev kR:D:= .tup [.str "row",.int 2]
noncomputable def Kd(d:D):Prop:=d=kN∨d=kT∨d=kR
inductive Opd:D->Prop where
 |nm (i:Int):Opd (.tup [.str "name",.int i])
 |num (i:Int):Opd (.tup [.str "num",.int i])
 |tr (b:Bool):Opd (.tup [.str "truth",.bl b])
noncomputable def rp(xs:List D):Prop:=(∀o∈xs,Opd o)/\xs.length<=1000
inductive Edg:D->Prop where
 |mk (i:Int) (xs:List D)(h:rp xs):Edg (.tup [.int i,.tup xs])
inductive Nam:D->Prop where
 |non:Nam .non
 |int (i:Int):Nam (.int i)
noncomputable def nM(d:D):Prop:=oC d=true/\yF d<=1
inductive RowD:D->Prop where
 |mk (n:D)(op:Str)(ex:D)(xs:List D)(hn:Nam n)(he:nM ex)(h:rp xs):RowD (.tup [n,.str op,ex,.tup xs])
inductive Cat:D->Prop where
 |mk (s:Str)(e:D)(h:Edg e):Cat (.tup [.str s,e])
inductive EndD:D->Prop where
 |jump (e:D)(h:Edg e):EndD (.tup [.str "jump",e])
 |branch (t y n:D)(ht:Opd t)(hy:Edg y)(hn:Edg n):EndD (.tup [.str "branch",t,y,n])
 |back (o:D)(h:Opd o):EndD (.tup [.str "back",o])
 |rais (s:Str):EndD (.tup [.str "raise",.str s])
 |risk (op:Str)(ex:D)(xs:List D)(e:D)(cs:List D)(he:nM ex)(hx:rp xs)(hd:Edg e)(hc:(∀c∈cs,Cat c)/\cs.length<=1000):EndD (.tup [.str "risk",.str op,ex,.tup xs,e,.tup cs])
noncomputable def Sm(m:Nat)(d:D):Prop:=oC d=true/\yF d<=m
theorem Sm.mono(h:Sm m d)(k:m<=n):Sm n d:=⟨h.1,az h.2 k⟩
theorem Sm.tup(h:∀x∈xs,Sm m x):Sm (m+1) (.tup xs):=⟨lD λx hx=>(h x hx).1,by show nA xs+1<=m+1;exact Nat.succ_le_succ (l_ λx hx=>(h x hx).2)⟩
theorem Sm.eq(h:Sm m d)(k:m<60:=by decide):dj 60 st d d=some true:=qa 60 d h.1 (Nat.lt_of_le_of_lt h.2 k)
theorem cz{s:Str}:Sm m (.str s):=⟨rfl,Nat.zero_le _⟩
theorem fm{s:Int}:Sm m (.int s):=⟨rfl,Nat.zero_le _⟩
theorem zv{s:Bool}:Sm m (.bl s):=⟨rfl,Nat.zero_le _⟩
theorem wY:Sm m .non:=⟨rfl,Nat.zero_le _⟩
theorem all2{a b:D}(h1:P a)(h2:P b):∀x∈[a,b],P x:=by
 intro x hx;rcases List.mem_cons.mp hx with rfl|hx
 ·exact h1
 ·rcases List.mem_cons.mp hx with rfl|hx
  ·exact h2
  ·cases hx
theorem bz{a:D}{l:List D}(h1:P a)(h2:∀x∈l,P x):∀x∈a::l,P x:=by
 intro x hx;rcases List.mem_cons.mp hx with rfl|hx
 ·exact h1
 ·exact h2 x hx
theorem b0:∀x∈([]:List D),P x:=λ_ h=>nomatch h
theorem Opd.sm(h:Opd d):Sm 1 d:=by
 cases h with
 |nm i=>exact .tup (all2 cz fm)
 |num i=>exact .tup (all2 cz fm)
 |tr b=>exact .tup (all2 cz zv)
theorem rp.sm(h:rp xs):Sm 2 (.tup xs):= .tup λx hx=>(h.1 x hx).sm
theorem Edg.sm(h:Edg d):Sm 3 d:=by
 cases h with
 |mk i xs h=>exact .tup (all2 fm h.sm)
theorem Nam.sm(h:Nam d):Sm m d:=by
 cases h with
 |non=>exact wY
 |int i=>exact fm
theorem RowD.sm(h:RowD d):Sm 3 d:=by
 cases h with
 |mk n op ex xs hn he h=>exact .tup (bz hn.sm (bz cz (bz (Sm.mono he (by decide)) (bz h.sm b0))))
theorem Cat.sm(h:Cat d):Sm 4 d:=by
 cases h with
 |mk s e h=>exact .tup (all2 cz h.sm)
theorem EndD.sm(h:EndD d):Sm 6 d:=by
 cases h with
 |jump e h=>exact .tup (all2 cz (h.sm.mono (by decide)))
 |branch t y n ht hy hn=>exact .tup (bz cz (bz (ht.sm.mono (by decide)) (bz (hy.sm.mono (by decide)) (bz (hn.sm.mono (by decide)) b0))))
 |back o h=>exact .tup (all2 cz (h.sm.mono (by decide)))
 |rais s=>exact .tup (all2 cz cz)
 |risk op ex xs e cs he hx hd hc=>exact .tup (bz cz (bz cz (bz (Sm.mono he (by decide)) (bz (hx.sm.mono (by decide)) (bz (hd.sm.mono (by decide)) (bz (.tup λc h=>(hc.1 c h).sm) b0))))))
noncomputable def ca(nm:List (Key×D)):D->D
 | .tup [.str s,.int i]=>if s= "name" then(ci nm (.inl i)).getD (.tup [.str s,.int i]) else .tup [.str s,.int i]
 |d=>d
noncomputable def fZ(nm bl:List (Key×D)):D->D
 | .tup [n,.tup xs]=>.tup [iS bl n,.tup (xs.map (ca nm))]
 |d=>d
noncomputable def qR(nm gv:List (Key×D)):D->D
 | .tup [n,op,ex,.tup xs]=>.tup [iS gv n,op,ex,.tup (xs.map (ca nm))]
 |d=>d
noncomputable def lQ(nm bl:List (Key×D)):D->D
 | .tup [s,e]=>.tup [s,fZ nm bl e]
 |d=>d
noncomputable def gi(nm bl:List (Key×D)):D->D
 | .tup [.str s,a]=>if s= "jump" then .tup [.str "jump",fZ nm bl a] else if s= "back" then .tup [.str "back",ca nm a] else .tup [.str s,a]
 | .tup [.str _,t,y,n]=>.tup [.str "branch",ca nm t,fZ nm bl y,fZ nm bl n]
 | .tup [.str _,op,ex,.tup xs,e,.tup cs]=>.tup [.str "risk",op,ex,.tup (xs.map (ca nm)),fZ nm bl e,.tup (cs.map (lQ nm bl))]
 |d=>d
noncomputable def we(nm:List (Key×D)):Prop:=∀p∈nm,(∃i,p.1=Sum.inl i)/\Opd p.2
noncomputable def rq(nm:List (Key×D)):Prop:=∀p∈nm,(∃i,p.1=Sum.inl i)/\∃i,p.2=.int i
theorem k6:∀{kvs:List (Key×D)}{k:Key}{d:D},ci kvs k=some d->∃p∈kvs,p.2=d
 |p::r,k,d,h=>by
  unfold ci at h;split at h
  ·cases h;exact⟨p,.head _,rfl⟩
  ·obtain⟨q,hq,e⟩:=k6 h;exact⟨q,.tail _ hq,e⟩
theorem gT:ca nm (.tup [.str "name",.int i])=(ci nm (.inl i)).getD (.tup [.str "name",.int i]):=by simp only[ca];exact if_pos trivial
theorem iy:ca nm (.tup [.str "num",.int i])=.tup [.str "num",.int i]:=by simp only[ca];exact if_neg (by decide)
theorem gS{o:D}(hn:we nm)(h:Opd o):Opd (ca nm o):=by
 cases h with
 |nm i=>
  rw[gT];cases e:ci nm (.inl i) with
  |none=>exact .nm i
  |some d=>obtain⟨p,hp,rfl⟩:=k6 e;exact(hn p hp).2
 |num i=>rw[iy];exact .num i
 |tr b=>exact .tr b
theorem fT(hn:we nm)(h:rp xs):rp (xs.map (ca nm)):=⟨λo ho=>by
 obtain⟨x,hx,rfl⟩:=List.mem_map.mp ho;exact gS hn (h.1 x hx),by rw[List.length_map];exact h.2⟩
theorem fu:iS bl (.int i)=(ci bl (.inl i)).getD (.int i):=rfl
theorem wE(hb:rq bl):∃j,iS bl (.int i)=.int j:=by
 rw[fu];cases e:ci bl (.inl i) with
 |none=>exact⟨i,rfl⟩
 |some d=>obtain⟨p,hp,rfl⟩:=k6 e;exact(hb p hp).2
theorem vO{n:D}(hb:rq bl)(h:Nam n):Nam (iS bl n):=by
 cases h with
 |non=>exact .non
 |int i=>obtain⟨j,e⟩:=wE (i:=i) hb;rw[e];exact .int j
theorem fU(hn:we nm)(hb:rq bl)(h:Edg e):Edg (fZ nm bl e):=by
 cases h with
 |mk i xs h=>obtain⟨j,e⟩:=wE (i:=i) hb;show Edg (.tup [iS bl (.int i),.tup (xs.map (ca nm))]);rw[e];exact .mk j _ (fT hn h)
theorem vN(hn:we nm)(hg:rq gv)(h:RowD r):RowD (qR nm gv r):=by
 cases h with
 |mk n op ex xs h1 h2 h3=>exact .mk _ _ _ _ (vO hg h1) h2 (fT hn h3)
theorem vP(hn:we nm)(hb:rq bl)(h:Cat r):Cat (lQ nm bl r):=by
 cases h with
 |mk s e h=>exact .mk _ _ (fU hn hb h)
theorem lM:gi nm bl (.tup [.str "jump",e])=.tup [.str "jump",fZ nm bl e]:=by simp only[gi];exact if_pos trivial
theorem lN:gi nm bl (.tup [.str "back",e])=.tup [.str "back",ca nm e]:=by simp only[gi];exact(if_neg (by decide)).trans (if_pos trivial)
theorem lL{s:Str}:gi nm bl (.tup [.str "raise",.str s])=.tup [.str "raise",.str s]:=by simp only[gi];exact(if_neg (by decide)).trans (if_neg (by decide))
theorem vM(hn:we nm)(hb:rq bl)(h:EndD e):EndD (gi nm bl e):=by
 cases h with
 |jump e h=>rw[lM];exact .jump _ (fU hn hb h)
 |branch t y n ht hy h=>exact .branch _ _ _ (gS hn ht) (fU hn hb hy) (fU hn hb h)
 |back o h=>rw[lN];exact .back _ (gS hn h)
 |rais s=>rw[lL];exact .rais s
 |risk op ex xs e cs he hx hd hc=>exact .risk _ _ _ _ _ he (fT hn hx) (fU hn hb hd) ⟨λc h=>by
   obtain⟨x,hx,rfl⟩:=List.mem_map.mp h;exact vP hn hb (hc.1 x hx),by rw[List.length_map];exact hc.2⟩
theorem lP{o:D}(h:Opd o):ca [] o=o:=by
 cases h with
 |nm i=>rw[gT];rfl
 |num i=>exact iy
 |tr b=>rfl
theorem xY{F:D->D}:∀{xs:List D},(∀x∈xs,F x=x)->xs.map F=xs
 |[],_=>rfl
 |x::xs,h=>by rw[List.map_cons,h x (.head _),xY λy hy=>h y (.tail _ hy)]
theorem lO(h:rp xs):xs.map (ca [])=xs:=xY λx hx=>lP (h.1 x hx)
theorem z_{n:D}(h:Nam n):iS [] n=n:=by cases h<;>rfl
theorem m7(h:Edg e):fZ [] [] e=e:=by
 cases h with
 |mk i xs h=>show D.tup [iS [] (.int i),.tup (xs.map (ca []))]=_;rw[lO h];rfl
theorem z9(h:RowD r):qR [] [] r=r:=by
 cases h with
 |mk n op ex xs h1 h2 h3=>show D.tup [iS [] n,_,_,.tup (xs.map (ca []))]=_;rw[lO h3,z_ h1]
theorem Aa(h:Cat r):lQ [] [] r=r:=by
 cases h with
 |mk s e h=>show D.tup [_,fZ [] [] e]=_;rw[m7 h]
theorem z3(h:EndD e):gi [] [] e=e:=by
 cases h with
 |jump e h=>rw[lM,m7 h]
 |branch t y n ht hy h=>show D.tup [.str "branch",ca [] t,fZ [] [] y,fZ [] [] n]=_;rw[lP ht,m7 hy,m7 h]
 |back o h=>rw[lN,lP h]
 |rais s=>exact lL
 |risk op ex xs e cs he hx hd hc=>show D.tup [.str "risk",_,_,.tup (xs.map (ca [])),fZ [] [] e,.tup (cs.map (lQ [] []))]=_;rw[lO hx,m7 hd,xY λc h=>Aa (hc.1 c h)]
section
variable{k n:Nat}{st:aP}{nm:List (Key×D)}
theorem dg{o:D}{f:Nat}(hf:f=vQ∨f=lT)(ho:Opd o)(hn:st[n]? =some (.dct nm)){Q:D->aP->Prop}(h:Q (ca nm o) st):Wv (calls tab (k+1) f [o,.ref n] st) Q:=by
 have key:∀{fn:Fn},tab[f]? =some fn->fn=gW->Wv (calls tab (k+1) f [o,.ref n] st) Q:=λ{fn} e e2=>by
  subst e2;refine rS e rfl ?_;dsimp only[gW,List.map_cons,List.map_nil,List.cons_append,List.nil_append,List.length_cons,List.length_nil,List.replicate,Nat.reduceAdd,Nat.reduceSub];cases ho with
  |nm i=>
   walk_at "ev"
   refine w_eq (k:=true) (by rw[eq_str];rfl) ⟨true,rfl,λ_=>?_,nofun⟩
   walk_at "ev"
   refine rP hn rfl ⟨_,rfl,λhs=>?_,λhs=>?_⟩
   ·walk_at "ev"
    rw[gT] at h;cases e:ci nm (.inl i) with
    |none=>rw[e] at hs;cases hs
    |some d=>rw[e] at h;exact kZ hn e h
   ·walk_at "ev"
    rw[gT] at h;cases e:ci nm (.inl i) with
    |some d=>rw[e] at hs;cases hs
    |none=>rw[e] at h;exact h
  |num i=>
   walk_at "ev"
   refine w_eq (k:=false) (by rw[eq_str];rfl) ⟨false,rfl,nofun,λ_=>⟨_,rfl,nofun,λ_=>?_⟩⟩
   walk_at "ev"
   rw[iy] at h;exact h
  |tr c=>
   walk_at "ev"
   refine w_eq (k:=false) (by rw[eq_str];rfl) ⟨false,rfl,nofun,λ_=>⟨_,rfl,nofun,λ_=>?_⟩⟩
   walk_at "ev"
   exact h
 rcases hf with rfl|rfl
 ·exact key rfl rfl
 ·exact key rfl rfl
theorem gG(ho:rp xs)(hn:st[n]? =some (.dct nm)):Wv (calls tab (k+2) tL [.tup xs,.ref n] st) (Fp st (.tup (xs.map (ca nm)))):=by
 walk_at "call"
 refine⟨_,rfl,ge (F:=ca nm) (az ho.2 (by decide)) (λx hx st1 g=>?_) λst2 g=>?_⟩
 ·walk_at "ev"
  exact dg (.inl rfl) (ho.1 x hx) (g.at hn) ⟨rfl,.refl _⟩
 ·walk_at "ev"
  exact bP aq ⟨rfl,g.more _⟩
end
section
variable{k n b c:Nat}{st:aP}{nm bl gv:List (Key×D)}
theorem ig(he:Edg e)(hn:st[n]? =some (.dct nm))(hb:st[b]? =some (.dct bl)):Wv (calls tab (k+3) lR [e,.ref n,.ref b] st) (Fp st (fZ nm bl e)):=by
 cases he with
 |mk i xs h=>
  walk_at "call"
  refine⟨_,_,rfl,hb,?_⟩
  walk_at "ev"
  refine⟨_,hb,rfl,.inr ⟨_,rfl⟩,?_⟩
  walk_at "ev"
  refine Wv.mono (gG h hn) λd st1 q=>?_;obtain⟨rfl,g⟩:=q
  walk_at "ev"
  exact⟨rfl,g⟩
theorem sk{a:Ex}{Q:D->aP->Prop}(ho:rp xs)(ha:W (run (calls tab (k+1)) a loc st) λd st1=>d=.tup xs/\st1=st)(hl:loc[1]? =some (some (.ref n)))(hn:st[n]? =some (.dct nm))(h:∀st1,Gr st st1->Q (.tup (xs.map (ca nm))) st1):
  W (run (calls tab (k+1)) (.bt .tuple [.comp false a (.fn 16 [.v 0,.v 2])]) loc st) Q:=by
 refine bQ (ac (dP (ha.mono λd st1 q=>?_)));obtain⟨rfl,rfl⟩:=q;refine⟨_,rfl,ge (F:=ca nm) (az ho.2 (by decide)) (λx hx st2 g=>?_) λst2 g=>?_⟩
 ·exact c0 (bK (ac (aD rfl (ac (aD (by rw[List.getElem?_cons_succ];exact hl) (aj (dg (.inr rfl) (ho.1 x hx) (g.at hn) ⟨rfl,.refl _⟩)))))))
 ·exact aj (bP aq (h _ (g.more _)))
theorem gF(he:Edg e)(hn:st[n]? =some (.dct nm))(hb:st[b]? =some (.dct bl)):Wv (calls tab (k+2) gU [e,.ref n,.ref b] st) (Fp st (fZ nm bl e)):=by
 cases he with
 |mk i xs h=>
  walk_at "call"
  have fin:∀j,iS bl (.int i)=j->W (execs (calls tab (k+1)) [.ret (.tup [.v 3,.bt .tuple [.comp false (.ix (.v 0) (.c (.int 1))) (.fn 16 [.v 0,.v 2])]])] [some (.tup [.int i,.tup xs]),some (.ref n),some (.ref b),some j] st) (Kr (Fp st (fZ nm bl (.tup [.int i,.tup xs])))):=λj hj=>by refine bh (aW (ac (aD rfl (ac (sk h (bo (aD rfl (aU (bw rfl ⟨rfl,rfl⟩)))) rfl hn λst1 g=>?_)))));refine aj (bg ⟨?_,g⟩);rw[<-hj];rfl
  refine rP hb rfl ⟨_,rfl,λhs=>?_,λhs=>?_⟩
  ·refine a_ (bo (aD rfl (aD rfl ?_)));cases e:ci bl (.inl i) with
   |none=>rw[e] at hs;cases hs
   |some d=>
    exact kZ hb e (aN (bj (fin d (by rw[fu,e];rfl))))
  ·cases e:ci bl (.inl i) with
   |some d=>rw[e] at hs;cases hs
   |none=>exact aN (bj (fin (.int i) (by rw[fu,e];rfl)))
theorem so(hr:RowD r)(hn:st[n]? =some (.dct nm))(hb:st[b]? =some (.dct gv)):Wv (calls tab (k+2) iA [r,.ref n,.ref b] st) (Fp st (qR nm gv r)):=by
 cases hr with
 |mk m op ex xs h1 h2 h3=>
  walk_at "call"
  have fin:∀j,iS gv m=j->W (execs (calls tab (k+1)) [.ret (.tup [.v 3,.ix (.v 0) (.c (.int 1)),.ix (.v 0) (.c (.int 2)),.bt .tuple [.comp false (.ix (.v 0) (.c (.int 3))) (.fn 16 [.v 0,.v 2])]])] [some (.tup [m,.str op,ex,.tup xs]),some (.ref n),some (.ref b),some j] st) (Kr (Fp st (qR nm gv (.tup [m,.str op,ex,.tup xs])))):=λj hj=>by refine bh (aW (ac (aD rfl (ac (bo (aD rfl (aU (bw rfl (ac (bo (aD rfl (aU (bw rfl (ac (sk h3 (bo (aD rfl (aU (bw rfl ⟨rfl,rfl⟩)))) rfl hn λst1 g=>?_)))))))))))))));refine aj (bg ⟨?_,g⟩);rw[<-hj];rfl
  cases h1 with
  |non=>exact zd hb ⟨_,rfl,nofun,λhs=>aN (bj (fin .non rfl))⟩
  |int i=>
   refine rP hb rfl ⟨_,rfl,λhs=>?_,λhs=>?_⟩
   ·refine a_ (bo (aD rfl (aD rfl ?_)));cases e:ci gv (.inl i) with
    |none=>rw[e] at hs;cases hs
    |some d=>
     exact kZ hb e (aN (bj (fin d (by rw[fu,e];rfl))))
   ·cases e:ci gv (.inl i) with
    |some d=>rw[e] at hs;cases hs
    |none=>exact aN (bj (fin (.int i) (by rw[fu,e];rfl)))
end
inductive RowAt(st:aP)(r:Nat):D->Prop where
 |mk {n op ex:D}{xs:List D}(h:st[r]? =some (.ins "Row" (qx n op ex (.tup xs)))):RowAt st r (.tup [n,op,ex,.tup xs])
inductive EndAt(st:aP)(r:Nat):D->Prop where
 |jump {e:D}(h:st[r]? =some (.ins "Jump" [("edge",e)])):EndAt st r (.tup [.str "jump",e])
 |branch {t y n:D}(h:st[r]? =some (.ins "Branch" [("test",t),("yes",y),("no",n)])):EndAt st r (.tup [.str "branch",t,y,n])
 |back {o:D}(h:st[r]? =some (.ins "Back" [("operand",o)])):EndAt st r (.tup [.str "back",o])
 |rais {s:D}(h:st[r]? =some (.ins "Raise" [("fault",s)])):EndAt st r (.tup [.str "raise",s])
 |risk {op ex e:D}{xs cs:List D}(h:st[r]? =some (.ins "Risk" (ko op ex (.tup xs) e (.tup cs)))):EndAt st r (.tup [.str "risk",op,ex,.tup xs,e,.tup cs])
noncomputable def Kp(st st':aP):Prop:=∀(n:Nat) c fs,st[n]? =some (.ins c fs)->st'[n]? =some (.ins c fs)
theorem nN(h:Gr st st'):Kp st st':=λ_ _ _ e=>h.at e
theorem Kp.trans{c:aP}(h:Kp a b)(k:Kp b c):Kp a c:=λn c fs e=>k n c fs (h n c fs e)
theorem RowAt.kp{r:Nat}(k:Kp st st')(h:RowAt st r d):RowAt st' r d:=by
 cases h with
 |mk h=>exact .mk (k _ _ _ h)
theorem EndAt.kp{r:Nat}(k:Kp st st')(h:EndAt st r d):EndAt st' r d:=by
 cases h with
 |jump h=>exact .jump (k _ _ _ h)
 |branch h=>exact .branch (k _ _ _ h)
 |back h=>exact .back (k _ _ _ h)
 |rais h=>exact .rais (k _ _ _ h)
 |risk h=>exact .risk (k _ _ _ h)
theorem RowAt.ins{r:Nat}(h:RowAt st r d):∃fs,st[r]? =some (.ins "Row" fs):=by
 cases h with
 |mk h=>exact⟨_,h⟩
section
variable{k n b r:Nat}{st:aP}{nm gv:List (Key×D)}{Q:D->aP->Prop}
theorem wF{a o:D}(h:Q .non (st++[.ins "Row" (qx a o e (.tup xs))])):Wv (calls tab (k+1) oQ [.ref st.length,a,o,e,.tup xs] (st++[.ins "Row" []])) Q:=by
 obtain⟨s0,hs0⟩:∃s0,s0=st++[O.ins "Row" []]:=⟨_,rfl⟩;rw[<-hs0]
 walk_at "call0"
 rw[hs0];refine dq rfl (aD rfl (jJ aq ?_));rw[bJ];refine dq rfl (aD rfl (jJ aq ?_));rw[bJ];refine dq rfl (aD rfl (jJ aq ?_));rw[bJ];refine dq rfl (bQ (ac (aD rfl (aj (mw (jJ aq ?_))))));rw[bJ];exact aN (gP h)
theorem tN(h:Q .non (st++[.ins "Jump" [("edge",e)]])):Wv (calls tab (k+1) nk [.ref st.length,e] (st++[.ins "Jump" []])) Q:=by
 obtain⟨s0,hs0⟩:∃s0,s0=st++[O.ins "Jump" []]:=⟨_,rfl⟩;rw[<-hs0]
 walk_at "call0"
 rw[hs0];refine dq rfl (aD rfl (jJ aq ?_));rw[bJ];exact aN (gP h)
theorem tO(h:Q .non (st++[.ins "Back" [("operand",e)]])):Wv (calls tab (k+1) nv [.ref st.length,e] (st++[.ins "Back" []])) Q:=by
 obtain⟨s0,hs0⟩:∃s0,s0=st++[O.ins "Back" []]:=⟨_,rfl⟩;rw[<-hs0]
 walk_at "call0"
 rw[hs0];refine dq rfl (aD rfl (jJ aq ?_));rw[bJ];exact aN (gP h)
theorem pZ(h:Q .non (st++[.ins "Raise" [("fault",e)]])):Wv (calls tab (k+1) lW [.ref st.length,e] (st++[.ins "Raise" []])) Q:=by
 obtain⟨s0,hs0⟩:∃s0,s0=st++[O.ins "Raise" []]:=⟨_,rfl⟩;rw[<-hs0]
 walk_at "call0"
 rw[hs0];refine dq rfl (aD rfl (jJ aq ?_));rw[bJ];exact aN (gP h)
theorem np{m:D}(h:Q .non (st++[.ins "Branch" [("test",t),("yes",y),("no",m)]])):Wv (calls tab (k+1) kb [.ref st.length,t,y,m] (st++[.ins "Branch" []])) Q:=by
 obtain⟨s0,hs0⟩:∃s0,s0=st++[O.ins "Branch" []]:=⟨_,rfl⟩;rw[<-hs0]
 walk_at "call0"
 rw[hs0];refine dq rfl (aD rfl (jJ aq ?_));rw[bJ];refine dq rfl (aD rfl (jJ aq ?_));rw[bJ];refine dq rfl (aD rfl (jJ aq ?_));rw[bJ];exact aN (gP h)
theorem hX(hs:bp st x=some xs)(h:Q (.tup xs) st):W (dW .tuple [x] st) Q:=by simp only[dW,rn,hs];exact h
theorem ib{st:aP}(g:Gr st st')(h:bp st x=some xs):bp st' x=some xs:=by
 cases x with
 |ref n=>
  simp only[bp] at h ⊢;cases q:st[n]? with
  |none=>rw[q] at h;cases h
  |some o=>rw[q] at h;rw[g.at q];exact h
 |_=>exact h
theorem tM{op ex:D}(hx:bp st x=some xs)(hy:bp st y=some cs)(h:Q .non (st++[.ins "Risk" (ko op ex (.tup xs) e (.tup cs))])):Wv (calls tab (k+1) nj [.ref st.length,op,ex,x,e,y] (st++[.ins "Risk" []])) Q:=by
 obtain⟨s0,hs0⟩:∃s0,s0=st++[O.ins "Risk" []]:=⟨_,rfl⟩;rw[<-hs0]
 walk_at "call0"
 rw[hs0];refine dq rfl (aD rfl (jJ aq ?_));rw[bJ];refine dq rfl (aD rfl (jJ aq ?_));rw[bJ];refine dq rfl (bQ (ac (aD rfl (aj (hX (ib (.one _ _) hx) (jJ aq ?_))))));rw[bJ];refine dq rfl (aD rfl (jJ aq ?_));rw[bJ];refine dq rfl (bQ (ac (aD rfl (aj (hX (ib (.one _ _) hy) (jJ aq ?_))))));rw[bJ];exact aN (gP h)
theorem oj(hr:RowAt st r d)(h:Q d st):Wv (calls tab (k+1) oP [.ref r] st) Q:=by
 cases hr with
 |mk e=>
  walk_at "call0"
  refine bh (aW (ac (aZ (aD rfl (fg e 0 rfl ?_)))));refine ac (aZ (aD rfl (fg e 1 rfl ?_)));refine ac (aZ (aD rfl (fg e 2 rfl ?_)));refine ac (aZ (aD rfl (fg e 3 rfl ?_)));exact aj (bg h)
theorem mH(hd:RowD d)(hr:RowAt st r d)(hn:st[n]? =some (.dct nm))(hb:st[b]? =some (.dct gv)):Wv (calls tab (k+3) nh [.ref r,.ref n,.ref b] st) λx st1=>∃m,x=.ref m/\RowAt st1 m (qR nm gv d)/\Gr st st1:=by
 cases hd with
 |mk m op ex xs h1 h2 h3=>
  cases hr with
  |mk e=>
   walk_at "call0"
   refine bh (dn (ac (rQ (aD rfl ⟨_,_,rfl,hb,aZ (aD rfl (fg e 0 rfl ?_))⟩))));refine aZ (aD rfl (fg e 0 rfl ⟨_,hb,rfl,?_,?_⟩))
   ·cases h1 with
    |non=>exact .inl rfl
    |int i=>exact .inr ⟨_,rfl⟩
   refine ac (aZ (aD rfl (fg e 1 rfl ?_)));refine ac (aZ (aD rfl (fg e 2 rfl ?_)));refine ac (bK (ac (aZ (aD rfl (fg e 3 rfl (ac (aD rfl (aj ?_))))))));refine Wv.mono (gG h3 hn) λd st1 q=>?_;obtain⟨rfl,g⟩:=q;refine aj (wF ⟨rfl,bg ⟨_,rfl,.mk aq,g.more _⟩⟩)
end
noncomputable abbrev mT:List (Str×Nat):=[("Row",24),("Jump",28),("Branch",32),("Back",36),("Raise",39),("Risk",42),("Block",46),("Function",48)]
noncomputable abbrev mM:List (Str×Nat):=[("Row",25),("Jump",29),("Branch",33),("Back",37),("Raise",40),("Risk",43)]
noncomputable abbrev mE:List (Str×Nat):=[("Jump",30),("Branch",34),("Back",26),("Raise",26),("Risk",44)]
theorem eu(h:st[n]? =some (.lst xs)):bp st (.ref n)=some xs:=by simp only[bp,h]
section
variable{k n b r:Nat}{st:aP}{nm bl:List (Key×D)}{Q:D->aP->Prop}{loc:Loc}{a:Ex}{as:List Ex}
theorem i8(h:W (run (calls tab (k+1)) a loc st) λx st1=>∃r e,x=.ref r/\RowAt st1 r e/\Q e st1):W (run (calls tab (k+1)) (.meth a "told" mT []) loc st) Q:=by
 refine fh (h.mono λx st1 hp=>?_);obtain⟨r,e,rfl,hr,q⟩:=hp;have hr':=hr;cases hr with
 |mk hh=>exact mP hh rfl (aj (oj hr' q))
theorem lE(h:W (run (calls tab (k+1)) a loc st) λx st1=>∃r e,x=.ref r/\EndAt st1 r e/\Q e st1):W (run (calls tab (k+1)) (.meth a "told" mT []) loc st) Q:=by
 refine fh (h.mono λx st1 hp=>?_);obtain⟨r,e,rfl,hr,q⟩:=hp;cases hr with
 |jump hh=>
  refine mP hh rfl (aj ?_)
  walk_at "call0"
  exact bh (aW (ac (aU (ac (aZ (aD rfl (fg hh 0 rfl (aj (bg q)))))))))
 |branch hh=>
  refine mP hh rfl (aj ?_)
  walk_at "call0"
  refine bh (aW (ac (aU (ac (aZ (aD rfl (fg hh 0 rfl ?_)))))));refine ac (aZ (aD rfl (fg hh 1 rfl ?_)));refine ac (aZ (aD rfl (fg hh 2 rfl ?_)));exact aj (bg q)
 |back hh=>
  refine mP hh rfl (aj ?_)
  walk_at "call0"
  exact bh (aW (ac (aU (ac (aZ (aD rfl (fg hh 0 rfl (aj (bg q)))))))))
 |rais hh=>
  refine mP hh rfl (aj ?_)
  walk_at "call0"
  exact bh (aW (ac (aU (ac (aZ (aD rfl (fg hh 0 rfl (aj (bg q)))))))))
 |risk hh=>
  refine mP hh rfl (aj ?_)
  walk_at "call0"
  refine bh (aW (ac (aU (ac (aZ (aD rfl (fg hh 0 rfl ?_)))))));refine ac (aZ (aD rfl (fg hh 1 rfl ?_)));refine ac (aZ (aD rfl (fg hh 2 rfl ?_)));refine ac (aZ (aD rfl (fg hh 3 rfl ?_)));refine ac (aZ (aD rfl (fg hh 4 rfl ?_)));exact aj (bg q)
theorem lq(he:Edg e)(hh:st[r]? =some (.ins "Jump" [("edge",e)]))(hn:st[n]? =some (.dct nm))(hb:st[b]? =some (.dct bl))(h:∀m st1,EndAt st1 m (gi nm bl (.tup [.str "jump",e]))->Gr st st1->Q (.ref m) st1):Wv (calls tab (k+4) lX [.ref r,.ref n,.ref b] st) Q:=by
 walk_at "call0"
 refine bh (dn (ac (bK (ac (aZ (aD rfl (fg hh 0 rfl (ac (aD rfl (ac (aD rfl (aj ?_))))))))))));refine Wv.mono (ig he hn hb) λd st1 q=>?_;obtain⟨rfl,g⟩:=q;refine aj (tN ⟨rfl,bg (h _ _ ?_ (g.more _))⟩);rw[lM];exact .jump aq
theorem ls(he:Opd e)(hh:st[r]? =some (.ins "Back" [("operand",e)]))(hn:st[n]? =some (.dct nm))(hb:st[b]? =some (.dct bl))(h:∀m st1,EndAt st1 m (gi nm bl (.tup [.str "back",e]))->Gr st st1->Q (.ref m) st1):Wv (calls tab (k+4) l0 [.ref r,.ref n,.ref b] st) Q:=by
 walk_at "call0"
 refine bh (dn (ac (bK (ac (aZ (aD rfl (fg hh 0 rfl (ac (aD rfl (aj ?_))))))))));refine dg (.inl rfl) he hn ?_;refine aj (tO ⟨rfl,bg (h _ _ ?_ (.one _ _))⟩);rw[lN];exact .back aq
theorem j8{s:Str}(hh:st[r]? =some (.ins "Raise" [("fault",.str s)]))(h:∀m st1,EndAt st1 m (gi nm bl (.tup [.str "raise",.str s]))->Gr st st1->Q (.ref m) st1):Wv (calls tab (k+4) ka [.ref r,.ref n,.ref b] st) Q:=by
 walk_at "call0"
 refine bh (dn (ac (aZ (aD rfl (fg hh 0 rfl (aj ?_))))));refine pZ ⟨rfl,bg (h _ _ ?_ (.one _ _))⟩;rw[lL];exact .rais aq
theorem jt{m:D}(ht:Opd t)(hy:Edg y)(hm:Edg m)(hh:st[r]? =some (.ins "Branch" [("test",t),("yes",y),("no",m)]))(hn:st[n]? =some (.dct nm))(hb:st[b]? =some (.dct bl))(h:∀p st1,EndAt st1 p (gi nm bl (.tup [.str "branch",t,y,m]))->Gr st st1->Q (.ref p) st1):Wv (calls tab (k+4) jH [.ref r,.ref n,.ref b] st) Q:=by
 walk_at "call0"
 refine a_ (bK (ac (aZ (aD rfl (fg hh 1 rfl (ac (aD rfl (ac (aD rfl (aj ?_))))))))));refine Wv.mono (ig hy hn hb) λd st1 q=>?_;obtain⟨rfl,g⟩:=q;refine bh (dn (ac (bK (ac (aZ (aD rfl (fg (g.at hh) 0 rfl (ac (aD rfl (aj ?_))))))))));refine dg (.inl rfl) ht (g.at hn) ?_;refine ac (aD rfl (ac (bK (ac (aZ (aD rfl (fg (g.at hh) 2 rfl (ac (aD rfl (ac (aD rfl (aj ?_))))))))))));refine Wv.mono (ig hm (g.at hn) (g.at hb)) λd st2 q=>?_;obtain⟨rfl,g2⟩:=q;refine aj (np ⟨rfl,bg (h _ _ ?_ ((g.trans g2).more _))⟩);exact .branch aq
theorem lm{op ex:D}(hx:rp xs)(he:Edg e)(hc:(∀c∈cs,Cat c)/\cs.length<=1000)(hh:st[r]? =some (.ins "Risk" (ko op ex (.tup xs) e (.tup cs))))(hn:st[n]? =some (.dct nm))(hb:st[b]? =some (.dct bl))(h:∀p st1,EndAt st1 p (gi nm bl (.tup [.str "risk",op,ex,.tup xs,e,.tup cs]))->Gr st st1->Q (.ref p) st1):Wv (calls tab (k+4) lV [.ref r,.ref n,.ref b] st) Q:=by
 walk_at "call0"
 refine a_ (bK (ac (aZ (aD rfl (fg hh 3 rfl (ac (aD rfl (ac (aD rfl (aj ?_))))))))));refine Wv.mono (ig he hn hb) λd st1 q=>?_;obtain⟨rfl,g⟩:=q;refine a_ (dG (aZ (aD rfl (fg (g.at hh) 4 rfl ⟨_,rfl,ge (F:=lQ nm bl) (az hc.2 (by decide)) (λx hx st2 g2=>?_) λst2 g2=>?_⟩))))
 ·cases hc.1 x hx with
  |mk s e' h'=>refine gu (aW (ac (aD rfl (ac (bK (ac (aD rfl (ac (aD rfl (ac (aD rfl (aj ?_))))))))))));refine Wv.mono (ig h' ((g.trans g2).at hn) ((g.trans g2).at hb)) λd st3 q=>?_;obtain⟨rfl,g3⟩:=q;exact aj ⟨rfl,g3⟩
 have g4:=g.trans (g2.more (.lst (cs.map (lQ nm bl))));refine bh (dn (ac (aZ (aD rfl (fg (g4.at hh) 0 rfl ?_)))));refine ac (aZ (aD rfl (fg (g4.at hh) 1 rfl ?_)));refine ac (bK (ac (aZ (aD rfl (fg (g4.at hh) 2 rfl (ac (aD rfl (aj ?_))))))));refine Wv.mono (gG hx (g4.at hn)) λd st3 q=>?_;obtain⟨rfl,g3⟩:=q;refine ac (aD rfl (ac (aD rfl (aj ?_))));refine tM (xs:=xs.map (ca nm)) (cs:=cs.map (lQ nm bl)) rfl (eu (g3.at aq)) ⟨rfl,bg (h _ _ ?_ ((g4.trans g3).more _))⟩;exact .risk aq
theorem pP(h:W (run (calls tab (k+4)) a loc st) λx st1=>∃r e,x=.ref r/\EndD e/\EndAt st1 r e/\W (runs (calls tab (k+4)) as loc st1) λds st2=>∃n b nm bl,ds=[.ref n,.ref b]/\st2[n]? =some (.dct nm)/\st2[b]? =some (.dct bl)/\Gr st1 st2/\∀m st3,EndAt st3 m (gi nm bl e)->Gr st2 st3->Q (.ref m) st3):W (run (calls tab (k+4)) (.meth a "moved" mM as) loc st) Q:=by
 refine fh (h.mono λx st1 hp=>?_);obtain⟨r,e,rfl,hd,hr,q⟩:=hp;cases hr with
 |jump hh=>
  refine mP hh rfl (q.mono λds st2 q=>?_);obtain⟨n,b,nm,bl,rfl,hn,hb,g,q⟩:=q;cases hd with
  |jump _ h=>exact lq h (g.at hh) hn hb q
 |branch hh=>
  refine mP hh rfl (q.mono λds st2 q=>?_);obtain⟨n,b,nm,bl,rfl,hn,hb,g,q⟩:=q;cases hd with
  |branch _ _ _ h1 h2 h3=>exact jt h1 h2 h3 (g.at hh) hn hb q
 |back hh=>
  refine mP hh rfl (q.mono λds st2 q=>?_);obtain⟨n,b,nm,bl,rfl,hn,hb,g,q⟩:=q;cases hd with
  |back _ h=>exact ls h (g.at hh) hn hb q
 |rais hh=>
  refine mP hh rfl (q.mono λds st2 q=>?_);obtain⟨n,b,nm,bl,rfl,hn,hb,g,q⟩:=q;cases hd with
  |rais s=>exact j8 (g.at hh) q
 |risk hh=>
  refine mP hh rfl (q.mono λds st2 q=>?_);obtain⟨n,b,nm,bl,rfl,hn,hb,g,q⟩:=q;cases hd with
  |risk _ _ _ _ _ h1 h2 h3 h4=>exact lm h2 h3 h4 (g.at hh) hn hb q
end
theorem mh:qm (d::xs) 0=some d:=by
 obtain⟨e,h1,h2⟩:=oW (xs:=d::xs) (i:=0) (by omega) (by simp only[List.length_cons];omega)
 rw[h1];exact h2.symm
noncomputable def B3(es:List D):Prop:=(∀x∈es,∃e c,x=.tup [e,.bl c]/\Edg e)/\es.length<=2000
section
variable{k n b r:Nat}{st:aP}{nm bl:List (Key×D)}{Q:D->aP->Prop}{loc:Loc}{a:Ex}
theorem vB(h:W (run (calls tab (k+1)) a loc st) λx st1=>∃r e,x=.ref r/\EndD e/\EndAt st1 r e/\∀m es st2,st2[m]? =some (.lst es)->B3 es->Gr st1 st2->Q (.ref m) st2):W (run (calls tab (k+1)) (.meth a "edges" mE []) loc st) Q:=by
 refine fh (h.mono λx st1 hp=>?_);obtain⟨r,e,rfl,hd,hr,q⟩:=hp;cases hr with
 |jump hh=>
  refine mP hh rfl (aj ?_)
  walk_at "call0"
  cases hd with
  |jump _ h=>exact bh (bN (ac (aW (ac (aZ (aD rfl (fg hh 0 rfl (ac (aU (aj (aj (bg (q _ _ _ aq ⟨bz ⟨_,_,rfl,h⟩ b0,by simp⟩ (.one _ _))))))))))))))
 |branch hh=>
  refine mP hh rfl (aj ?_)
  walk_at "call0"
  cases hd with
  |branch _ _ _ h1 h2 h3=>
   refine bh (bN (ac (aW (ac (aZ (aD rfl (fg hh 1 rfl (ac (aU (aj ?_))))))))));refine ac (aW (ac (aZ (aD rfl (fg hh 2 rfl (ac (aU (aj (aj (bg (q _ _ _ aq ⟨all2 ⟨_,_,rfl,h2⟩ ⟨_,_,rfl,h3⟩,by simp⟩ (.one _ _))))))))))))
 |back hh=>
  refine mP hh rfl (aj ?_)
  walk_at "call0"
  exact bh (bN (aj (bg (q _ _ _ aq ⟨b0,by decide⟩ (.one _ _)))))
 |rais hh=>
  refine mP hh rfl (aj ?_)
  walk_at "call0"
  exact bh (bN (aj (bg (q _ _ _ aq ⟨b0,by decide⟩ (.one _ _)))))
 |risk hh=>
  refine mP hh rfl (aj ?_)
  walk_at "call0"
  cases hd with
  |risk _ _ _ _ cs h1 h2 h3 h4=>
   refine bh (bc (bN (ac (aW (ac (aZ (aD rfl (fg hh 3 rfl (ac (aU (aj (aj ?_))))))))))));refine dG (aZ (aD rfl (fg ((Gr.one st1 _).at hh) 4 rfl ⟨_,rfl,ge (F:=λd=>match d with| .tup [_,e]=>.tup [e,.bl false]|d=>d) (az h4.2 (by decide)) (λx hx st2 g2=>?_) λst2 g2=>?_⟩)))
   ·cases h4.1 x hx with
    |mk s e' h'=>exact gu (aW (ac (aD rfl (ac (aU (aj ⟨rfl,.refl _⟩))))))
   ·refine fj ((g2.more _).at aq) aq (by rw[List.length_map];have:=h4.2;simp only[List.length_cons,List.length_nil];omega) (bg (q _ _ _ aq ⟨?_,?_⟩ (((Gr.one st1 _).trans (g2.more _)).more _)))
    ·intro x hx;rcases List.mem_append.mp hx with hx|hx
     ·rcases List.mem_cons.mp hx with rfl|hx
      ·exact⟨_,_,rfl,h3⟩
      ·cases hx
     ·obtain⟨y,hy,rfl⟩:=List.mem_map.mp hx;cases h4.1 y hy with
      |mk s e' h'=>exact⟨_,_,rfl,h'⟩
    ·have:=h4.2;simp only[List.length_append,List.length_map,List.length_cons,List.length_nil];omega
theorem xh(he:EndD e)(hn:st[n]? =some (.dct nm))(hb:st[b]? =some (.dct bl)):Wv (calls tab (k+3) iB [e,.ref n,.ref b] st) (Fp st (gi nm bl e)):=by
 have no:∀{s t:Str}{a:List S}{ss:List S}{loc:Loc}{Q:Fl->aP->Prop}{xs:List D},loc[0]? =some (some (.tup (.str s::xs)))->(s==t)=false->W (execs (calls tab (k+2)) ss loc st) Q->W (execs (calls tab (k+2)) (.ite (.cmp .Eq (.ix (.v 0) (.c (.int 0))) (.c (.str t))) a []::ss) loc st) Q:=λ{s t a ss loc Q xs} hl hs h=>
  cZ (bD (bo (aD hl (aU (bw mh (aU (w_eq (k:=false) (by rw[eq_str,hs]) ⟨_,rfl,nofun,λ_=>aN (bj h)⟩)))))))
 have yes:∀{s:Str}{a:List S}{ss:List S}{loc:Loc}{Q:Fl->aP->Prop}{xs:List D},loc[0]? =some (some (.tup (.str s::xs)))->W (execs (calls tab (k+2)) a loc st) (Kn (calls tab (k+2)) ss Q)->W (execs (calls tab (k+2)) (.ite (.cmp .Eq (.ix (.v 0) (.c (.int 0))) (.c (.str s))) a []::ss) loc st) Q:=λ{s a ss loc Q xs} hl h=>
  cZ (bD (bo (aD hl (aU (bw mh (aU (w_eq (k:=true) (by rw[eq_str];simp) ⟨_,rfl,λ_=>h,nofun⟩)))))))
 walk_at "call0"
 cases he with
 |jump e h=>refine yes rfl (bh (aW (ac (aU (ac (bK (ac (bo (aD rfl (aU (bw rfl (ac (aD rfl (ac (aD rfl (aj ?_))))))))))))))));refine Wv.mono (gF h hn hb) λd st1 q=>?_;obtain⟨rfl,g⟩:=q;refine aj (cB (bg ⟨?_,g⟩));rw[lM]
 |branch t y m ht hy hm=>
  refine no rfl rfl (yes rfl (a_ (dP (ji (aD rfl (aU ⟨_,rfl,wg (show ¬(HT.cu 4 0 (some 2)=0/\HT.cu 4 4 none=4) by decide) ⟨_,rfl,?_⟩⟩))))))
  refine ge (F:=fZ nm bl) (xs:=[y,m]) (by simp) (λx hx st1 g1=>?_) λst1 g1=>?_
  ·refine c0 (bK (ac (aD rfl (ac (aD rfl (ac (aD rfl (aj ?_))))))));have hxe:Edg x:=(all2 hy hm:∀x∈[y,m],Edg x) x hx;refine Wv.mono (gF hxe (g1.at hn) (g1.at hb)) λd st2 q=>?_;obtain⟨rfl,g⟩:=q;exact⟨rfl,g⟩
  ·refine bh (aW (ac (aU (ac (bK (ac (bo (aD rfl (aU (bw rfl (ac (aD rfl (aj ?_)))))))))))));refine dg (.inr rfl) ht ((g1.more _).at hn) ?_;refine ac (bo (aD rfl (aU (jj aq rfl ?_))));refine ac (bo (aD rfl (aU (jj aq rfl ?_))));exact aj (cB (bg ⟨rfl,g1.more _⟩))
 |back o h=>refine no rfl rfl (no rfl rfl (yes rfl (bh (aW (ac (aU (ac (bK (ac (bo (aD rfl (aU (bw rfl (ac (aD rfl (aj ?_))))))))))))))));refine dg (.inr rfl) h hn (aj (cB (bg ⟨?_,.refl _⟩)));rw[lN]
 |rais s=>refine no rfl rfl (no rfl rfl (no rfl rfl (yes rfl (bh (aD rfl (cB (bg ⟨?_,.refl _⟩)))))));rw[lL]
 |risk op ex xs e cs he hx hd hc=>
  refine no rfl rfl (no rfl rfl (no rfl rfl (no rfl rfl (a_ ?_))));refine sk hx (bo (aD rfl (aU (bw rfl ⟨rfl,rfl⟩)))) rfl hn λst1 g1=>?_;refine a_ (bQ (ac (dG (bo (aD rfl (aU (bw rfl ⟨_,rfl,ge (F:=lQ nm bl) (az hc.2 (by decide)) (λx hx st2 g2=>?_) λst2 g2=>aj (bP aq ?_)⟩)))))))
  ·cases hc.1 x hx with
   |mk s e' h'=>refine gu (aW (ac (aD rfl (ac (bK (ac (aD rfl (ac (aD rfl (ac (aD rfl (aj ?_))))))))))));refine Wv.mono (gF h' ((g1.trans g2).at hn) ((g1.trans g2).at hb)) λd st3 q=>?_;obtain⟨rfl,g3⟩:=q;exact aj ⟨rfl,g3⟩
  ·have g4:=g1.trans (g2.more (.lst (cs.map (lQ nm bl))));refine bh (aW (ac (aU (ac (bo (aD rfl (aU (bw rfl (ac (bo (aD rfl (aU (bw rfl (ac (aD rfl ?_)))))))))))))));refine ac (bK (ac (bo (aD rfl (aU (bw rfl (ac (aD rfl (ac (aD rfl (aj ?_)))))))))));refine Wv.mono (gF hd (g4.at hn) (g4.at hb)) λd st3 q=>?_;obtain⟨rfl,g3⟩:=q;exact ac (aD rfl (aj (bg ⟨rfl,g4.trans g3⟩)))
end
noncomputable def ke(p r e:D):List (Str×D):=[("params",p),("rows",r),("end",e)]
noncomputable def BG(ps:List D):Prop:=(∀p∈ps,∃i,p=.int i)/\ps.length<=1000
structure BlkD(ps rows:List D)(x:D):Prop where
 p:BG ps
 r:∀r∈rows,RowD r
 rl:rows.length<=1000
 e:EndD x
structure BlkAt(st:aP)(r:Nat)(ps rows:List D)(x:D)(rs:List Nat)(e:Nat):Prop where
 ins:st[r]? =some (.ins "Block" (ke (.tup ps) (.tup (rs.map .ref)) (.ref e)))
 len:rs.length=rows.length
 row:∀(i p:Nat)(d:D),rs[i]? =some p->rows[i]? =some d->RowAt st p d
 fin:EndAt st e x
theorem BlkAt.kp{r e:Nat}{ps:List D}(k:Kp st st')(h:BlkAt st r ps rows x rs e):BlkAt st' r ps rows x rs e:=
 ⟨k _ _ _ h.ins,h.len,λi p d a b=>(h.row i p d a b).kp k,h.fin.kp k⟩
noncomputable def j6:List D->List D->List D
 |x::xs,y::ys=>.tup [x,y]::j6 xs ys
 |_,_=>[]
theorem jg:∀(xs ys:List D)(i:Nat),(j6 xs ys)[i]? =(match xs[i]?,ys[i]? with
   |some x,some y=>some (.tup [x,y])
   |_,_=>none)
 |[],_,i=>by simp[j6]
 |_::_,[],i=>by simp only[j6,List.getElem?_nil];split<;>simp_all
 |x::xs,y::ys,0=>rfl
 |x::xs,y::ys,i+1=>by simpa[j6] using jg xs ys i
theorem jf:∀(xs ys:List D),(j6 xs ys).length<=xs.length
 |[],_=>ah _
 |_::_,[]=>Nat.zero_le _
 |_::xs,_::ys=>Nat.succ_le_succ (jf xs ys)
theorem mo{i:Nat}{z:D}(h:(j6 xs ys)[i]? =some z):∃x y,xs[i]? =some x/\ys[i]? =some y/\z=.tup [x,y]:=by
 rw[jg] at h;split at h
 ·cases h;exact⟨_,_,by assumption,by assumption,rfl⟩
 ·cases h
theorem sT{i:Nat}:im (.zp (.tup xs) (.tup ys)) i st=some (j6 xs ys)[i]?:=by rw[jg];rfl
section
variable{k n b c r:Nat}{st:aP}{nm bl gv:List (Key×D)}{Q:D->aP->Prop}{loc:Loc}{a:Ex}{as:List Ex}
theorem mV(h:W (run (calls tab (k+3)) a loc st) λx st1=>∃r d,x=.ref r/\RowD d/\RowAt st1 r d/\W (runs (calls tab (k+3)) as loc st1) λds st2=>∃n b nm gv,ds=[.ref n,.ref b]/\st2[n]? =some (.dct nm)/\st2[b]? =some (.dct gv)/\Gr st1 st2/\∀m st3,RowAt st3 m (qR nm gv d)->Gr st2 st3->Q (.ref m) st3):W (run (calls tab (k+3)) (.meth a "moved" mM as) loc st) Q:=by
 refine fh (h.mono λx st1 hp=>?_);obtain⟨r,d,rfl,hd,hr,q⟩:=hp;have hr':=hr;cases hr with
 |mk hh=>refine mP hh rfl (q.mono λds st2 q=>?_);obtain⟨n,b,nm,gv,rfl,hn,hb,g,q⟩:=q;refine Wv.mono (mH hd (hr'.kp (nN g)) hn hb) λx st3 q3=>?_;obtain⟨m,rfl,h1,h2⟩:=q3;exact q m st3 h1 h2
theorem mx{loc:Loc}{st:aP}{c:Ex}{a:List S}{Q:Fl->aP->Prop}(h:W (run g c loc st) λz st1=>z=.bl false/\W (execs g ss loc st1) Q):W (execs g (.ite c a []::ss) loc st) Q:=
 cZ (h.mono λz st1 hp=>by obtain⟨rfl,q⟩:=hp;exact⟨_,rfl,nofun,λ_=>aN (bj q)⟩)
theorem iH{st:aP}(h:Sm m d)(hm:m<60){Q:D->aP->Prop}(q:Q (.bl false) st):W (bZ .NotEq d d st) Q:=uN (h.eq hm) q
theorem o0{loc:Loc}{st:aP}{a b:Ex}{Q:D->aP->Prop}(h:W (run g a loc st) λx st1=>x=.bl false/\W (run g b loc st1) Q):W (run g (.or a b) loc st) Q:=
 w_or (h.mono λx st1 hp=>by obtain⟨rfl,q⟩:=hp;exact⟨_,rfl,nofun,λ_=>q⟩)
noncomputable abbrev bR:List S:=[.set 11 (.meth (.v 9) "moved" mM [(.v 3),(.v 4)]),.ite (.or (.not (.isk (.v 11) "Row")) (.or (.cmp .NotEq (.meth (.v 11) "told" mT []) (.fn 18 [(.v 10),(.v 3),(.v 4)])) (.cmp .NotEq (.meth (.v 9) "told" mT []) (.v 10)))) [.ret (.c (.bl false))] [],.ite (.or (.cmp .NotEq (.fn 1 [(.ix (.v 10) (.c (.int (3)))),(.v 3)]) (.ix (.fn 18 [(.v 10),(.v 3),(.v 4)]) (.c (.int (3))))) (.cmp .NotEq (.meth (.meth (.v 9) "moved" mM [.emp,.emp]) "told" mT []) (.v 10))) [.ret (.c (.bl false))] [],.for_ 12 false (.ix (.v 10) (.c (.int (3)))) [.ite (.cmp .NotEq (.fn 0 [(.v 12),(.v 3)]) (.fn 16 [(.v 12),(.v 3)])) [.ret (.c (.bl false))] []]]
theorem u7{x0 x1 x11:Option D}{Q:Fl->aP->Prop}(hd:RowD d)(hr:RowAt st r d)(hn:st[n]? =some (.dct nm))(hc:st[c]? =some (.dct gv))(hnm:we nm)(hgv:rq gv)
  (h:∀x11 x12 st1,Gr st st1->Q (.nx [x0,x1,x2,some (.ref n),some (.ref c),x5,x6,x7,x8,some (.ref r),some d,x11,x12,x13,x14]) st1):
  W (execs (calls tab (k+3)) bR [x0,x1,x2,some (.ref n),some (.ref c),x5,x6,x7,x8,some (.ref r),some d,x11,x12,x13,x14] st) Q:=by
 have hI:=vN hnm hgv hd;refine a_ (mV (aD rfl ⟨_,_,rfl,hd,hr,ac (aD rfl (ac (aD rfl (aj ⟨_,_,_,_,rfl,hn,hc,.refl _,λm st1 hm g=>?_⟩))))⟩));refine mx (o0 (w_not (wn (aD rfl ?_))));obtain⟨fs,hh⟩:=hm.ins;refine⟨_,_,rfl,hh,_,rfl,rfl,?_⟩;refine o0 (bD (i8 (aD rfl ⟨_,_,rfl,hm,?_⟩)));refine bK (ac (aD rfl (ac (aD rfl (ac (aD rfl (aj ?_)))))));refine Wv.mono (so hd (g.at hn) (g.at hc)) λy st2 q=>?_;obtain⟨rfl,g2⟩:=q;refine iH hI.sm (by decide) ⟨rfl,?_⟩
 have g3:=g.trans g2;refine bD (i8 (aD rfl ⟨_,_,rfl,hr.kp (nN g3),aD rfl (iH hd.sm (by decide) ⟨rfl,?_⟩)⟩))
 cases hd with
 |mk m' op ex xs h1 h2 h3=>
  refine mx (o0 (bD (bK (ac (bo (aD rfl (aU (bw rfl (ac (aD rfl (aj ?_)))))))))));refine Wv.mono (gG h3 (g3.at hn)) λy st4 q=>?_;obtain⟨rfl,g4⟩:=q;have g5:=g3.trans g4;refine bo (bK (ac (aD rfl (ac (aD rfl (ac (aD rfl (aj ?_))))))));refine Wv.mono (so (.mk m' op ex xs h1 h2 h3) (g5.at hn) (g5.at hc)) λy st6 q=>?_;obtain⟨rfl,g6⟩:=q;have g7:=g5.trans g6;refine aU (bw rfl (iH (fT hnm h3).sm (by decide) ⟨rfl,?_⟩))
  refine bD (i8 (mV (aD rfl ⟨_,_,rfl,.mk m' op ex xs h1 h2 h3,hr.kp (nN g7),ac (fi (ac (fi (aj ⟨_,_,[],[],rfl,aL aq,aq,(Gr.one _ _).more _,λm8 st8 hm8 g8=>⟨_,_,rfl,hm8,?_⟩⟩))))⟩)));rw[z9 (.mk m' op ex xs h1 h2 h3)];refine aD rfl (iH (RowD.sm (.mk m' op ex xs h1 h2 h3)) (by decide) ⟨rfl,?_⟩)
  have g9:=g7.trans (((Gr.one _ _).more _).trans g8);refine ej (bo (aD rfl (aU (bw rfl ⟨_,rfl,?_⟩))));refine cx (L:=xs) (ah _) (λ_ loc st'=>Gr st st'/\∃y,loc=[x0,x1,x2,some (.ref n),some (.ref c),x5,x6,x7,x8,some (.ref r),some (.tup [m',.str op,ex,.tup xs]),some (.ref m),y,x13,x14]) ⟨g9,_,rfl⟩ (λ_ _ _ _=>rfl) (λi o loc st' ho hp=>?_) λloc st' hp=>?_
  ·obtain⟨gg,y,rfl⟩:=hp;have hop:=h3.1 o (ak ho);refine mx (bD (bK (ac (aD rfl (ac (aD rfl (aj (dg (.inl rfl) hop (gg.at hn) ?_))))))));refine bK (ac (aD rfl (ac (aD rfl (aj (dg (.inr rfl) hop (gg.at hn) ?_))))));exact iH (gS hnm hop).sm (by decide) ⟨rfl,aN (cv ⟨gg,_,rfl⟩)⟩
  ·obtain⟨gg,y,rfl⟩:=hp;exact bj (aN (h _ _ _ gg))
end
theorem wI{a b c:D}(hp:st1[p]? =some (.ins "Block" (ke a b c)))(i:Nat)(hi:(ke a b c)[i]? =some (f,d))(q:P d)(hk:(((ke a b c).take i).map (·.1)).contains f=false:=by(simp only[ke,List.take_succ_cons,List.take_zero,List.map_cons,List.map_nil];decide+kernel)):∃n c fs d,D.ref p=.ref n/\st1[n]? =some (.ins c fs)/\fs.lookup f=some d/\c∈(["Block"]:List Str)/\P d:=⟨p,_,_,d,rfl,hp,lk i hi hk,.head _,q⟩
section
variable{k n b c r e:Nat}{st:aP}{nm bl gv:List (Key×D)}
theorem u8{ps:List D}(hd:BlkD ps rows x)(ha:BlkAt st r ps rows x rs e)(hn:st[n]? =some (.dct nm))(hc:st[c]? =some (.dct gv))(hb:st[b]? =some (.dct bl))(hnm:we nm)(hgv:rq gv)(hbl:rq bl):
  Wv (calls tab (k+5) gj [.ref r,.tup [.tup ps,.tup rows,x],.tup [.ref n,.ref c,.ref b]] st) (Fp st (.bl true)):=by
 walk_at "call0"
 refine mr (aD rfl ⟨_,rfl,rfl,?_⟩);refine mr (aD rfl ⟨_,rfl,rfl,?_⟩);refine k5 (aZ (aD rfl (wI ha.ins 1 rfl (aD rfl ?_))));refine cx (L:=j6 (rs.map .ref) rows) (jf _ _) (λ_ loc st'=>Gr st st'/\∃a9 a10 a11 a12,loc=[some (.ref r),some (.tup [.tup ps,.tup rows,x]),some (.tup [.ref n,.ref c,.ref b]),some (.ref n),some (.ref c),some (.ref b),some (.tup ps),some (.tup rows),some x,a9,a10,a11,a12,none,none]) ⟨.refl _,_,_,_,_,rfl⟩ (λ_ _ _ _=>sT) (λi z loc st' hz hp=>?_) λloc st' hp=>?_
 ·obtain⟨g,a9,a10,a11,a12,rfl⟩:=hp;obtain⟨p,d,h1,h2,rfl⟩:=mo hz;rw[aB] at h1;cases h3:rs[i]? with
  |none=>rw[h3] at h1;cases h1
  |some m=>rw[h3] at h1;cases h1;refine fQ rfl ?_;refine u7 (hd.r d (ak h2)) ((ha.row i m d h3 h2).kp (nN g)) (g.at hn) (g.at hc) hnm hgv λx11 x12 st1 g1=>?_;exact cv ⟨g.trans g1,_,_,_,_,rfl⟩
 ·obtain⟨g,a9,a10,a11,a12,rfl⟩:=hp;have A:=ha.kp (nN g);have hI:=vM hnm hbl hd.e;refine bj (a_ (pP (aZ (aD rfl (wI A.ins 2 rfl ⟨_,_,rfl,hd.e,A.fin,ac (aD rfl (ac (aD rfl (aj ⟨_,_,_,_,rfl,g.at hn,g.at hb,.refl _,λm st1 hm g1=>?_⟩))))⟩)))));have g2:=g.trans g1;refine mx (o0 (bD (lE (aD rfl ⟨_,_,rfl,hm,?_⟩))));refine bK (ac (aD rfl (ac (aD rfl (ac (aD rfl (aj ?_)))))));refine Wv.mono (xh hd.e (g2.at hn) (g2.at hb)) λy st3 q=>?_;obtain⟨rfl,g3⟩:=q;refine iH hI.sm (by decide) ⟨rfl,?_⟩
  have g4:=g2.trans g3;have B:=ha.kp (nN g4);refine bD (lE (aZ (aD rfl (wI B.ins 2 rfl ⟨_,_,rfl,B.fin,aD rfl (iH hd.e.sm (by decide) ⟨rfl,?_⟩)⟩))))
  refine gx (vB (aZ (aD rfl (wI B.ins 2 rfl ⟨_,_,rfl,hd.e,B.fin,λm5 es st5 h5 hl g5=>⟨_,rfl,?_⟩⟩))));have g6:=g4.trans g5;have hL:dA (.at m5) st5=es.length:=by simp only[dA,h5]
  refine cx (L:=es) (by rw[hL];exact ah _) (λ_ loc st'=>Gr st5 st'/\∃a9 a10 a12 a13 a14,loc=[some (.ref r),some (.tup [.tup ps,.tup rows,x]),some (.tup [.ref n,.ref c,.ref b]),some (.ref n),some (.ref c),some (.ref b),some (.tup ps),some (.tup rows),some x,a9,a10,some (.ref m),a12,a13,a14]) ⟨.refl _,_,_,_,_,_,rfl⟩ (λi loc st' hp=>by simp only[im,hp.1.at h5]) (λi z loc st' hz hp=>?_) λloc st' hp=>?_
  ·obtain⟨g7,a9,a10,a12,a13,a14,rfl⟩:=hp;obtain⟨d,w,rfl,hed⟩:=hl.1 z (ak hz);have g8:=g6.trans g7;refine fQ rfl (mx (bD (bK (ac (aD rfl (ac (aD rfl (ac (aD rfl (aj ?_))))))))));refine Wv.mono (ig hed (g8.at hn) (g8.at hb)) λy st9 q=>?_;obtain⟨rfl,g9⟩:=q;have g10:=g8.trans g9;refine bK (ac (aD rfl (ac (aD rfl (ac (aD rfl (aj ?_)))))));refine Wv.mono (gF hed (g10.at hn) (g10.at hb)) λy st11 q=>?_;obtain⟨rfl,g11⟩:=q;exact iH (fU hnm hbl hed).sm (by decide) ⟨rfl,aN (cv ⟨(g7.trans g9).trans g11,_,_,_,_,_,rfl⟩)⟩
  ·obtain⟨g7,a9,a10,a12,a13,a14,rfl⟩:=hp;have g8:=g6.trans g7;have E:=ha.kp (nN g8);refine bj (bh (bD (lE (pP (aZ (aD rfl (wI E.ins 2 rfl ⟨_,_,rfl,hd.e,E.fin,ac (fi (ac (fi (aj ⟨_,_,[],[],rfl,aL aq,aq,(Gr.one _ _).more _,λm9 st9 hm9 g9=>⟨_,_,rfl,hm9,?_⟩⟩))))⟩)))))));rw[z3 hd.e];exact aD rfl (w_eq hd.e.sm.eq (bg ⟨rfl,g8.trans (((Gr.one _ _).more _).trans g9)⟩))
end
noncomputable def mX(o:Nat)(ks:List D):List (Key×D):=(ks.zipIdx o).map λp=>(.inl (p.2:Int),p.1)
noncomputable def vE(o:Nat)(ks:List D):List D:=(ks.zipIdx o).map λp=>.tup [.int (p.2:Int),p.1]
noncomputable abbrev kk(ks:List D):=mX 0 ks
noncomputable abbrev kp(ks:List D):=vE 0 ks
theorem dZ{o:Nat}:mX o (d::ks)=(.inl (o:Int),d)::mX (o+1) ks:=rfl
theorem gQ{o:Nat}:vE o (d::ks)=.tup [.int (o:Int),d]::vE (o+1) ks:=rfl
theorem dI{o:Nat}:(mX o ks).length=ks.length:=by simp[mX]
theorem sI:∀(o:Nat)(ks:List D),qz (vE o ks)=some (mX o ks)
 |_,[]=>rfl
 |o,d::ks=>by rw[gQ,dZ];unfold qz;rw[sI (o+1) ks];rfl
theorem lI:∀(o:Nat)(ks:List D)(p:Key×D),p∈mX o ks->∃i:Nat,p.1=.inl (i:Int)/\o<=i/\i<o+ks.length/\p.2∈ks
 |o,d::ks,p,h=>by
  rw[dZ] at h;rcases List.mem_cons.mp h with rfl|h
  ·exact⟨o,rfl,ah _,by simp,.head _⟩
  ·obtain⟨i,e,h1,h2,h3⟩:=lI (o+1) ks p h;exact⟨i,e,by omega,by simp only[List.length_cons];omega,.tail _ h3⟩
theorem sB{o:Nat}:bS (mX o ks) (.inl ((o+ks.length:Nat):Int)) d=mX o (ks++[d]):=by
 unfold bS;rw[if_neg]
 ·unfold mX;rw[List.zipIdx_append,List.map_append];rfl
 ·intro h;obtain⟨p,hp,he⟩:=List.any_eq_true.mp h;obtain⟨i,e,h1,h2,_⟩:=lI o ks p hp;have:p.1=.inl ((o+ks.length:Nat):Int):=of_decide_eq_true he;rw[e] at this;have:=Sum.inl.inj this;omega
theorem p_:∀(ks pre:List D),(mX pre.length ks).foldl (λacc p=>bS acc p.1 p.2) (kk pre)=kk (pre++ks)
 |[],pre=>by rw[List.append_nil];rfl
 |d::ks,pre=>by
  rw[dZ,List.foldl_cons]
  have e:bS (kk pre) (.inl (pre.length:Int)) d=kk (pre++[d]):=by have:=sB (o:=0) (ks:=pre) (d:=d);rw[Nat.zero_add] at this;exact this
  show(mX (pre.length+1) ks).foldl _ (bS (kk pre) (.inl (pre.length:Int)) d)=_;rw[e];have:=p_ ks (pre++[d]);rw[aA] at this;rw[List.append_assoc] at this;exact this
theorem tW(ks:List D):tX (kk ks)=kk ks:=by have:=p_ ks [];exact this
theorem lK:∀(o:Nat)(ks:List D),kA (mX o ks)=some ((List.range' o ks.length).map λ(i:Nat)=>(i:Int))
 |_,[]=>rfl
 |o,d::ks=>by rw[dZ];show((kA (mX (o+1) ks)).map λns=>(o:Int)::ns)=_;rw[lK (o+1) ks];rfl
theorem nQ:∀(o:Nat)(ks:List D),((((List.range' o ks.length).map λ(i:Nat)=>(i:Int)).zip (mX o ks)).map λp=>D.tup [.int p.1,p.2.2])=vE o ks
 |_,[]=>rfl
 |o,d::ks=>by rw[dZ,gQ,List.length_cons,List.range'_succ,List.map_cons,List.zip_cons_cons,List.map_cons,nQ (o+1) ks]
theorem pp(o n:Nat):((List.range' o n).map λ(i:Nat)=>(i:Int)).Pairwise (· < ·):=
 List.Pairwise.map _ (λa b h=>Int.ofNat_lt.mpr h) (List.pairwise_lt_range' ..)
section
variable{st:aP}{Q:D->aP->Prop}{f:D->M (Option D)}
theorem rL(hl:xs.length<=1000000)(hy:ys.length=xs.length)(h:∀(i:Nat) x y,xs[i]? =some x->ys[i]? =some y->∀st1,Gr st st1->W (f x st1) λo st2=>o=some y/\Gr st1 st2)(k:∀st2,Gr st st2->Q (.ref st2.length) (st2++[.lst ys])):W (ce f (.its xs) st) Q:=by
 refine et (L:=xs) hl (ah _) (λi acc st1=>Gr st st1/\acc=ys.take i) ⟨.refl _,rfl⟩ (λi acc st1 _=>rfl) (λi x acc st1 e hp=>?_) (λacc st1 hp=>?_)
 ·obtain⟨g,rfl⟩:=hp;have hi:i<ys.length:=by rw[hy];exact(au e).1
  have ey:ys[i]? =some ys[i]:=aC hi;refine(h i x _ e ey st1 g).mono λo st2 q=>?_;obtain⟨rfl,g2⟩:=q;refine⟨g.trans g2,?_⟩;rw[List.take_add_one,ey];rfl
 ·obtain⟨g,rfl⟩:=hp;rw[<-hy,List.take_length];exact k st1 g
end
noncomputable def yU(t g a b l:D):List (Str×D):=[("takes",t),("gives",g),("kinds",a),("kept_kinds",b),("blocks",l)]
section
variable{k b c e:Nat}{st:aP}{Q:D->aP->Prop}
theorem vR{p q:D}{ps rs:List D}(hp:bp st p=some ps)(hr:bp st q=some rs)(h:Q .non (st++[.ins "Block" (ke (.tup ps) (.tup rs) x)])):Wv (calls tab (k+1) lZ [.ref st.length,p,q,x] (st++[.ins "Block" []])) Q:=by
 obtain⟨s0,hs0⟩:∃s0,s0=st++[O.ins "Block" []]:=⟨_,rfl⟩;rw[<-hs0]
 walk_at "call0"
 rw[hs0];refine dq rfl (bQ (ac (aD rfl (aj (hX (ib (.one _ _) hp) (jJ aq ?_))))));rw[bJ];refine dq rfl (bQ (ac (aD rfl (aj (hX (ib (.one _ _) hr) (jJ aq ?_))))));rw[bJ];refine dq rfl (aD rfl (jJ aq ?_));rw[bJ];exact aN (gP h)
theorem ym{g l:D}{ts bs:List D}{d:Nat}(ht:bp st t=some ts)(hd:st[d]? =some (.dct kvs))(hl:bp st l=some bs)(h:∀a b st1,st1[st.length]? =some (.ins "Function" (yU (.tup ts) g a (.ref b) (.tup bs)))->st1[b]? =some (.dct kvs)->Gr st st1->Q .non st1):Wv (calls tab (k+1) iX [.ref st.length,t,g,.ref d,l] (st++[.ins "Function" []])) Q:=by
 obtain⟨s0,hs0⟩:∃s0,s0=st++[O.ins "Function" []]:=⟨_,rfl⟩;rw[<-hs0]
 walk_at "call0"
 rw[hs0];have e1:∀a:O,(st++[a]).length=st.length+1:=λa=>by simp
 have e2:∀a b:O,(st++[a,b]).length=st.length+2:=λa b=>by simp
 refine dq rfl (bQ (ac (aD rfl (aj (hX (ib (.one _ _) ht) (jJ aq ?_))))));rw[bJ];refine dq rfl (aD rfl (jJ aq ?_));rw[bJ];refine dq rfl (bQ (ac (aD rfl (aj (em (aL hd) (jJ (aL aq) ?_))))));rw[e1,List.append_assoc,show ∀a b:O,[a]++[b]=[a,b] from λ_ _=>rfl,jq];refine dq rfl (bQ (ac (aD rfl (aj (em (aL hd) (jJ (aL wT) ?_))))));rw[e2,List.set_append_left _ _ (by simp),jq]
 refine dq rfl (bQ (ac (aD rfl (aj (hX (ib ⟨_,by rw[List.append_assoc]⟩ hl) (jJ (aL wT) ?_))))))
 rw[List.set_append_left _ _ (by simp),jq]
 refine aN (gP (h _ (st.length+2) _ (aL wT) ?_ ⟨_,by rw[List.append_assoc]⟩))
 rw[List.append_assoc,aR (Nat.le_add_right _ _),Nat.add_sub_cancel_left];rfl
theorem n_(hd:EndD x)(h:∀m st1,EndAt st1 m x->Gr st st1->Q (.ref m) st1):Wv (calls tab (k+2) iT [x] st) Q:=by
 have no:∀{s t:Str}{a:List S}{ss:List S}{loc:Loc}{Q:Fl->aP->Prop}{xs:List D},loc[0]? =some (some (.tup (.str s::xs)))->(s==t)=false->W (execs (calls tab (k+1)) ss loc st) Q->W (execs (calls tab (k+1)) (.ite (.cmp .Eq (.ix (.v 0) (.c (.int 0))) (.c (.str t))) a []::ss) loc st) Q:=λ{s t a ss loc Q xs} hl hs h=>
  cZ (bD (bo (aD hl (aU (bw mh (aU (w_eq (k:=false) (by rw[eq_str,hs]) ⟨_,rfl,nofun,λ_=>aN (bj h)⟩)))))))
 have yes:∀{s:Str}{a:List S}{ss:List S}{loc:Loc}{Q:Fl->aP->Prop}{xs:List D},loc[0]? =some (some (.tup (.str s::xs)))->W (execs (calls tab (k+1)) a loc st) (Kn (calls tab (k+1)) ss Q)->W (execs (calls tab (k+1)) (.ite (.cmp .Eq (.ix (.v 0) (.c (.int 0))) (.c (.str s))) a []::ss) loc st) Q:=λ{s a ss loc Q xs} hl h=>
  cZ (bD (bo (aD hl (aU (bw mh (aU (w_eq (k:=true) (by rw[eq_str];simp) ⟨_,rfl,λ_=>h,nofun⟩)))))))
 walk_at "call0"
 cases hd with
 |jump e he=>exact yes rfl (bh (dn (ac (bo (aD rfl (aU (bw rfl (aj (tN ⟨rfl,cB (bg (h _ _ (.jump aq) (.one _ _)))⟩)))))))))
 |branch t y m ht hy hm=>refine no rfl rfl (yes rfl (bh (dn (ac (bo (aD rfl (aU (bw rfl ?_))))))));refine ac (bo (aD rfl (aU (bw rfl ?_))));refine ac (bo (aD rfl (aU (bw rfl ?_))));exact aj (np ⟨rfl,cB (bg (h _ _ (.branch aq) (.one _ _)))⟩)
 |back o ho=>exact no rfl rfl (no rfl rfl (yes rfl (bh (dn (ac (bo (aD rfl (aU (bw rfl (aj (tO ⟨rfl,cB (bg (h _ _ (.back aq) (.one _ _)))⟩)))))))))))
 |rais s=>exact no rfl rfl (no rfl rfl (no rfl rfl (yes rfl (bh (dn (ac (bo (aD rfl (aU (bw rfl (aj (pZ ⟨rfl,cB (bg (h _ _ (.rais aq) (.one _ _)))⟩))))))))))))
 |risk op ex xs e cs he hx hd hc=>refine no rfl rfl (no rfl rfl (no rfl rfl (no rfl rfl (bh (dn (ac (bo (aD rfl (aU (bw rfl ?_))))))))));refine ac (bo (aD rfl (aU (bw rfl ?_))));refine ac (bQ (ac (bo (aD rfl (aU (bw rfl (aj (fO ?_))))))));refine ac (bo (aD rfl (aU (bw rfl ?_))));refine ac (bQ (ac (bo (aD rfl (aU (bw rfl (aj (fO (aj ?_)))))))));refine tM (xs:=xs) (cs:=cs) (eu (aL aq)) (eu aq) ⟨rfl,bg (h _ _ (.risk aq) (((Gr.one _ _).more _).more _))⟩
end
noncomputable def uE(bs:List D):Prop:=(∀b∈bs,∃ps rows x,b=.tup [.tup ps,.tup rows,x]/\BlkD ps rows x)/\bs.length<=1000
noncomputable def mm(st:aP)(rs:List Nat)(bs:List D):Prop:=rs.length=bs.length/\∀(i r:Nat)(d:D),rs[i]? =some r->bs[i]? =some d->∃ps rows x qs e,d=.tup [.tup ps,.tup rows,x]/\BlkD ps rows x/\BlkAt st r ps rows x qs e
theorem mm.kp{bs:List D}(k:Kp st st')(h:mm st rs bs):mm st' rs bs:=⟨h.1,λi r d a b=>by obtain⟨ps,rows,x,qs,e,h1,h2,h3⟩:=h.2 i r d a b;exact⟨ps,rows,x,qs,e,h1,h2,h3.kp k⟩⟩
theorem x4(h:st[n]? =some (.lst xs)):Kp st (st.set n o):=λm c fs e=>by
 by_cases hm:n=m
 ·subst hm;rw[h] at e;cases e
 ·rw[aI hm];exact e
section
variable{k b r e:Nat}{st:aP}{Q:D->aP->Prop}
theorem xa{f:D->M (Option D)}(hr:∀d∈rows,RowD d)(hl:rows.length<=1000)(hf:∀a op ex xs st1,Gr st st1->W (f (.tup [a,op,ex,.tup xs]) st1) λo st2=>o=some (.ref st1.length)/\st2=st1++[.ins "Row" (qx a op ex (.tup xs))])
  (h:∀(rs:List Nat) st1,Gr st st1->rs.length=rows.length->(∀(i p:Nat)(d:D),rs[i]? =some p->rows[i]? =some d->RowAt st1 p d)->Q (.ref st1.length) (st1++[.lst (rs.map .ref)])):W (ce f (.its rows) st) Q:=by
 refine et (L:=rows) (az hl (by decide)) (ah _) (λi acc st1=>Gr st st1/\∃rs:List Nat,acc=rs.map .ref/\rs.length=i/\∀(j p:Nat)(d:D),rs[j]? =some p->rows[j]? =some d->RowAt st1 p d) ⟨.refl _,[],rfl,rfl,λj p d a _=>by simp at a⟩ (λi acc st1 _=>rfl) (λi x acc st1 e hp=>?_) (λacc st1 hp=>?_)
 ·obtain⟨g,rs,rfl,hi,hrs⟩:=hp;have hx:=hr x (ak e);cases hx with
  |mk a op ex xs h1 h2 h3=>
   refine(hf a (.str op) ex xs st1 g).mono λo st2 q=>?_;obtain⟨rfl,rfl⟩:=q;refine⟨g.more _,rs++[st1.length],by simp,by simp[hi],λj p d h4 h5=>?_⟩
   by_cases hj:j<rs.length
   ·rw[aJ hj] at h4;exact(hrs j p d h4 h5).kp (nN (.one _ _))
   ·rw[aR (by omega)] at h4
    have hj2:j=rs.length:=by have:=(au h4).1;simp at this;omega
    subst hj2;rw[Nat.sub_self] at h4;cases h4;rw[hi,e] at h5;cases h5;exact .mk aq
 ·obtain⟨g,rs,rfl,hi,hrs⟩:=hp;exact h rs st1 g hi hrs
structure FnAt(st:aP)(m:Nat)(tk:List D)(g:D)(ks:List D)(rs:List Nat)(bs:List D):Prop where
 ins:∃a b,st[m]? =some (.ins "Function" (yU (.tup tk) g a (.ref b) (.tup (rs.map .ref))))/\st[b]? =some (.dct (kk ks))
 bl:mm st rs bs
theorem xg{bs:List D}{g:D}(hb:uE bs)(h:∀m rs st1,FnAt st1 m tk g ks rs bs->Gr st st1->Q (.ref m) st1):Wv (calls tab (k+3) nb [.tup [.tup tk,g,.tup (kp ks),.tup bs]] st) Q:=by
 walk_at "call0"
 refine mr (aD rfl ⟨_,rfl,rfl,?_⟩);refine a_ (bN (aj (gx (aD rfl ⟨_,rfl,?_⟩))));refine cx (L:=bs) (ah _) (λi loc st'=>∃rs:List Nat,∃t,st'=st++(.lst (rs.map .ref)::t)/\rs.length=i/\(∀(j r:Nat)(d:D),rs[j]? =some r->bs[j]? =some d->∃ps rows x qs e,d=.tup [.tup ps,.tup rows,x]/\BlkD ps rows x/\BlkAt st' r ps rows x qs e)/\∃a6 a7 a8 a9,loc=[some (.tup [.tup tk,g,.tup (kp ks),.tup bs]),some (.tup tk),some g,some (.tup (kp ks)),some (.tup bs),some (.ref st.length),a6,a7,a8,a9]) ⟨[],[],rfl,rfl,λj r d a _=>by simp at a,_,_,_,_,rfl⟩ (λ_ _ _ _=>rfl) (λi z loc st' hz hp=>?_) λloc st' hp=>?_
 ·obtain⟨rs,t,rfl,hi,hrs,a6,a7,a8,a9,rfl⟩:=hp;obtain⟨ps,rows,x,rfl,hd⟩:=hb.1 z (ak hz);refine fQ rfl (a_ (dP (aD rfl ⟨_,rfl,?_⟩)));refine xa hd.r hd.rl (λa op ex xs st1 g1=>?_) λqs st1 g1 hq hrow=>?_
  ·refine c0 (dn (ac (bo (aD rfl (aU (bw rfl ?_))))));refine ac (bo (aD rfl (aU (bw rfl ?_))));refine ac (bo (aD rfl (aU (bw rfl ?_))));refine ac (bo (aD rfl (aU (bw rfl (aj ?_)))));exact wF ⟨rfl,rfl,rfl⟩
  ·have g2:=g1.more (.lst (qs.map .ref));have hL:∀{s:aP},Gr (st++(.lst (rs.map .ref)::t)) s->s[st.length]? =some (.lst (rs.map .ref)):=λgg=>gg.at (by simp)
   refine gy (aD rfl (db (hL g2) ?_));refine dn (ac (bQ (ac (aD rfl (aj (fO (ac (aD rfl (ac (bK (ac (aD rfl (aj ?_)))))))))))));refine n_ hd.e λm st3 hm g3=>aj ?_;have g4:=(g2.more (.lst ps)).trans g3;refine vR (ps:=ps) (rs:=qs.map .ref) (eu (g3.at aq)) (eu (g3.at (aL aq))) ⟨rfl,?_⟩;have g5:=g4.more (.ins "Block" (ke (.tup ps) (.tup (qs.map .ref)) (.ref m)));refine cH (hL g5) ?_ ?_
   ·have:=(au hz).1;have:=hb.2;simp only[List.length_map];omega
   have g5':=g5;obtain⟨u,hu⟩:=g5';have kps:Kp (st3++[O.ins "Block" (ke (.tup ps) (.tup (qs.map D.ref)) (.ref m))]) ((st3++[O.ins "Block" (ke (.tup ps) (.tup (qs.map D.ref)) (.ref m))]).set st.length (O.lst (rs.map D.ref++[D.ref st3.length]))):=x4 (hL g5);refine aN (cv ⟨rs++[st3.length],t++u,?_,by simp[hi],λj r d h4 h5=>?_,_,_,_,_,rfl⟩)
   ·rw[hu,List.append_assoc,List.set_append_right _ _ (ah _)];simp
   ·by_cases hj:j<rs.length
    ·rw[aJ hj] at h4;obtain⟨ps',rows',x',qs',e',q1,q2,q3⟩:=hrs j r d h4 h5;exact⟨ps',rows',x',qs',e',q1,q2,q3.kp ((nN g5).trans kps)⟩
    ·rw[aR (by omega)] at h4
     have hj2:j=rs.length:=by have:=(au h4).1;simp at this;omega
     subst hj2;rw[Nat.sub_self] at h4;cases h4;rw[hi,hz] at h5;cases h5;have ga:Gr st1 (st3++[O.ins "Block" (ke (.tup ps) (.tup (qs.map D.ref)) (.ref m))]):=(((Gr.one _ _).more _).trans g3).more _;exact⟨ps,rows,x,qs,m,rfl,hd,⟨kps _ _ _ aq,hq,λi' p' d' h7 h8=>(hrow i' p' d' h7 h8).kp ((nN ga).trans kps),hm.kp ((nN (.one _ _)).trans kps)⟩⟩
 ·obtain⟨rs,t,rfl,hi,hrs,a6,a7,a8,a9,rfl⟩:=hp;have hL:∀{s:aP},Gr (st++(.lst (rs.map .ref)::t)) s->s[st.length]? =some (.lst (rs.map .ref)):=λgg=>gg.at (by simp)
  refine bj (bh (dn (ac (bQ (ac (aD rfl (aj (fO (ac (aD rfl ?_))))))))));refine ac (bQ (ac (aD rfl (aj (uO (sI 0 ks) (ac (aD rfl (aj ?_))))))));rw[tW];refine ym (ts:=tk) (bs:=rs.map .ref) (kvs:=kk ks) (eu (aL aq)) aq (eu (hL ((Gr.one _ _).more _))) λa b st1 h1 h2 g1=>⟨rfl,bg (h _ rs _ ⟨⟨a,b,h1,h2⟩,hi,λj r d h3 h4=>?_⟩ ?_)⟩
  ·obtain⟨ps',rows',x',qs',e',q1,q2,q3⟩:=hrs j r d h3 h4;exact⟨ps',rows',x',qs',e',q1,q2,q3.kp (nN (((Gr.one _ _).more _).trans g1))⟩
  ·exact Gr.trans ⟨_,rfl⟩ (((Gr.one _ _).more _).trans g1)
end
section
variable{k n b c r e:Nat}{st:aP}
theorem om{ps:List D}(hl:rows.length<=1000)(ha:BlkAt st r ps rows x rs e):Wv (calls tab (k+2) lY [.ref r] st) (Fp st (.tup [.tup ps,.tup rows,x])):=by
 walk_at "call0"
 refine bh (aW (ac (aZ (aD rfl (wI ha.ins 0 rfl ?_)))));refine ac (bQ (ac (dP (aZ (aD rfl (wI ha.ins 1 rfl ⟨_,rfl,?_⟩))))));refine rL (ys:=rows) (by rw[List.length_map,ha.len];exact az hl (by decide)) (by rw[List.length_map,ha.len]) (λi a d h1 h2 st1 g1=>?_) λst1 g1=>?_
 ·rw[aB] at h1;cases h3:rs[i]? with
  |none=>rw[h3] at h1;cases h1
  |some m=>rw[h3] at h1;cases h1;exact c0 (i8 (aD rfl ⟨_,_,rfl,(ha.row i m d h3 h2).kp (nN g1),rfl,.refl _⟩))
 ·refine aj (bP aq ?_);have B:=ha.kp (nN (g1.more (.lst rows)));exact ac (lE (aZ (aD rfl (wI B.ins 2 rfl ⟨_,_,rfl,B.fin,aj (bg ⟨rfl,g1.more _⟩)⟩))))
theorem Ah{g a b l:D}(hp:st1[p]? =some (.ins "Function" (yU t g a b l)))(i:Nat)(hi:(yU t g a b l)[i]? =some (f,d))(q:P d)(hk:(((yU t g a b l).take i).map (·.1)).contains f=false:=by(simp only[yU,List.take_succ_cons,List.take_zero,List.map_cons,List.map_nil];decide+kernel)):∃n c fs d,D.ref p=.ref n/\st1[n]? =some (.ins c fs)/\fs.lookup f=some d/\c∈(["Function"]:List Str)/\P d:=⟨p,_,_,d,rfl,hp,lk i hi hk,.head _,q⟩
theorem qw{bs:List D}{g:D}(hk:ks.length<64)(hb:bs.length<=1000)(ha:FnAt st m tk g ks rs bs):Wv (calls tab (k+3) iW [.ref m] st) (Fp st (.tup [.tup tk,g,.tup (kp ks),.tup bs])):=by
 obtain⟨⟨a,b,h1,h2⟩,h3⟩:=ha
 walk_at "call0"
 refine a_ (bQ (ac (rJ (aZ (aD rfl (Ah h1 3 rfl ⟨_,_,_,rfl,h2,lK 0 ks,⟨pp 0 _,by rw[dI];exact hk⟩,?_⟩))))))
 rw[nQ];refine aj (bP aq ?_);have g1:=Gr.one st (.lst (vE 0 ks));refine bh (aW (ac (aZ (aD rfl (Ah (g1.at h1) 0 rfl ?_)))));refine ac (aZ (aD rfl (Ah (g1.at h1) 1 rfl (ac (aD rfl ?_)))));refine ac (bQ (ac (dP (aZ (aD rfl (Ah (g1.at h1) 4 rfl ⟨_,rfl,?_⟩))))));refine rL (ys:=bs) (by rw[List.length_map,h3.1];exact az hb (by decide)) (by rw[List.length_map,h3.1]) (λi a d q1 q2 st1 g2=>?_) λst1 g2=>?_
 ·rw[aB] at q1;cases q3:rs[i]? with
  |none=>rw[q3] at q1;cases q1
  |some p=>rw[q3] at q1;cases q1;obtain⟨ps,rows,x,qs,e,rfl,hd,hB⟩:=h3.2 i p d q3 q2;have B:=hB.kp (nN (g1.trans g2));refine c0 (fh (aD rfl ⟨_,_,_,46,rfl,B.ins,rfl,rfl,aj ?_⟩));refine Wv.mono (om hd.rl B) λy st3 q=>?_;obtain⟨rfl,g3⟩:=q;exact⟨rfl,g3⟩
 ·exact aj (bP aq (aj (bg ⟨rfl,g1.trans (g2.more _)⟩)))
end
noncomputable def Lf(st:aP)(l:Nat):Prop:=∃ns:List Int,st[l]? =some (.lst (ns.map .int))
noncomputable def Od(st:aP)(s:Nat):Prop:=∃c:Int,0<=c/\st[s]? =some (.dct [(.inr "count",.int c),(.inr "at",.int 0)])
structure Dr(l s:Nat)(st st':aP):Prop where
 le:st.length<=st'.length
 same:∀i,i<st.length->i≠l->i≠s->st'[i]? =st[i]?
 lf:Lf st' l
 od:Od st' s
theorem Lf.gr(h:Lf st l)(g:Gr st st'):Lf st' l:=by obtain⟨ns,e⟩:=h;exact⟨ns,g.at e⟩
theorem Od.gr(h:Od st l)(g:Gr st st'):Od st' l:=by obtain⟨c,h0,e⟩:=h;exact⟨c,h0,g.at e⟩
theorem Dr.ne(h:Lf st l)(k:Od st s):l≠s:=λe=>by subst e;obtain⟨ns,e1⟩:=h;obtain⟨c,_,e2⟩:=k;rw[e1] at e2;cases e2
theorem Dr.of(h:Lf st l)(k:Od st s)(g:Gr st st'):Dr l s st st':=⟨g.le,λi hi _ _=>by obtain⟨t,rfl⟩:=g;rw[aJ hi],h.gr g,k.gr g⟩
theorem Dr.trans{c:aP}(h:Dr l s a b)(k:Dr l s b c):Dr l s a c:=⟨az h.le k.le,λi hi h1 h2=>(k.same i (aw hi h.le) h1 h2).trans (h.same i hi h1 h2),k.lf,k.od⟩
theorem Dr.more(h:Dr l s a b)(o:O):Dr l s a (b++[o]):=h.trans (.of h.lf h.od (.one _ _))
theorem Dr.gr{c:aP}(h:Dr l s a b)(g:Gr b c):Dr l s a c:=h.trans (.of h.lf h.od g)
theorem Dr.at(h:Dr l s a b){i:Nat}(e:a[i]? =some o)(h1:i≠l)(h2:i≠s):b[i]? =some o:=by rw[h.same i (au e).1 h1 h2];exact e
section
variable{k l s:Nat}{st:aP}{Q:D->aP->Prop}
theorem l8(hm:st[m]? =some (.lst xs))(hn:st[n]? =some (.lst [])):dj 60 st (.ref m) (.ref n)=some xs.isEmpty:=by unfold dj;simp only[shape,hm,hn];cases xs<;>rfl
theorem dw(hl:Lf st l)(ho:Od st s)(h:∀w st1,Dr l s st st1->Q (.int w) st1):Wv (calls tab (k+1) m_ [.ref l] st) Q:=by
 have hne:=Dr.ne hl ho;have hl':=hl;obtain⟨ns,e⟩:=hl'
 walk_at "call0"
 have g1:=Gr.one st (.lst []);refine cZ (bD (aD rfl (bN (aj (w_eq (l8 (aL e) aq) ⟨_,rfl,λhz=>?_,λhz=>?_⟩)))))
 ·exact bh (aU (cB (bg (h 0 _ (.of hl ho g1)))))
 ·refine aN (bj (bh (wk (aD rfl ?_))));cases ns with
  |nil=>cases hz
  |cons x ns=>
   refine⟨_,_,_,rfl,aL e,bg (h x _ ?_)⟩;refine(Dr.of hl ho g1).trans ⟨by rw[aS];exact ah _,λi hi h1 h2=>by rw[aI (Ne.symm h1)],⟨ns,cn ?_⟩,?_⟩
   ·exact aw (au e).1 g1.le
   ·obtain⟨c,h0,e2⟩:=ho.gr g1;exact⟨c,h0,by rw[aI hne];exact e2⟩
theorem wr(hl:Lf st l)(ho:Od st s)(h:∀st1,Dr l s st st1->Q (.bl false) st1):Wv (calls tab (k+1) oN [.ref s] st) Q:=by
 have hne:=Dr.ne hl ho;have ho':=ho;obtain⟨c,h0,e⟩:=ho'
 walk_at "call0"
 have hs:s<st.length:=(au e).1;refine cX (bc (bo (aD rfl (aU (rN e (by rfl) (aU (w_add (aD rfl (aU (b9 e rfl (by simp) ?_))))))))))
 have e2:(st.set s (.dct (bS [(.inr "count",.int c),(.inr "at",.int 0)] (.inr "count") (.int (c+1)))))[s]? =some (.dct [(.inr "count",.int (c+1)),(.inr "at",.int 0)]):=(cn hs).trans rfl;refine bh (bD (bo (aD rfl (aU (rN e2 (by rfl) (bo (aD rfl (aU (rN e2 (by rfl) (f7 (bg ?_)))))))))))
 rw[decide_eq_false (by omega)]
 exact h _ ⟨by rw[aS];exact ah _,λi hi h1 h2=>by rw[aI (Ne.symm h2)],by
  obtain⟨ns,e3⟩:=hl;exact⟨ns,by rw[aI (Ne.symm hne)];exact e3⟩,⟨c+1,by omega,e2⟩⟩
end
noncomputable def Sn(sv:List (Key×D)):Prop:=(∀p∈sv,(∃i,p.1=Sum.inl i)/\Kd p.2)/\sv.length<=1000
theorem Kd.sm(h:Kd d):Sm 1 d:=by
 rcases h with rfl|rfl|rfl
 ·exact .tup (bz cz b0)
 ·exact .tup (bz cz b0)
 ·exact .tup (all2 cz fm)
theorem pV{a b:D}(ha:Kd a)(hb:Kd b):∃k,dj 60 st a b=some k:=by rcases ha with rfl|rfl|rfl<;>rcases hb with rfl|rfl|rfl<;>exact⟨_,rfl⟩
theorem mz:∀{sv:List (Key×D)}{p:Key×D},p∈sv->∃d,ci sv p.1=some d
 |q::r,p,h=>by
  unfold ci;split
  ·exact⟨_,rfl⟩
  ·rename_i hne;rcases List.mem_cons.mp h with rfl|h
   ·exact absurd rfl hne
   ·exact mz h
theorem tw{all:List (Key×D)}{y:D}(hy:Kd y)(ha:Sn all):∀{sub:List (Key×D)},(∀p∈sub,p∈all)->∃ks,oH all y sub=some ks/\(∀x∈ks,∃i,x=.int i)/\ks.length<=sub.length
 |[],_=>⟨[],rfl,b0,ah _⟩
 |p::r,h=>by
  obtain⟨ks,h1,h2,h3⟩:=tw hy ha (sub:=r) λq hq=>h q (.tail _ hq);obtain⟨d,hd⟩:=mz (h p (.head _));obtain⟨q,hq,rfl⟩:=k6 hd;obtain⟨b,hb⟩:=pV (st:=[]) (ha.1 q hq).2 hy;obtain⟨i,hi⟩:=(ha.1 p (h p (.head _))).1;unfold oH;rw[hd];simp only[Option.bind_some,hb,h1];refine⟨_,rfl,λx hx=>?_,?_⟩
  ·cases b with
   |true=>
    rcases List.mem_cons.mp hx with rfl|hx
    ·rw[hi];exact⟨i,rfl⟩
    ·exact h2 x hx
   |false=>exact h2 x hx
  ·cases b with
   |true=>exact Nat.succ_le_succ h3
   |false=>exact Nat.le_succ_of_le h3
theorem mi{st:aP}{y:D}(hy:Kd y):∀{xs:List D},(∀x∈xs,Kd x)->∃k,dM st y xs=some k
 |[],_=>⟨_,rfl⟩
 |x::xs,h=>by obtain⟨a,ha⟩:=pV (st:=st) (h x (.head _)) hy;obtain⟨b,hb⟩:=mi hy (xs:=xs) λz hz=>h z (.tail _ hz);unfold dM;rw[ha,hb];exact⟨_,rfl⟩
theorem Sn.nr{sv:List (Key×D)}(h:Sn sv):fY (sv.map (·.2))=true:=lD λx hx=>by obtain⟨p,hp,rfl⟩:=List.mem_map.mp hx;exact(h.1 p hp).2.sm.1
section
variable{k l s d:Nat}{st:aP}{Q:D->aP->Prop}{sv:List (Key×D)}
theorem gw{a:List S}{Q:Fl->aP->Prop}(h1:loc[1]? =some (some (.ref s)))(hl:Lf st l)(ho:Od st s)(h:∀st1,Dr l s st st1->W (execs (calls tab (k+1)) ss loc st1) Q):W (execs (calls tab (k+1)) (.ite (.fn 6 [.v 1]) a []::ss) loc st) Q:=
 mx (bK (ac (aD h1 (aj (wr hl ho λst1 D1=>⟨rfl,h st1 D1⟩)))))
theorem ie(hk:Kd kd)(hl:Lf st l)(ho:Od st s)(hd:st[d]? =some (.dct sv))(h1:d≠l)(h2:d≠s)(hs:Sn sv)(h:∀o st1,Opd o->Dr l s st st1->Q o st1):Wv (calls tab (k+2) jF [.ref l,.ref s,.ref d,kd] st) Q:=by
 walk_at "call0"
 refine a_ (bK (ac (aD rfl (aj (dw hl ho λw st1 D1=>?_)))));refine gw rfl D1.lf D1.od λst2 D2=>?_;have D3:=D1.trans D2;have hd3:=D3.at hd h1 h2;obtain⟨ks,hks,hi,hkl⟩:=tw hk hs (sub:=sv) λp hp=>hp;refine a_ (y_ rfl rfl hd3 ⟨hk.sm.1,hs.nr,hs.2⟩ hks ?_);have D4:=D3.more (.lst ks);obtain⟨b,hb⟩:=mi (st:=st2++[.lst ks]) hk (xs:=[kN,kT]) (all2 (.inl rfl) (.inr (.inl rfl)));have lens:ks.length<=1000:=az hkl hs.2
 have fin:∀{st':aP},Dr l s st st'->st'[st2.length]? =some (.lst ks)->∀{loc:Loc},loc[4]? =some (some (.int w))->loc[5]? =some (some (.ref st2.length))->∀{P:Fl->aP->Prop},(∀o st1,Opd o->Dr l s st st1->P (.rt o) st1)->W (execs (calls tab (k+1)) [.ret (.tup [(.c (.str "name")),(.ix (.bin .add (.v 5) (.lst [(.c (.int (78)))])) (.bin .mod (.bin .fdiv (.v 4) (.c (.int (4)))) (.bt .max [(.c (.int (1))),(.bt .len [(.v 5)])])))])] loc st') P:=λ{st'} D' h' {loc} h4 h5 {P} hP=>by
  refine bh (aW (ac (aU (ac (bo (bc (aD h5 (bN (ac (aU (aj (fj (aL h') aq ?_ ?_))))))))))))
  ·simp only[List.length_cons,List.length_nil];omega
  refine bc (bc (aD h4 (aU (cG (by decide) ?_))))
  refine bQ (ac (aU (ac (bQ (ac (aD h5 (aj (gf (aL (aL h')) (aj (wm (w_mod ?_ ?_)))))))))))
  ·split<;>omega
  generalize hm:(if(ks.length:Int)>1 then(ks.length:Int) else 1)=m
  have hm0:0<m/\m<=ks.length+1:=by subst hm;split<;>omega
  have p1:=Int.emod_nonneg (w / 4) (show m≠0 by omega)
  have p2:=bI (w / 4) hm0.1;refine fP aq p1 (by simp only[List.length_append,List.length_cons,List.length_nil];omega) λx hx _=>?_
  have:∃i,x=.int i:=by
   rcases List.mem_append.mp hx with hx|hx
   ·exact hi x hx
   ·rcases List.mem_cons.mp hx with rfl|hx
    ·exact⟨_,rfl⟩
    ·cases hx
  obtain⟨i,rfl⟩:=this;exact aj (hP _ _ (.nm i) ((D'.more _).more _))
 have e5:(st2++[O.lst ks])[st2.length]? =some (.lst ks):=aq;refine cZ (w_or (bD (aD rfl (aW (ac (aW (ac (aU (aj (ac (aW (ac (aU (aj (aj (uM hb ⟨_,rfl,λhz=>⟨_,rfl,λ_=>?_,nofun⟩,λhz=>?_⟩))))))))))))))))
 ·exact fin D4 e5 rfl rfl λo st' ho D'=>cB (bg (h o st' ho D'))
 have hkd:kd=kN∨kd=kT:=by
  rcases hk with e|e|e
  ·exact .inl e
  ·exact .inr e
  ·subst e;have:dM (st2++[O.lst ks]) kR [kN,kT]=some false:=rfl;rw[this] at hb;cases hb;cases hz
 have last:∀{st':aP},Dr l s st st'->W (execs (calls tab (k+1)) [.ite (.cmp .Eq (.v 3) (.tup [(.c (.str "num"))])) [.ret (.tup [(.c (.str "num")),(.bin .sub (.bin .fdiv (.v 4) (.c (.int (4)))) (.c (.int (9))))])] [],.ret (.tup [(.c (.str "truth")),(.cmp .Eq (.bin .mod (.bin .fdiv (.v 4) (.c (.int (4)))) (.c (.int (2)))) (.c (.int (0))))])] [some (.ref l),some (.ref s),some (.ref d),some kd,some (.int w),some (.ref st2.length)] st') (Kr Q):=λ{st'} D'=>by
  obtain⟨b2,hb2⟩:=pV (st:=st') hk (.inl rfl:Kd kN);refine cZ (bD (aD rfl (aW (ac (aU (aj (w_eq hb2 ⟨_,rfl,λ_=>?_,λ_=>?_⟩)))))))
  ·exact bh (aW (ac (aU (ac (bc (bc (aD rfl (aU (cG (by decide) (aU (w_sub (aj (cB (bg (h _ _ (.num _) D')))))))))))))))
  ·exact aN (bj (bh (aW (ac (aU (ac (bD (bc (bc (aD rfl (aU (cG (by decide) (aU (w_mod (by decide) (aU (f7 (aj (bg (h _ _ (.tr _) D')))))))))))))))))))
 refine w_and (bD (aD rfl (bN (aj (uN (l8 (aL e5) aq) ⟨_,rfl,λhz2=>?_,λhz2=>⟨_,rfl,nofun,λ_=>aN (bj (last (D4.more _)))⟩⟩)))));refine bD (bc (aD rfl (aU (w_mod (by decide) (aU (wQ ⟨_,rfl,λ_=>?_,λ_=>?_⟩))))))
 ·exact fin (D4.more _) (aL e5) rfl rfl λo st' ho D'=>cB (bg (h o st' ho D'))
 ·exact aN (bj (last (D4.more _)))
end
noncomputable def AT(x:D):Prop:=∃op ex tk gv,x=.tup [.str op,ex,.tup tk,gv]/\nM ex/\(∀t∈tk,Kd t)/\tk.length<=2/\(gv=.non∨Kd gv)
theorem cg{a b:List D}(h1:∀x∈a,P x)(h2:∀x∈b,P x):∀x∈a++b,P x:=λx hx=>(List.mem_append.mp hx).elim (h1 x) (h2 x)
theorem rk{op:Str}{ex gv:D}(he:nM ex)(ht:(∀t∈tk,Kd t)/\tk.length<=2)(hg:gv=.non∨Kd gv):AT (.tup [.str op,ex,.tup tk,gv]):=⟨_,_,_,_,rfl,he,ht.1,ht.2,hg⟩
theorem yg{a:D}(h:Kd a):(∀t∈[a],Kd t)/\[a].length<=2:=⟨bz h b0,by simp⟩
theorem yf{a b:D}(h:Kd a)(k:Kd b):(∀t∈[a,b],Kd t)/\[a,b].length<=2:=⟨all2 h k,by simp⟩
theorem io:Kd kN:= .inl rfl
theorem sW:Kd kT:= .inr (.inl rfl)
theorem uF:Kd kR:= .inr (.inr rfl)
theorem x0:nM .non:=⟨rfl,Nat.zero_le _⟩
theorem xi:nM (.int i):=⟨rfl,Nat.zero_le _⟩
theorem BU{i:Str}:nM (.str i):=⟨rfl,Nat.zero_le _⟩
theorem xR:nM kR:=uF.sm
section
variable{k l s d:Nat}{st:aP}{Q:D->aP->Prop}{sv:List (Key×D)}
theorem sj(hl:Lf st l)(ho:Od st s)(hd:st[d]? =some (.dct sv))(hs:Sn sv)(h:∀x st1,AT x->Dr l s st st1->Q x st1):Wv (calls tab (k+1) iz [.int w,.ref d] st) Q:=by
 walk_at "call"
 refine fj (aL aq) aq (by simp) ?_
 walk_at "ev"
 refine db aq ?_
 walk_at "ev"
 refine cH aq (by simp) ?_
 rw[bJ]
 walk_at "ev"
 refine fj (aL aq) aq (by simp) ?_
 walk_at "ev"
 refine fj (aL aq) aq (by simp) ?_
 walk_at "ev"
 have kds:∀x∈sv.map (·.2),Kd x:=λx hx=>by obtain⟨p,hp,rfl⟩:=List.mem_map.mp hx;exact(hs.1 p hp).2
 have L:∀x∈([.tup [.str "add",.non,.tup [kN,kN],kN],.tup [.str "less",.non,.tup [kN,kN],kT],.tup [.str "neg",.non,.tup [kN],kN]]:List D)++[.tup [.str "and",.non,.tup [kT,kT],kT],.tup [.str "copy",.non,.tup [kN],kN]]++[.tup [.str "copy",.non,.tup [kT],kT]]++[.tup [.str "make",kR,.tup [kN,kN],kR],.tup [.str "sub",.non,.tup [kN,kN],kN],.tup [.str "log",.non,.tup [kN],.non]]++[.tup [.str "log",.non,.tup [kT],.non],.tup [.str "tick",.non,.tup [],.non],.tup [.str "same",.non,.tup [kN,kN],kT]],AT x:=
  cg (cg (cg (cg (bz (rk x0 (yf io io) (.inr io)) (bz (rk x0 (yf io io) (.inr sW)) (bz (rk x0 (yg io) (.inr io)) b0))) (bz (rk x0 (yf sW sW) (.inr sW)) (bz (rk x0 (yg io) (.inr io)) b0))) (bz (rk x0 (yg sW) (.inr sW)) b0)) (bz (rk xR (yf io io) (.inr uF)) (bz (rk x0 (yf io io) (.inr io)) (bz (rk x0 (yg io) (.inl rfl)) b0)))) (bz (rk x0 (yg sW) (.inl rfl)) (bz (rk x0 ⟨b0,by simp⟩ (.inl rfl)) (bz (rk x0 (yf io io) (.inr sW)) b0)))
 have fin:∀{st':aP}{xs:List D}{m:Nat},st'[m]? =some (.lst xs)->(∀x∈xs,AT x)->0<xs.length->Dr l s st st'->∀{loc:Loc},loc[0]? =some (some (.int w))->loc[5]? =some (some (.ref m))->W (execs (calls tab k) [.ret (.ix (.v 5) (.bin .mod (.v 0) (.bt .len [(.v 5)])))] loc st') (Kr Q):=λ{st' xs m} hm hx h0 D' {loc} h4 h5=>by
  refine bh (bo (aD h5 (bc (aD h4 (bQ (ac (aD h5 (aj (gf hm (w_mod (by omega) ?_))))))))))
  have p1:=Int.emod_nonneg w (show(xs.length:Int)≠0 by omega)
  have p2:=bI w (show(0:Int)<xs.length by omega)
  exact fP hm p1 p2 λx hx' _=>bg (h x _ (hx x hx') D')
 refine⟨d,sv,(mi uF kds).choose,rfl,aL (aL (aL (aL (aL (aL (aL hd)))))),(mi uF kds).choose_spec,_,rfl,λ_=>?_,λ_=>?_⟩
 ·refine a_ (bc (aD rfl (bN (ac (aW (ac (aU (ac (aU (ac (aW (ac (aD rfl (aj (ac (aD rfl (aj ?_)))))))))))))))));refine ac (aW (ac (aU (ac (aU (ac (aW (ac (aD rfl (ac (aD rfl (aj (ac (aD rfl (aj ?_)))))))))))))));refine ac (aW (ac (aU (ac (aU (ac (aW (ac (aD rfl (aj (ac (aD rfl (aj (aj ?_))))))))))))));refine fj (aL aq) aq (by simp) (aN (bj (fin aq (cg L (bz (rk xi (yg uF) (.inr io)) (bz (rk xi (yf uF io) (.inr uF)) (bz (rk x0 (yg uF) (.inr uF)) b0)))) (by simp) ?_ rfl rfl)))
  exact .of hl ho ((((((((((Gr.one _ _).more _).more _).more _).more _).more _).more _).more _).more _))
 ·refine aN (bj (fin aq L (by simp) ?_ rfl rfl))
  exact .of hl ho ((((((((Gr.one _ _).more _).more _).more _).more _).more _).more _))
end
noncomputable def qo(S:List Nat)(st st':aP):Prop:=st.length<=st'.length/\∀i,i<st.length->i∉S->st'[i]? =st[i]?
theorem qo.trans{S:List Nat}{c:aP}(h:qo S a b)(k:qo S b c):qo S a c:=⟨az h.1 k.1,λi hi hS=>(k.2 i (aw hi h.1) hS).trans (h.2 i hi hS)⟩
theorem qo.at{S:List Nat}(h:qo S a b){i:Nat}(e:a[i]? =some o)(hS:i∉S):b[i]? =some o:=by rw[h.2 i (au e).1 hS];exact e
theorem qo.set{S:List Nat}(h:n∈S):qo S a (a.set n o):=⟨by rw[aS];exact ah _,λi _ hS=>by rw[aI (λe:n=i=>hS (e▸h))]⟩
theorem Dr.ex{S:List Nat}(h:Dr l s a b)(h1:l∈S)(h2:s∈S):qo S a b:=⟨h.le,λi hi hS=>h.same i hi (λe=>hS (e▸h1)) λe=>hS (e▸h2)⟩
section
variable{k l s d c:Nat}{st:aP}{Q:D->aP->Prop}{sv:List (Key×D)}
theorem kY{f:D->M (Option D)}{sr:Src}{L:List D}(hl:Lf st l)(ho:Od st s)(hn:dA sr st<=1000)(hL:L.length<=dA sr st)(nx:∀i st1,Dr l s st st1->im sr i st1=some L[i]?)
  (step:∀x∈L,∀st1,Dr l s st st1->∀P:Option D->aP->Prop,(∀o st2,Opd o->Dr l s st1 st2->P (some o) st2)->W (f x st1) P)(h:∀os st1,rp os->os.length=L.length->Dr l s st st1->Q (.ref st1.length) (st1++[.lst os])):W (ce f sr st) Q:=by
 refine et (L:=L) (az hn (by decide)) hL (λi acc st1=>Dr l s st st1/\(∀o∈acc,Opd o)/\acc.length=i) ⟨.of hl ho (.refl _),b0,rfl⟩ (λi acc st1 hp=>nx i st1 hp.1) (λi x acc st1 e hp=>?_) (λacc st1 hp=>?_)
 ·obtain⟨D1,h1,h2⟩:=hp;exact step x (ak e) st1 D1 _ λo st2 h3 D2=>⟨D1.trans D2,cg h1 (bz h3 b0),by rw[aA,h2];rfl⟩
 ·obtain⟨D1,h1,h2⟩:=hp;exact h acc st1 ⟨h1,by omega⟩ h2 D1
theorem pd{j1 j2 j3:Nat}(hk:Kd kd)(D1:Dr l s st st1)(hd:st[d]? =some (.dct sv))(h1:d≠l)(h2:d≠s)(hs:Sn sv)(e1:loc[j1]? =some (some (.ref l)))(e2:loc[j2]? =some (some (.ref s)))(e3:loc[j3]? =some (some (.ref d)))(P:Option D->aP->Prop)(hP:∀o st2,Opd o->Dr l s st1 st2->P (some o) st2):
  W ((ba (run (calls tab (k+2)) (.fn 7 [.v (j1+1),.v (j2+1),.v (j3+1),.v 0]) (some kd::loc)) λy=>ret (some y)) st1) P:=
 c0 (bK (ac (aD (by rw[List.getElem?_cons_succ];exact e1) (ac (aD (by rw[List.getElem?_cons_succ];exact e2) (ac (aD (by rw[List.getElem?_cons_succ];exact e3) (ac (aD rfl (aj (ie hk D1.lf D1.od (D1.at hd h1 h2) h1 h2 hs hP)))))))))))
noncomputable def uA(ks:List D):Prop:=∀x∈ks,Kd x
theorem pB:∀{kvs:List (Key×D)}{k:Key}{v:D}{p:Key×D},p∈bS kvs k v->p∈kvs∨p=(k,v)∨(p.2=v/\∃q∈kvs,q.1=p.1):=by
 intro kvs k v p h;unfold bS at h;split at h
 ·obtain⟨q,hq,rfl⟩:=List.mem_map.mp h;split
  ·exact .inr (.inr ⟨rfl,q,hq,rfl⟩)
  ·exact .inl hq
 ·rcases List.mem_append.mp h with h|h
  ·exact .inl h
  ·rcases List.mem_cons.mp h with rfl|h
   ·exact .inr (.inl rfl)
   ·cases h
theorem gH{k:Key}:(bS kvs k v).length<=kvs.length+1:=by
 unfold bS;split
 ·rw[List.length_map];omega
 ·rw[aA];exact ah _
theorem Sn.put(h:∀p∈sv,(∃i,p.1=Sum.inl i)/\Kd p.2)(hv:Kd v):∀p∈bS sv (.inl i) v,(∃i,p.1=Sum.inl i)/\Kd p.2:=λp hp=>by
 rcases pB hp with hp|rfl|⟨e,q,hq,e2⟩
 ·exact h p hp
 ·exact⟨⟨i,rfl⟩,hv⟩
 ·rw[<-e2,e];exact⟨(h q hq).1,hv⟩
theorem lu:bS (kk ks) (.inl (ks.length:Int)) v=kk (ks++[v]):=by have:=sB (o:=0) (ks:=ks) (d:=v);rw[Nat.zero_add] at this;exact this
theorem s_row(hl:Lf st l)(ho:Od st s)(hd:st[d]? =some (.dct sv))(hc:st[c]? =some (.dct (kk ks)))(h1:d≠l)(h2:d≠s)(h3:c≠l)(h4:c≠s)(h5:c≠d)(hs:Sn sv)(hk:uA ks)(hkl:ks.length<=1000)
  (h:∀row sv' ks' st1,RowD row->qo [l,s,d,c] st st1->Lf st1 l->Od st1 s->st1[d]? =some (.dct sv')->st1[c]? =some (.dct (kk ks'))->(∀p∈sv',(∃i,p.1=Sum.inl i)/\Kd p.2)->sv'.length<=sv.length+1->uA ks'->ks'.length<=ks.length+1->Q row st1):Wv (calls tab (k+3) iC [.ref l,.ref s,.ref d,.ref c] st) Q:=by
 walk_at "call0"
 refine a_ (bK (ac (aD rfl (aj (dw hl ho λw st1 D1=>?_)))));refine mr (bK (ac (aD rfl (ac (aD rfl (aj (sj D1.lf D1.od (D1.at hd h1 h2) hs λx st2 hx D2=>?_)))))));obtain⟨op,ex,tk,gv,rfl,hex,htk,htl,hgv⟩:=hx;have D3:=D1.trans D2;refine⟨_,rfl,rfl,a_ (bQ (ac (dP (aD rfl ⟨_,rfl,?_⟩))))⟩;refine kY (L:=tk) D3.lf D3.od (az htl (by decide)) (ah _) (λi st4 _=>rfl) (λx hx st4 D4 P hP=>pd (htk x hx) D4 (D3.at hd h1 h2) h1 h2 hs rfl rfl rfl P hP) λos st4 hos _ D4=>?_
 refine aj (bP aq ?_);have D5:=D3.trans (D4.more (.lst os));refine gw rfl D5.lf D5.od λst6 D6=>?_;refine gw rfl D6.lf D6.od λst7 D7=>?_;have D8:=(D5.trans D6).trans D7;have hd8:=D8.at hd h1 h2;have hc8:=D8.at hc h3 h4;have E8:qo [l,s,d,c] st st7:=D8.ex (.head _) (.tail _ (.head _));rcases hgv with rfl|hgv
 ·refine cZ (bD (aD rfl (aU (w_is rfl ⟨_,rfl,λ_=>?_,nofun⟩))));exact bh (aW (ac (aU (ac (aD rfl (ac (aD rfl (ac (aD rfl (aj (cB (bg (h _ _ _ _ (.mk _ _ _ _ .non hex hos) E8 D8.lf D8.od hd8 hc8 hs.1 (Nat.le_succ _) hk (Nat.le_succ _))))))))))))))
 ·have hno:yT gv .non=some false:=by rcases hgv with rfl|rfl|rfl<;>rfl
  refine mx (bD (aD rfl (aU (w_is hno ⟨rfl,?_⟩))));refine a_ (bQ (ac (aD rfl (aj (nR hc8 ?_)))));rw[dI];refine gw rfl D8.lf D8.od λst9 D9=>?_;have D10:=D8.trans D9;have hd10:=D10.at hd h1 h2;have hc10:=D10.at hc h3 h4;have ld:d<st9.length:=(au hd10).1;have lc:c<st9.length:=(au hc10).1;refine cX (aD rfl (aD rfl (aD rfl (b9 hd10 rfl (Nat.lt_of_le_of_lt hs.2 (by decide)) ?_))))
  have hc11:(st9.set d (.dct (bS sv (.inl (ks.length:Int)) gv)))[c]? =some (.dct (kk ks)):=sn hc10 (Ne.symm h5);refine cX (aD rfl (aD rfl (aD rfl (b9 hc11 rfl (by rw[dI];exact Nat.lt_of_le_of_lt hkl (by decide)) ?_))))
  rw[lu];have E1:qo [l,s,d,c] st9 (st9.set d (.dct (bS sv (.inl (ks.length:Int)) gv))):= .set (by simp)
  have E2:qo [l,s,d,c] (st9.set d (.dct (bS sv (.inl (ks.length:Int)) gv))) ((st9.set d (.dct (bS sv (.inl (ks.length:Int)) gv))).set c (.dct (kk (ks++[gv])))):= .set (by simp)
  refine bh (aW (ac (aD rfl (ac (aD rfl (ac (aD rfl (ac (aD rfl (aj (bg ?_)))))))))));refine h _ (bS sv (.inl (ks.length:Int)) gv) (ks++[gv]) _ (.mk _ _ _ _ (.int _) hex hos) (((D10.ex (.head _) (.tail _ (.head _))).trans E1).trans E2) ?_ ?_ ?_ ?_ (Sn.put hs.1 hgv) gH (cg hk (bz hgv b0)) (by simp)
  ·obtain⟨ns,e⟩:=D10.lf;exact⟨ns,sn (sn e h1) h3⟩
  ·obtain⟨cc,h0,e⟩:=D10.od;exact⟨cc,h0,sn (sn e h2) h4⟩
  ·exact sn (cn ld) h5
  ·exact cn (by rw[aS];exact lc)
end
noncomputable def Pr(ps:List D):Prop:=(∀x∈ps,∃i kd,x=.tup [.int i,kd]/\Kd kd)/\ps.length<=10
structure Pm(l s:Nat)(st:aP)(P:Nat)(qs:List Nat):Prop where
 at_:st[P]? =some (.lst (qs.map .ref))
 each:∀q∈qs,∃ps,st[q]? =some (.lst ps)/\Pr ps
 nP:P≠l/\P≠s
 nq:∀q∈qs,q≠l/\q≠s
 few:qs.length<=10
theorem Pm.dr{P:Nat}(h:Pm l s st P qs)(D1:Dr l s st st'):Pm l s st' P qs:=⟨D1.at h.at_ h.nP.1 h.nP.2,λq hq=>by obtain⟨ps,e,hp⟩:=h.each q hq;exact⟨ps,D1.at e (h.nq q hq).1 (h.nq q hq).2,hp⟩,h.nP,h.nq,h.few⟩
theorem Pm.ix{P:Nat}(h:Pm l s st P qs)(h0:0<=i)(h1:i<qs.length){Q:D->aP->Prop}(k:∀q ps,qs[i.toNat]? =some q->st[q]? =some (.lst ps)->Pr ps->Q (.ref q) st):W (index (.ref P) (.int i) st) Q:=by
 refine fP h.at_ h0 (by rw[List.length_map];exact h1) λd hd e=>?_
 rw[aB] at e;cases e1:qs[i.toNat]? with
 |none=>rw[e1] at e;cases e
 |some q=>rw[e1] at e;cases e;obtain⟨ps,e2,hp⟩:=h.each q (ak e1);exact k q ps e1 e2 hp
theorem cL(h:Lf st l)(k:Od st s):st.length≠l/\st.length≠s:=by obtain⟨ns,e1⟩:=h;obtain⟨cc,_,e2⟩:=k;exact⟨bC (au e1).1,bC (au e2).1⟩
noncomputable def fX:D->D
 | .tup [_,k]=>k
 |d=>d
noncomputable def tU:D->D
 | .tup [k,_]=>k
 |d=>d
theorem qh(h:x∈cutD xs lo hi):x∈xs:=List.mem_of_mem_drop (List.mem_of_mem_take h)
theorem qi:(cutD xs lo hi).length<=xs.length:=by unfold cutD;rw[List.length_take,List.length_drop];omega
section
variable{k l s d P:Nat}{st:aP}{Q:D->aP->Prop}{sv:List (Key×D)}{qs:List Nat}
theorem rK{q:Nat}{ps:List D}{e:Ex}{F:D->D}(hq:st[q]? =some (.lst ps))(hp:Pr ps)(he:∀i kd st1 (P:D->aP->Prop),Kd kd->P (F (.tup [.int i,kd])) st1->W (run (calls tab k) e (some (.int i)::some kd::loc) st1) P)(h:∀st1,Gr st st1->Q (.ref st1.length) (st1++[.lst (ps.map F)])):W (ce (pairF λx y=>run (calls tab k) e (some x::some y::loc)) (.at q) st) Q:=by
 refine wO (F:=F) hq (az hp.2 (by decide)) (λx hx st1 g=>?_) h
 obtain⟨i,kd,rfl,hk⟩:=hp.1 x hx;exact gu (he i kd st1 _ hk ⟨rfl,.refl _⟩)
theorem sq(hl:Lf st l)(ho:Od st s)(hd:st[d]? =some (.dct sv))(h1:d≠l)(h2:d≠s)(hs:Sn sv)(hp:Pm l s st P qs)(n0:0<=num)(n1:num<qs.length)(h:∀e st1,Edg e->Dr l s st st1->Q e st1):Wv (calls tab (k+3) ng [.ref l,.ref s,.ref d,.ref P,.int num,.int skip] st) Q:=by
 walk_at "call0"
 refine gw rfl hl ho λst1 D1=>?_;refine a_ (bN (aj ?_));have D2:=D1.more (.lst []);have P2:=hp.dr D2;refine cZ (o8 (aU (aD rfl (wP ⟨_,rfl,λ_=>bQ (ac (aD rfl (aj (gf P2.at_ (w_lt ⟨_,rfl,λ_=>?_,λhz=>?_⟩))))),λhz=>?_⟩))))
 rotate_left
 ·simp only[List.length_map,decide_eq_false_iff_not] at hz;omega
 ·simp only[decide_eq_false_iff_not] at hz;omega
 refine a_ (ji (dG (bo (aD rfl (aD rfl (P2.ix n0 n1 λq ps hq eq hps=>⟨_,rfl,?_⟩))))));refine rK (F:=fX) eq hps (λi kd st3 P hk hP=>aD rfl hP) λst3 g3=>aD rfl ⟨_,rfl,rH aq ?_⟩
 have hks:∀x∈cutD (ps.map fX) (some skip) none,Kd x:=λx hx=>by obtain⟨y,hy,rfl⟩:=List.mem_map.mp (qh hx);obtain⟨i,kd,rfl,hk⟩:=hps.1 y hy;exact hk
 have hkl:(cutD (ps.map fX) (some skip) none).length<=10:=az qi (by rw[List.length_map];exact hps.2)
 generalize cutD (ps.map fX) (some skip) none=cs at hks hkl;have D4:=(D2.gr (g3.more (.lst (ps.map fX)))).more (.lst cs);refine aN (bj (a_ (bQ (ac (dP (aD rfl ⟨_,rfl,?_⟩))))));have hL:dA (.at (st3++[O.lst (ps.map fX)]).length) (st3++[O.lst (ps.map fX)]++[O.lst cs])=cs.length:=by simp only[dA,aq]
 have hne:(st3++[O.lst (ps.map fX)]).length≠l/\(st3++[O.lst (ps.map fX)]).length≠s:=by have D5:=D2.gr (g3.more (.lst (ps.map fX)));obtain⟨ns,e1⟩:=D5.lf;obtain⟨cc,_,e2⟩:=D5.od;exact⟨bC (au e1).1,bC (au e2).1⟩
 refine kY (L:=cs) D4.lf D4.od (by rw[hL];exact az hkl (by decide)) (by rw[hL];exact ah _) (λi st5 D5=>by simp only[im,D5.at aq hne.1 hne.2]) (λx hx st5 D5 P hP=>pd (hks x hx) D5 (D4.at hd h1 h2) h1 h2 hs rfl rfl rfl P hP) λos st5 hos _ D5=>?_
 refine aj (bP aq ?_);have D6:=D4.trans (D5.more (.lst os));refine gw rfl D6.lf D6.od λst7 D7=>?_;exact bh (aW (ac (aD rfl (ac (aD rfl (aj (bg (h _ _ (.mk num os hos) (D6.trans D7)))))))))
end
section
variable{k l s d P:Nat}{st:aP}{Q:D->aP->Prop}{sv:List (Key×D)}{qs:List Nat}
theorem gd{m:Int}(hn:st[n]? =some (.lst xs))(hm:0<m)(hl:m<=xs.length)(h:∀x,x∈xs->Q x st):W (index (.ref n) (.int (i % m)) st) Q:=
 fP hn (Int.emod_nonneg i (by omega)) (Int.lt_of_lt_of_le (bI i hm) hl) λx hx _=>h x hx
noncomputable def AL(m:Nat)(cs:List D):Prop:=(∀c∈cs,Cat c)/\cs.length<=m
theorem pq{x y:D}:∀{n:Nat},y∈(List.replicate n [x]).flatten->y=x
 |0,h=>nomatch h
 |n+1,h=>by
  rw[List.replicate_succ,List.flatten_cons] at h;rcases List.mem_append.mp h with h|h
  ·exact List.mem_singleton.mp h
  ·exact pq h
theorem pv{x:D}:∀n:Nat,(List.replicate n [x]).flatten.length=n
 |0=>rfl
 |n+1=>by rw[List.replicate_succ,List.flatten_cons,aA,pv n];exact Nat.add_comm 1 n
theorem mI{m:Int}(h:Cat x)(hm:m=2):AL 2 (List.replicate (w % m).toNat [x]).flatten:=⟨λc hc=>by rw[pq hc];exact h,by
 have p2:=bI w (show(0:Int)<m by omega)
 rw[pv];omega⟩
theorem Bj{e:Ex}(hk:Kd kd)(he:∀{st:aP}{P:D->aP->Prop},P kd st->W (run (calls tab (k+2)) e loc st) P)(hl:Lf st l)(ho:Od st s)(hd:st[d]? =some (.dct sv))(h1:d≠l)(h2:d≠s)(hs:Sn sv)(e0:loc[0]? =some (some (.ref l)))(e1:loc[1]? =some (some (.ref s)))(e2:loc[2]? =some (some (.ref d)))(h:∀o st1,Opd o->Dr l s st st1->Q o st1):W (run (calls tab (k+2)) (.fn 7 [.v 0,.v 1,.v 2,e]) loc st) Q:=
 bK (ac (aD e0 (ac (aD e1 (ac (aD e2 (ac (he (aj (ie hk hl ho hd h1 h2 hs h))))))))))
theorem Aj(hl:Lf st l)(ho:Od st s)(hd:st[d]? =some (.dct sv))(h1:d≠l)(h2:d≠s)(hs:Sn sv)(hp:Pm l s st P qs)(n0:0<=num)(n1:num<qs.length)(e0:loc[0]? =some (some (.ref l)))(e1:loc[1]? =some (some (.ref s)))(e2:loc[2]? =some (some (.ref d)))(e3:loc[3]? =some (some (.ref P)))(e4:loc[j]? =some (some (.int num)))(h:∀o st1,Edg o->Dr l s st st1->Q o st1):W (run (calls tab (k+3)) (.fn 10 [.v 0,.v 1,.v 2,.v 3,.v j,.c (.int skip)]) loc st) Q:=
 bK (ac (aD e0 (ac (aD e1 (ac (aD e2 (ac (aD e3 (ac (aD e4 (ac (aU (aj (sq hl ho hd h1 h2 hs hp n0 n1 h))))))))))))))
theorem s_end{here:Int}(hl:Lf st l)(ho:Od st s)(hd:st[d]? =some (.dct sv))(h1:d≠l)(h2:d≠s)(hs:Sn sv)(hp:Pm l s st P qs)(n0:0<=here)(n1:here<qs.length)(h:∀e st1,EndD e->Dr l s st st1->Q e st1):Wv (calls tab (k+4) oO [.ref l,.ref s,.ref d,.ref P,.int here] st) Q:=by
 walk_at "call0"
 refine a_ (bK (ac (aD rfl (aj (dw hl ho λw st1 D1=>?_)))));refine a_ (bQ (ac (aD rfl (aj (gf (hp.dr D1).at_ ?_)))));rw[List.length_map];refine a_ (bQ (ac (bc (aD rfl (aU (w_add (ac (bc (aD rfl (aU (w_sub (aj (wl ?_)))))))))))));generalize hnx:(if(qs.length:Int) - 1<here+1 then(qs.length:Int) - 1 else here+1)=nx
 have nx0:0<=nx/\nx<qs.length:=by subst hnx;split<;>omega
 have back:∀{st2:aP}{loc:Loc}{R:Fl->aP->Prop},Dr l s st st2->loc[0]? =some (some (.ref l))->loc[1]? =some (some (.ref s))->loc[2]? =some (some (.ref d))->(∀e st1,EndD e->Dr l s st st1->R (.rt e) st1)->W (execs (calls tab (k+3)) [.ret (.tup [(.c (.str "back")),(.fn 7 [(.v 0),(.v 1),(.v 2),(.tup [(.c (.str "num"))])])])] loc st2) R:=λ{st2 loc R} D2 e0 e1 e2 hR=>
  bh (aW (ac (aU (ac (Bj (k:=k+1) io (λh=>aW (ac (aU (aj h)))) D2.lf D2.od (D2.at hd h1 h2) h1 h2 hs e0 e1 e2 λo st3 h3 D3=>aj (hR _ _ (.back _ h3) (D2.trans D3)))))))
 have firstK:∀{ss:List S},W (execs (calls tab (k+3)) [.ret (.ix (.lst [(.tup [(.c (.str "back")),(.fn 7 [(.v 0),(.v 1),(.v 2),(.tup [(.c (.str "num"))])])]),(.tup [(.c (.str "raise")),(.c (.str "odd"))])]) (.bin .mod (.bin .fdiv (.v 5) (.c (.int (8)))) (.c (.int (2)))))] [some (.ref l),some (.ref s),some (.ref d),some (.ref P),some (.int here),some (.int w),some (.int qs.length),some (.int nx),none,none,none,none,none,none,none] st1) (Kn (calls tab (k+3)) ss (Kr Q)):=λ{ss}=>by
  refine bh (bo (bN (ac (aW (ac (aU (ac (Bj (k:=k+1) io (λh=>aW (ac (aU (aj h)))) D1.lf D1.od (D1.at hd h1 h2) h1 h2 hs rfl rfl rfl λo st3 h3 D3=>aj ?_))))))));refine ac (aW (ac (aU (ac (aU (aj (aj (bc (bc (aD rfl (aU (cG (by decide) (aU (w_mod (by decide) (gd aq (by decide) (by simp) λx hx=>cB (bg ?_))))))))))))))))
  rcases List.mem_cons.mp hx with rfl|hx
  ·exact h _ _ (.back _ h3) ((D1.trans D3).more _)
  ·rcases List.mem_cons.mp hx with rfl|hx
   ·exact h _ _ (.rais _) ((D1.trans D3).more _)
   ·cases hx
 refine cZ (w_or (bD (aD rfl (aU (f7 ⟨_,rfl,λhz=>⟨_,rfl,λ_=>firstK,nofun⟩,λhz=>?_⟩)))));refine bD (bc (aD rfl (aU (w_mod (by decide) (aU (f7 ⟨_,rfl,λ_=>firstK,λ_=>aN (bj ?_)⟩))))))
 have hz:(qs.length:Int)≠1:=of_decide_eq_false hz;have q1:1<(qs.length:Int):=by omega
 refine a_ (bc (aU (bc (bc (aD rfl (aU (cG (by decide) (bc (aD rfl (aU (w_sub (w_mod (by omega) (w_add ?_)))))))))))))
 generalize hot:1+w / 8 % ((qs.length:Int) - 1)=ot
 have ot0:0<=ot/\ot<qs.length:=by
  have p1:=Int.emod_nonneg (w / 8) (show(qs.length:Int) - 1≠0 by omega)
  have p2:=bI (w / 8) (show(0:Int)<qs.length - 1 by omega)
  omega
 refine a_ (Aj D1.lf D1.od (D1.at hd h1 h2) h1 h2 hs (hp.dr D1) nx0.1 nx0.2 rfl rfl rfl rfl rfl λe1 st2 he1 D2=>?_);have D3:=D1.trans D2;refine cZ (bD (bc (aD rfl (aU (w_mod (by decide) (aU (w_lt ⟨_,rfl,λ_=>?_,λ_=>aN (bj ?_)⟩)))))))
 ·exact bh (aW (ac (aU (ac (aD rfl (aj (cB (bg (h _ _ (.jump _ he1) D3)))))))))
 refine cZ (bD (bc (aD rfl (aU (w_mod (by decide) (aU (w_lt ⟨_,rfl,λ_=>?_,λ_=>aN (bj ?_)⟩)))))))
 ·refine a_ (Bj (k:=k+1) sW (λh=>aW (ac (aU (aj h)))) D3.lf D3.od (D3.at hd h1 h2) h1 h2 hs rfl rfl rfl λo st4 ho4 D4=>?_);have D5:=D3.trans D4;refine bh (aW (ac (aU (ac (aD rfl (ac (aD rfl (ac (Aj D5.lf D5.od (D5.at hd h1 h2) h1 h2 hs (hp.dr D5) ot0.1 ot0.2 rfl rfl rfl rfl rfl λe2 st6 he2 D6=>aj (cB (bg ?_)))))))))));exact h _ _ (.branch _ _ _ ho4 he1 he2) (D5.trans D6)
 have risk:∀{st4:aP},Dr l s st st4->W (execs (calls tab (k+3)) [.set 11 (.bin .mul (.lst [(.tup [(.c (.str "zero")),(.fn 10 [(.v 0),(.v 1),(.v 2),(.v 3),(.v 8),(.c (.int (0)))])])]) (.bin .mod (.bin .fdiv (.v 5) (.c (.int (64)))) (.c (.int (2))))),.set 11 (.bin .add (.v 11) (.bin .mul (.lst [(.tup [(.c (.str "odd")),(.fn 10 [(.v 0),(.v 1),(.v 2),(.v 3),(.v 8),(.c (.int (0)))])])]) (.bin .mod (.bin .fdiv (.v 5) (.c (.int (128)))) (.c (.int (2)))))),.ite (.fn 6 [(.v 1)]) [.set 11 (.bin .add (.v 11) (.sl (.v 11) (.c (.int (1))) (.c (.int (1))) false true))] [],.set 12 (.bt .tuple [(.comp true (.c (.int (2))) (.fn 7 [(.v 1),(.v 2),(.v 3),(.tup [(.c (.str "num"))])]))]),.set 13 (.fn 10 [(.v 0),(.v 1),(.v 2),(.v 3),(.v 7),(.c (.int (1)))]),.ite (.cmp .Eq (.bin .mod (.v 5) (.c (.int (8)))) (.c (.int (7)))) [.set 14 (.ix (.lst [(.c (.str "f")),(.c (.str "main")),(.c (.str "g"))]) (.bin .mod (.bin .fdiv (.v 5) (.c (.int (128)))) (.ix (.lst [(.c (.int (3))),(.c (.int (2)))]) (.bt .int [(.cmp .Lt (.bin .mod (.v 5) (.c (.int (16)))) (.c (.int (8))))])))),.ret (.tup [(.c (.str "risk")),(.c (.str "call")),(.v 14),(.sl (.v 12) (.c (.int (1))) (.c (.int (1))) false true),(.v 13),(.bt .tuple [(.v 11)])])] [],.ret (.tup [(.c (.str "risk")),(.ix (.lst [(.c (.str "div")),(.c (.str "mul")),(.c (.str "mod"))]) (.bin .mod (.bin .fdiv (.v 5) (.c (.int (128)))) (.c (.int (3))))),(.c (.non)),(.v 12),(.v 13),(.bt .tuple [(.v 11)])])] [some (.ref l),some (.ref s),some (.ref d),some (.ref P),some (.int here),some (.int w),some (.int qs.length),some (.int nx),some (.int ot),some e1,none,none,none,none,none] st4) (Kr Q):=λ{st4} D4=>by
  have mod2:∀x:Int,0<=x % 2/\x % 2<=1000:=λx=>by omega
  refine a_ (bc (bN (ac (aW (ac (aU (ac (Aj D4.lf D4.od (D4.at hd h1 h2) h1 h2 hs (hp.dr D4) ot0.1 ot0.2 rfl rfl rfl rfl rfl λe2 st5 he2 D5=>aj (aj ?_)))))))));refine bc (bc (aD rfl (aU (cG (by decide) (aU (w_mod (by decide) (wj aq ⟨(mod2 _).1,(mod2 _).2,by simp⟩ ?_)))))))
  have C1:=mI (x:= .tup [.str "zero",e2]) (w:=w / 64) (m:=2) (.mk _ _ he2) rfl;generalize (List.replicate (w / 64 % 2).toNat [D.tup [.str "zero",e2]]).flatten=c1 at C1;have D6:=(D4.trans D5).more (.lst [D.tup [.str "zero",e2]]);obtain⟨m1,hm1⟩:∃m1,m1=(st5++[O.lst [D.tup [.str "zero",e2]]]).length:=⟨_,rfl⟩;have ne1:=cL D6.lf D6.od;have D7:=D6.more (.lst c1);have a1:(st5++[O.lst [D.tup [.str "zero",e2]]]++[O.lst c1])[m1]? =some (.lst c1):=by rw[hm1];exact aq
  rw[<-hm1] at ne1 ⊢;generalize st5++[O.lst [D.tup [.str "zero",e2]]]++[O.lst c1]=st7 at D7 a1;refine a_ (bc (aD rfl (bc (bN (ac (aW (ac (aU (ac (Aj D7.lf D7.od (D7.at hd h1 h2) h1 h2 hs (hp.dr D7) ot0.1 ot0.2 rfl rfl rfl rfl rfl λe3 st8 he3 D8=>aj (aj ?_)))))))))));refine bc (bc (aD rfl (aU (cG (by decide) (aU (w_mod (by decide) (wj aq ⟨(mod2 _).1,(mod2 _).2,by simp⟩ ?_)))))))
  have C2:=mI (x:= .tup [.str "odd",e3]) (w:=w / 128) (m:=2) (.mk _ _ he3) rfl;generalize (List.replicate (w / 128 % 2).toNat [D.tup [.str "odd",e3]]).flatten=c2 at C2;refine fj (aL (aL (D8.at a1 ne1.1 ne1.2))) aq (by have:=C1.2;have:=C2.2;omega) ?_
  have C3:AL 4 (c1++c2):=⟨cg C1.1 C2.1,by have:=C1.2;have:=C2.2;rw[aA];omega⟩
  have D9:=(((D7.trans D8).more (.lst [D.tup [.str "odd",e3]])).more (.lst c2));generalize st8++[O.lst [D.tup [.str "odd",e3]]]++[O.lst c2]=st9 at D9;have ne2:=cL D9.lf D9.od;have D10:=D9.more (.lst (c1++c2));generalize c1++c2=c3 at C3 D10;refine gw rfl D10.lf D10.od λst11 D11=>?_;have a3:st11[st9.length]? =some (.lst c3):=D11.at aq ne2.1 ne2.2;have D12:=D10.trans D11;refine a_ (bQ (ac (dP (aU ⟨_,cy (by decide),?_⟩))))
  refine kY (L:=bL 2) D12.lf D12.od (by show(bL 2).length<=1000;rw[bH];decide) (ah _) (λi st' _=>rfl) (λx hx st' D' P hP=>?_) λos st13 hos hol D13=>?_
  ·exact c0 (bK (ac (aD rfl (ac (aD rfl (ac (aD rfl (ac (aW (ac (aU (aj (aj (ie io D'.lf D'.od (D'.at (D12.at hd h1 h2) h1 h2) h1 h2 hs hP))))))))))))))
  refine aj (bP aq ?_);have D14:=D12.trans (D13.more (.lst os));have a4:=(D13.more (.lst os)).at a3 ne2.1 ne2.2;generalize st13++[O.lst os]=st14 at D14 a4;refine a_ (Aj D14.lf D14.od (D14.at hd h1 h2) h1 h2 hs (hp.dr D14) nx0.1 nx0.2 rfl rfl rfl rfl rfl λe4 st15 he4 D15=>?_);have D16:=D14.trans D15;have a5:=D15.at a4 ne2.1 ne2.2;have C4:(∀c∈c3,Cat c)/\c3.length<=1000:=⟨C3.1,az C3.2 (by decide)⟩
  have os2:os.length=2:=hol.trans (bH 2);refine cZ (bD (bc (aD rfl (aU (w_mod (by decide) (aU (f7 ⟨_,rfl,λ_=>?_,λ_=>aN (bj ?_)⟩)))))))
  ·refine a_ (bo (bN (ac (aU (ac (aU (ac (aU (aj ?_)))))))));refine bc (bc (aD rfl (aU (cG (by decide) ?_))))
   refine bo (bN (ac (aU (ac (aU (aj (bQ (ac (bD (bc (aD rfl (aU (w_mod (by decide) (aU (w_lt (aj (rO ?_)))))))))))))))))
   refine fP aq (by split<;>decide) (by split<;>simp) λx hx _=>?_
   have hx':∃m:Int,x=.int m/\0<m/\m<=3:=by
    rcases List.mem_cons.mp hx with rfl|hx
    ·exact⟨3,rfl,by decide,by decide⟩
    ·rcases List.mem_cons.mp hx with rfl|hx
     ·exact⟨2,rfl,by decide,by decide⟩
     ·cases hx
   obtain⟨m,rfl,m0,m3⟩:=hx';refine w_mod m0 (gd (aL aq) m0 (by simpa using m3) λx hx=>?_)
   have hx':∃t:Str,x=.str t:=by
    rcases List.mem_cons.mp hx with rfl|hx
    ·exact⟨_,rfl⟩
    ·rcases List.mem_cons.mp hx with rfl|hx
     ·exact⟨_,rfl⟩
     ·rcases List.mem_cons.mp hx with rfl|hx
      ·exact⟨_,rfl⟩
      ·cases hx
   obtain⟨t,rfl⟩:=hx';refine bh (aW (ac (aU (ac (aU (ac (aD rfl (ac (jh (aD rfl (aU ⟨_,rfl,wg ?_ ?_⟩)))))))))))
   ·rw[os2];decide
   ·refine ac (aD rfl (ac (bQ (ac (aD rfl (aj (bP (aL (aL a5)) (aj (cB (bg ?_))))))))));exact h _ _ (.risk _ _ _ _ _ BU ⟨λo ho'=>hos.1 o (qh ho'),az qi hos.2⟩ he4 C4) ((D16.more _).more _)
  ·refine bh (aW (ac (aU (ac (bo (bN (ac (aU (ac (aU (ac (aU (aj (bc (bc (aD rfl (aU (cG (by decide) (aU (w_mod (by decide) (gd aq (by decide) (by simp) λx hx=>?_)))))))))))))))))))))
   have hx':∃t:Str,x=.str t:=by
    rcases List.mem_cons.mp hx with rfl|hx
    ·exact⟨_,rfl⟩
    ·rcases List.mem_cons.mp hx with rfl|hx
     ·exact⟨_,rfl⟩
     ·rcases List.mem_cons.mp hx with rfl|hx
      ·exact⟨_,rfl⟩
      ·cases hx
   obtain⟨t,rfl⟩:=hx';refine ac (aU (ac (aD rfl (ac (aD rfl (ac (bQ (ac (aD rfl (aj (bP (aL a5) (aj (bg ?_)))))))))))));exact h _ _ (.risk _ _ _ _ _ x0 hos he4 C4) (D16.more _)
 have PP:=hp.dr D3;refine cZ (w_or (bD (jh (bo (aD rfl (aD rfl (PP.ix nx0.1 nx0.2 λq ps hq eq hps=>aU ⟨_,rfl,rH eq ?_⟩)))))));refine bN (aj (w_eq (l8 (aL aq) aq) ⟨_,rfl,λhz=>⟨_,rfl,λ_=>?_,nofun⟩,λhz=>?_⟩))
 ·exact back ((D3.more _).more _) rfl rfl rfl λe st1 he D'=>cB (bg (h e st1 he D'))
 have D5:=(D3.more (.lst (cutD ps none (some 1)))).more (.lst []);have PP5:=hp.dr D5;refine bD (bo (bo (bo (aD rfl (aD rfl (PP5.ix nx0.1 nx0.2 λq2 ps2 hq2 eq2 hps2=>aU ?_))))));rw[hq] at hq2;cases hq2;rw[aL (aL eq)] at eq2;cases eq2;cases ps with
 |nil=>cases hz
 |cons p ps=>obtain⟨i,kd,rfl,hk⟩:=hps.1 p (.head _);refine jj (aL (aL eq)) mh (aU (bw rfl ?_));obtain⟨b2,hb2⟩:=pV (st:=st2++[O.lst (cutD (.tup [.int i,kd]::ps) none (some 1))]++[O.lst []]) hk io;refine aW (ac (aU (aj (uN hb2 ⟨_,rfl,λ_=>?_,λ_=>aN (bj (risk D5))⟩))));exact back D5 rfl rfl rfl λe st1 he D'=>cB (bg (h e st1 he D'))
end
section
variable{k s c:Nat}{st:aP}{Q:D->aP->Prop}
theorem oi{m:Int}(hx:EndD x)(h:∀b st1,Gr st st1->Q (.bl b) st1):Wv (calls tab (k+1) iV [x,.int m] st) Q:=by
 have fin:∀{st1:aP}{n:Nat}{es:List D},Gr st st1->st1[n]? =some (.lst es)->(∀e∈es,Edg e)->es.length<=2000->W (execs (calls tab k) [.ret (.cmp .NotEq (.compIf (.v 2) (.cmp .LtE (.ix (.v 0) (.c (.int (0)))) (.v 2)) (.v 0)) (.lst []))] [some x,some (.int m),some (.ref n)] st1) (Kr Q):=λ{st1 n es} g1 hn he hl=>by
  have hL:dA (.at n) st1=es.length:=by simp only[dA,hn]
  refine bh (bD (my (aD rfl ⟨_,rfl,?_⟩)));refine et (L:=es) (by rw[hL];exact az hl (by decide)) (by rw[hL];exact ah _) (λi acc st2=>Gr st1 st2) (.refl _) (λi acc st2 g2=>by simp only[im,g2.at hn]) (λi e acc st2 h5 g2=>?_) λacc st2 g2=>?_
  ·cases he e (ak h5) with
   |mk j xs hxs=>
    refine aM (bD (bo (aD rfl (aU (bw rfl (aD rfl (wP ?_)))))));refine aM ?_;cases hz:decide (j<=m) with
    |true=>exact show W ((ba (run (calls tab k) (.v 0) [some (.tup [.int j,.tup xs]),some x,some (.int m),some (.ref n)]) λy=>ret (some y)) st2) (λo st3=>Gr st1 st3) from c0 (aD rfl g2)
    |false=>exact g2
  ·exact bN (aj (uN (l8 (aL aq) aq) (bg (h _ _ (g1.trans ((g2.more _).more _))))))
 have no:∀{s t:Str}{a:List S}{ss:List S}{loc:Loc}{st1:aP}{Q:Fl->aP->Prop}{xs:List D},loc[0]? =some (some (.tup (.str s::xs)))->(s==t)=false->W (execs (calls tab k) ss loc st1) Q->W (execs (calls tab k) (.ite (.cmp .Eq (.ix (.v 0) (.c (.int 0))) (.c (.str t))) a []::ss) loc st1) Q:=λ{s t a ss loc st1 Q xs} hl hs h=>
  cZ (bD (bo (aD hl (aU (bw mh (aU (w_eq (k:=false) (by rw[eq_str,hs]) ⟨_,rfl,nofun,λ_=>aN (bj h)⟩)))))))
 have yes:∀{s:Str}{a:List S}{ss:List S}{loc:Loc}{st1:aP}{Q:Fl->aP->Prop}{xs:List D},loc[0]? =some (some (.tup (.str s::xs)))->W (execs (calls tab k) a loc st1) (Kn (calls tab k) ss Q)->W (execs (calls tab k) (.ite (.cmp .Eq (.ix (.v 0) (.c (.int 0))) (.c (.str s))) a []::ss) loc st1) Q:=λ{s a ss loc st1 Q xs} hl h=>
  cZ (bD (bo (aD hl (aU (bw mh (aU (w_eq (k:=true) (by rw[eq_str];simp) ⟨_,rfl,λ_=>h,nofun⟩)))))))
 walk_at "call0"
 refine a_ (bN (aj ?_));have g0:=Gr.one st (.lst []);cases hx with
 |jump e he=>
  refine yes rfl (a_ (bN (ac (bo (aD rfl (aU (bw rfl (aj (aN (bj (no rfl rfl (no rfl rfl ?_))))))))))));exact fin (g0.more _) aq (bz he b0) (by simp)
 |branch t y n ht hy hn=>
  refine no rfl rfl (yes rfl (a_ (bN (ac (bo (aD rfl (aU (bw rfl (ac (bo (aD rfl (aU (bw rfl (aj (aN (bj (no rfl rfl ?_)))))))))))))))));exact fin (g0.more _) aq (all2 hy hn) (by simp)
 |back o hh=>
  refine no rfl rfl (no rfl rfl (no rfl rfl ?_));exact fin g0 aq b0 (by simp)
 |rais t=>
  refine no rfl rfl (no rfl rfl (no rfl rfl ?_));exact fin g0 aq b0 (by simp)
 |risk op ex xs e cs he hx hd hc=>
  refine no rfl rfl (no rfl rfl (yes rfl (a_ (bc (bN (ac (bo (aD rfl (aU (bw rfl (aj (dG (bo (aD rfl (aU (bw rfl ⟨_,rfl,?_⟩))))))))))))))));refine ge (F:=fX) (az hc.2 (by decide)) (λy hy st2 g2=>?_) λst2 g2=>?_
  ·cases hc.1 y hy with
   |mk t e' h'=>exact gu (aD rfl ⟨rfl,.refl _⟩)
  ·refine fj (aL (g2.at aq)) aq (by rw[List.length_map];have:=hc.2;simp only[List.length_cons,List.length_nil];omega) (aN (bj (fin ((g0.more _).trans ((g2.more _).more _)) aq ?_ ?_)))
   ·refine cg (bz hd b0) λy hy=>?_;obtain⟨z,hz,rfl⟩:=List.mem_map.mp hy;cases hc.1 z hz with
    |mk t e' h'=>exact h'
   ·have:=hc.2;simp only[List.length_append,List.length_map,List.length_cons,List.length_nil];omega
end
structure Ph(l s c P:Nat)(st:aP)(qs:List Nat)(ks:List D):Prop where
 lf:Lf st l
 od:Od st s
 kd:st[c]? =some (.dct (kk ks))
 ok:uA ks
 pm:Pm l s st P qs
 nc:c≠l/\c≠s
 nd:P∉qs
theorem Ph.dr{P:Nat}(h:Ph l s c P st qs ks)(D1:Dr l s st st'):Ph l s c P st' qs ks:=⟨D1.lf,D1.od,D1.at h.kd h.nc.1 h.nc.2,h.ok,h.pm.dr D1,h.nc,h.nd⟩
theorem Ph.gr{P:Nat}(h:Ph l s c P st qs ks)(g:Gr st st'):Ph l s c P st' qs ks:=h.dr (.of h.lf h.od g)
theorem eA{a b:Nat}(h:st[a]? =some (.lst xs))(k:st[b]? =some (.dct kvs)):a≠b:=λe=>by subst e;rw[h] at k;cases k
theorem Ph.app{P q:Nat}{ps:List D}(h:Ph l s c P st qs ks)(hq:q∈qs)(e:st[q]? =some (.lst ps))(hp:Pr (ps++[x])):Ph l s c P (st.set q (.lst (ps++[x]))) qs ks:=by
 have nl:=h.pm.nq q hq;have hlt:q<st.length:=(au e).1;have nP:q≠P:=λz=>h.nd (z▸hq);refine⟨?_,?_,sn h.kd (eA e h.kd),h.ok,⟨sn h.pm.at_ nP,λq' hq'=>?_,h.pm.nP,h.pm.nq,h.pm.few⟩,h.nc,h.nd⟩
 ·obtain⟨ns,e1⟩:=h.lf;exact⟨ns,sn e1 nl.1⟩
 ·obtain⟨cc,h0,e1⟩:=h.od;exact⟨cc,h0,sn e1 nl.2⟩
 ·by_cases hz:q=q'
  ·subst hz;exact⟨_,cn hlt,hp⟩
  ·obtain⟨ps',e',hp'⟩:=h.pm.each q' hq';exact⟨ps',sn e' hz,hp'⟩
theorem Ph.kind{P:Nat}(h:Ph l s c P st qs ks)(hx:Kd x):Ph l s c P (st.set c (.dct (kk (ks++[x])))) qs (ks++[x]):=by
 have hlt:c<st.length:=(au h.kd).1;refine⟨?_,?_,cn hlt,cg h.ok (bz hx b0),⟨sn h.pm.at_ (Ne.symm (eA h.pm.at_ h.kd)),λq hq=>?_,h.pm.nP,h.pm.nq,h.pm.few⟩,h.nc,h.nd⟩
 ·obtain⟨ns,e1⟩:=h.lf;exact⟨ns,sn e1 h.nc.1⟩
 ·obtain⟨cc,h0,e1⟩:=h.od;exact⟨cc,h0,sn e1 h.nc.2⟩
 ·obtain⟨ps,e,hp⟩:=h.pm.each q hq;exact⟨ps,sn e (Ne.symm (eA e h.kd)),hp⟩
theorem Ph.block{P:Nat}(h:Ph l s c P st qs ks)(hf:qs.length<10):Ph l s c P ((st++[O.lst []]).set P (O.lst ((qs++[st.length]).map D.ref))) (qs++[st.length]) ks:=by
 have h':=h.gr (.one st (.lst []));have hlt:P<st.length:=(au h.pm.at_).1;have hlt':P<(st++[O.lst []]).length:=by rw[aA];omega
 have nn:=cL h.lf h.od;refine⟨?_,?_,sn h'.kd (eA h'.pm.at_ h'.kd),h.ok,⟨cn hlt',λq hq=>?_,h.pm.nP,λq hq=>?_,by rw[aA];simp;omega⟩,h.nc,λhq=>?_⟩
 ·obtain⟨ns,e1⟩:=h'.lf;exact⟨ns,sn e1 h.pm.nP.1⟩
 ·obtain⟨cc,h0,e1⟩:=h'.od;exact⟨cc,h0,sn e1 h.pm.nP.2⟩
 ·rcases List.mem_append.mp hq with hq|hq
  ·obtain⟨ps,e,hp⟩:=h'.pm.each q hq;exact⟨ps,sn e λz=>h.nd (z▸hq),hp⟩
  ·have:q=st.length:=by simpa using hq
   subst this;exact⟨[],sn aq (ao hlt),b0,Nat.zero_le _⟩
 ·rcases List.mem_append.mp hq with hq|hq
  ·exact h.pm.nq q hq
  ·have:q=st.length:=by simpa using hq
   subst this;exact nn
 ·rcases List.mem_append.mp hq with hq|hq
  ·exact h.nd hq
  ·have:P=st.length:=by simpa using hq
   omega
theorem rU:ci (kk (ks++[x])) (.inl (ks.length:Int))=some x:=by
 have:∀(o:Nat)(ks:List D),ci (mX o (ks++[x])) (.inl ((o+ks.length:Nat):Int))=some x:=λo ks=>by
  induction ks generalizing o with
  |nil=>show(if _ then _ else _)=_;exact if_pos rfl
  |cons d ks ih=>
   rw[List.cons_append,dZ];show(if(Sum.inl (o:Int):Key)=_ then _ else ci (mX (o+1) (ks++[x])) _)=_
   rw[if_neg (by intro h;have:=Sum.inl.inj h;simp only[List.length_cons] at this;omega)]
   have:=ih (o+1);rw[show o+1+ks.length=o+(d::ks).length by simp only[List.length_cons];omega] at this
   exact this
 have h:=this 0 ks;rw[Nat.zero_add] at h;exact h
theorem Pr.more{ps:List D}(h:Pr ps)(hl:ps.length<10)(hk:Kd kd):Pr (ps++[.tup [.int i,kd]]):=⟨cg h.1 (bz ⟨i,kd,rfl,hk⟩ b0),by rw[aA];exact hl⟩
theorem sS(h:∀x∈xs,P x)(hx:x∈xs):P x:=h x hx
section
variable{k l s c P q0:Nat}{st:aP}{ks:List D}
theorem xf{n:Int}(hp:Ph l s c P st [q0] [])(h0:st[q0]? =some (.lst []))(hn:0<=n/\n<=2)
  (h:∀x5 ks' st1,Ph l s c P st1 [q0] ks'->ks'.length<=2->W (execs (calls tab (k+1)) ss [some (.ref l),some (.ref s),x2,some (.ref c),some (.ref P),x5,none,none,none,none,none,none,none,none,none,none] st1) Q):
  W (d8 (λx loc'=>execs (calls tab (k+1)) [.setix (.v 3) (.v 5) (.ix (.lst [(.tup [(.c (.str "num"))]),(.tup [(.c (.str "num"))]),(.tup [(.c (.str "truth"))])]) (.bin .mod (.fn 5 [(.v 0)]) (.c (.int (3))))),.app (.ix (.v 4) (.c (.int (0)))) (.tup [(.v 5),(.ix (.v 3) (.v 5))])] (loc'.set 5 (some x))) (.its (bL n.toNat)) [some (.ref l),some (.ref s),x2,some (.ref c),some (.ref P),none,none,none,none,none,none,none,none,none,none,none] st) (Kn (calls tab (k+1)) ss Q):=by
 refine cx (L:=bL n.toNat) (ah _) (λi loc st'=>∃ks ps,Ph l s c P st' [q0] ks/\ks.length=i/\st'[q0]? =some (.lst ps)/\ps.length=i/\Pr ps/\∃x5,loc=[some (.ref l),some (.ref s),x2,some (.ref c),some (.ref P),x5,none,none,none,none,none,none,none,none,none,none]) ⟨[],[],hp,rfl,h0,rfl,⟨b0,Nat.zero_le _⟩,_,rfl⟩ (λ_ _ _ _=>rfl) (λi z loc st' hz hI=>?_) λloc st' hI=>?_
 ·obtain⟨ks,ps,H,e1,e2,e3,hps,x5,rfl⟩:=hI
  have hi:i<n.toNat:=by have:=(au hz).1;rwa [bH] at this
  have hzi:z=.int (i:Int):=by
   have:(bL n.toNat)[i]? =some (.int (i:Int)):=by simp[bL,hi]
   rw[this] at hz;exact(ai hz).symm
  subst hzi;refine cX (bo (bN (ac (aW (ac (aU (aj (ac (aW (ac (aU (aj (ac (aW (ac (aU (aj (aj ?_))))))))))))))))));have H1:=H.gr (.one st' (.lst [kN,kN,kT]));have nn:=cL H.lf H.od;refine bc (bK (ac (aD rfl (aj (dw H1.lf H1.od λw st2 D2=>aU (w_mod (by decide) (gd (D2.at aq nn.1 nn.2) (by decide) (by simp) λkd hkd=>?_)))))))
  have hk:Kd kd:=(bz io (bz io (bz sW b0)):∀x∈[kN,kN,kT],Kd x) kd hkd;have H2:=H1.dr D2;refine aD rfl (aD rfl (b9 H2.kd rfl (by rw[dI];omega) ?_))
  rw[<-e1,lu];have H3:=H2.kind hk;have ne:=H.pm.nq q0 (.head _);have e5:(st2.set c (.dct (kk (ks++[kd]))))[q0]? =some (.lst ps):=sn (D2.at (aL e2) ne.1 ne.2) (Ne.symm (eA (D2.at (aL e2) ne.1 ne.2) H2.kd));refine gy (bo (aD rfl (aU (jj H3.pm.at_ mh (db e5 ?_)))));refine aW (ac (aD rfl (ac (bo (aD rfl (aD rfl (kZ H3.kd rU (aj ?_))))))));have hp2:=Pr.more (i:=(ks.length:Int)) hps (by omega) hk
  refine cH e5 (by omega) (aN (cv ⟨ks++[kd],ps++[.tup [.int (ks.length:Int),kd]],H3.app (.head _) e5 hp2,by simp,cn (au e5).1,by simp[e3,e1],hp2,_,rfl⟩))
 ·obtain⟨ks,ps,H,e1,e2,e3,hps,x5,rfl⟩:=hI;rw[bH] at e1;exact bj (h x5 ks st' H (by omega))
end
theorem jd(h:xs[n]? =some x):qm xs (n:Int)=some x:=by
 have hn:=(au h).1;obtain⟨e,h1,h2⟩:=oW (xs:=xs) (i:=(n:Int)) (by omega) (by omega)
 rw[h1];rw[Int.toNat_natCast,h] at h2;exact h2.symm
section
variable{k l s c P:Nat}{st:aP}{qs:List Nat}{ks:List D}
theorem xc{n:Int}{q:Nat}(hp:Ph l s c P st qs ks)(hq:qs[m]? =some q)(h0:st[q]? =some (.lst []))(hn:0<=n/\n<=2)(hkl:ks.length<=500)
  (h:∀x5 x8 x9 ks' st1,Ph l s c P st1 qs ks'->ks'.length<=ks.length+2->Q (.nx [some (.ref l),some (.ref s),x2,some (.ref c),some (.ref P),x5,x6,some (.int (m:Int)),x8,x9,none,none,none,none,none,none]) st1):
  W (d8 (λx loc'=>execs (calls tab (k+1)) [.set 8 (.bin .mod (.fn 5 [(.v 0)]) (.c (.int (8)))),.set 9 (.ix (.lst [(.tup [(.c (.str "num"))]),(.tup [(.c (.str "truth"))]),(.tup [(.c (.str "row")),(.c (.int (2)))])]) (.ix (.lst [(.c (.int (0))),(.c (.int (1))),(.c (.int (0))),(.c (.int (0))),(.c (.int (1))),(.c (.int (0))),(.c (.int (0))),(.c (.int (2)))]) (.v 8))),.app (.ix (.v 4) (.v 7)) (.tup [(.bt .len [(.v 3)]),(.v 9)]),.setix (.v 3) (.bt .len [(.v 3)]) (.v 9)] (loc'.set 5 (some x))) (.its (bL n.toNat)) [some (.ref l),some (.ref s),x2,some (.ref c),some (.ref P),x5,x6,some (.int (m:Int)),x8,x9,none,none,none,none,none,none] st) Q:=by
 have hqm:=ak hq;refine cx (L:=bL n.toNat) (ah _) (λi loc st'=>∃ks' ps,Ph l s c P st' qs ks'/\ks'.length<=ks.length+i/\st'[q]? =some (.lst ps)/\ps.length=i/\Pr ps/\∃x5 x8 x9,loc=[some (.ref l),some (.ref s),x2,some (.ref c),some (.ref P),x5,x6,some (.int (m:Int)),x8,x9,none,none,none,none,none,none]) ⟨ks,[],hp,ah _,h0,rfl,⟨b0,Nat.zero_le _⟩,_,_,_,rfl⟩ (λ_ _ _ _=>rfl) (λi z loc st' hz hI=>?_) λloc st' hI=>?_
 ·obtain⟨ks',ps,H,e1,e2,e3,hps,x5,x8,x9,rfl⟩:=hI
  have hi:i<n.toNat:=by have:=(au hz).1;rwa [bH] at this
  refine a_ (bc (bK (ac (aD rfl (aj (dw H.lf H.od λw st2 D2=>aU (w_mod (by decide) ?_)))))))
  have H2:=H.dr D2;have ne:=H.pm.nq q hqm;have e4:=D2.at e2 ne.1 ne.2;refine a_ (bo (bN (ac (aW (ac (aU (aj (ac (aW (ac (aU (aj (ac (aW (ac (aU (ac (aU (aj (aj ?_))))))))))))))))))));refine bo (bN (ac (aU (ac (aU (ac (aU (ac (aU (ac (aU (ac (aU (ac (aU (ac (aU (aj ?_))))))))))))))))));refine aD rfl (gd aq (by decide) (by simp) λx hx=>?_)
  have hx':∃j:Int,x=.int j/\0<=j/\j<=2:=by
   refine sS (P:=λx=>∃j:Int,x=.int j/\0<=j/\j<=2) ?_ hx;exact bz ⟨_,rfl,by decide⟩ (bz ⟨_,rfl,by decide⟩ (bz ⟨_,rfl,by decide⟩ (bz ⟨_,rfl,by decide⟩ (bz ⟨_,rfl,by decide⟩ (bz ⟨_,rfl,by decide⟩ (bz ⟨_,rfl,by decide⟩ (bz ⟨_,rfl,by decide⟩ b0)))))))
  obtain⟨j,rfl,j0,j2⟩:=hx';refine fP (aL aq) j0 (by simp only[List.length_cons,List.length_nil];omega) λkd hkd _=>?_
  have hk:Kd kd:=(bz io (bz sW (bz uF b0)):∀x∈[kN,kT,kR],Kd x) kd hkd;have H3:=(H2.gr (.one _ _)).gr (.one (st2++[O.lst [kN,kT,kR]]) (.lst [.int 0,.int 1,.int 0,.int 0,.int 1,.int 0,.int 0,.int 2]));have e5:=aL (t:=[O.lst [.int 0,.int 1,.int 0,.int 0,.int 1,.int 0,.int 0,.int 2]]) (aL (t:=[O.lst [kN,kT,kR]]) e4);generalize st2++[O.lst [kN,kT,kR]]++[O.lst [.int 0,.int 1,.int 0,.int 0,.int 1,.int 0,.int 0,.int 2]]=st5 at H3 e5;refine gy (bo (aD rfl (aD rfl (jj H3.pm.at_ (jd (by rw[aB,hq];rfl)) (db e5 ?_)))))
  refine aW (ac (bQ (ac (aD rfl (aj (nR H3.kd (ac (aD rfl (aj ?_)))))))));rw[dI];have hp2:=Pr.more (i:=(ks'.length:Int)) hps (by omega) hk
  refine cH e5 (by omega) ?_
  have H4:=H3.app hqm e5 hp2;have e6:(st5.set q (.lst (ps++[.tup [.int (ks'.length:Int),kd]])))[q]? =_:=cn (au e5).1;refine cX (aD rfl (aD rfl (bQ (ac (aD rfl (aj (nR H4.kd ?_)))))));rw[dI];refine b9 H4.kd rfl (by rw[dI];omega) ?_
  rw[lu];refine aN (cv ⟨ks'++[kd],_,H4.kind hk,by simp;omega,sn e6 (Ne.symm (eA e6 H4.kd)),by simp[e3],hp2,_,_,_,rfl⟩)
 ·obtain⟨ks',ps,H,e1,e2,e3,hps,x5,x8,x9,rfl⟩:=hI;rw[bH] at e1;exact h x5 x8 x9 ks' st' H (by omega)
theorem xb{many:Int}{q0:Nat}(hp:Ph l s c P st [q0] ks)(hk:ks.length<=2)(hm:1<=many/\many<=5)
  (h:∀x5 x7 x8 x9 qs ks' st1,Ph l s c P st1 qs ks'->qs.length=many.toNat->ks'.length<=10->W (execs (calls tab (k+1)) ss [some (.ref l),some (.ref s),some (.int many),some (.ref c),some (.ref P),x5,x6,x7,x8,x9,none,none,none,none,none,none] st1) Q):
  W (execs (calls tab (k+1)) (.for2 7 (.c (.int (1))) (.v 2) [.app (.v 4) (.lst []),.for_ 5 true (.bin .mod (.fn 5 [(.v 0)]) (.c (.int (3)))) [.set 8 (.bin .mod (.fn 5 [(.v 0)]) (.c (.int (8)))),.set 9 (.ix (.lst [(.tup [(.c (.str "num"))]),(.tup [(.c (.str "truth"))]),(.tup [(.c (.str "row")),(.c (.int (2)))])]) (.ix (.lst [(.c (.int (0))),(.c (.int (1))),(.c (.int (0))),(.c (.int (0))),(.c (.int (1))),(.c (.int (0))),(.c (.int (0))),(.c (.int (2)))]) (.v 8))),.app (.ix (.v 4) (.v 7)) (.tup [(.bt .len [(.v 3)]),(.v 9)]),.setix (.v 3) (.bt .len [(.v 3)]) (.v 9)]]::ss) [some (.ref l),some (.ref s),some (.int many),some (.ref c),some (.ref P),x5,x6,none,none,none,none,none,none,none,none,none] st) Q:=by
 have hsrc:gC (.int 1) (.int many)=some (.its (cI 1 (many - 1).toNat)):=by
  simp only[gC];rw[if_pos (by omega)]
 have hlen:(cI 1 (many - 1).toNat).length=(many - 1).toNat:=by simp[cI]
 refine o7 (aU (aD rfl ⟨_,hsrc,?_⟩));refine cx (L:=cI 1 (many - 1).toNat) (ah _) (λi loc st'=>∃qs ks',Ph l s c P st' qs ks'/\qs.length=1+i/\ks'.length<=2+2*i/\∃x5 x7 x8 x9,loc=[some (.ref l),some (.ref s),some (.int many),some (.ref c),some (.ref P),x5,x6,x7,x8,x9,none,none,none,none,none,none]) ⟨[q0],ks,hp,rfl,hk,_,_,_,_,rfl⟩ (λ_ _ _ _=>rfl) (λi z loc st' hz hI=>?_) λloc st' hI=>?_
 ·obtain⟨qs,ks',H,e1,e2,x5,x7,x8,x9,rfl⟩:=hI
  have hi:i<(many - 1).toNat:=by have:=(au hz).1;rwa [hlen] at this
  have hzi:z=.int ((qs.length:Nat):Int):=by
   have:(cI 1 (many - 1).toNat)[i]? =some (.int (1+(i:Int))):=by unfold cI;rw[aB,List.getElem?_range hi];rfl
   rw[this] at hz;have:=(ai hz).symm;rw[this,e1];congr 1
  subst hzi;refine gy (aD rfl (db H.pm.at_ (bN (aj (cH (aL H.pm.at_) (by rw[List.length_map];omega) ?_)))))
  have H1:=H.block (by omega)
  have e0:((st'++[O.lst []]).set P (O.lst ((qs++[st'.length]).map D.ref)))[st'.length]? =some (.lst []):=sn aq (ao (au H.pm.at_).1);rw[show qs.map D.ref++[D.ref st'.length]=(qs++[st'.length]).map D.ref by simp]
  refine ej (bc (bK (ac (aD rfl (aj (dw H1.lf H1.od λw st2 D2=>aU (w_mod (by decide) ⟨_,cy (by omega),?_⟩)))))))
  have H2:=H1.dr D2;have nn:=H1.pm.nq st'.length (by simp)
  refine xc (m:=qs.length) H2 (q:=st'.length) (by simp) (D2.at e0 nn.1 nn.2) (by omega) (by omega) λx5 x8 x9 ks2 st3 H3 e3=>bj (aN (cv ⟨_,ks2,H3,by simp;omega,by omega,_,_,_,_,rfl⟩))
 ·obtain⟨qs,ks',H,e1,e2,x5,x7,x8,x9,rfl⟩:=hI;rw[hlen] at e1 e2;exact bj (h x5 x7 x8 x9 qs ks' st' H (by omega) (by omega))
end
noncomputable def B4(x:D):Prop:=∃ps rows e,x=.tup [.tup ps,.tup rows,e]/\BlkD ps rows e
noncomputable def yO(sv:List (Key×D)):Prop:=∀p∈sv,(∃i,p.1=Sum.inl i)/\Kd p.2
structure Bk(l s c P B E:Nat)(st:aP)(qs:List Nat)(ks bs:List D)(ev:List (Key×D)):Prop where
 ph:Ph l s c P st qs ks
 b:st[B]? =some (.lst bs)
 bd:∀x∈bs,B4 x
 e:st[E]? =some (.dct ev)
 ed:yO ev
 lo:(l<B/\s<B/\c<B/\P<B)/\∀q∈qs,q<B
 be:B<E
theorem Bk.ex{P B E:Nat}{ks' bs:List D}{ev:List (Key×D)}{S:List Nat}(h:Bk l s c P B E st qs ks bs ev)(x:qo S st st1)(hl:Lf st1 l)(ho:Od st1 s)(hk:st1[c]? =some (.dct (kk ks')))(hK:uA ks')(hS:∀i∈S,i=l∨i=s∨i=c∨(B<i/\i≠E)):Bk l s c P B E st1 qs ks' bs ev:=by
 obtain⟨⟨l1,l2,l3,l4⟩,l5⟩:=h.lo;have be:=h.be;have pn:=h.ph.pm.nP;have pc:P≠c:=eA h.ph.pm.at_ h.ph.kd
 have out:∀i,i≠l->i≠s->i≠c->(i<=B∨i=E)->i∉S:=λi h1 h2 h3 h4 hi=>by
  rcases hS i hi with e|e|e|e
  ·exact h1 e
  ·exact h2 e
  ·exact h3 e
  ·omega
 refine⟨⟨hl,ho,hk,hK,⟨x.at h.ph.pm.at_ (out P pn.1 pn.2 pc (by omega)),λq hq=>?_,pn,h.ph.pm.nq,h.ph.pm.few⟩,h.ph.nc,h.ph.nd⟩,x.at h.b (out B (by omega) (by omega) (by omega) (by omega)),h.bd,x.at h.e (out E (by omega) (by omega) (by omega) (.inr rfl)),h.ed,h.lo,h.be⟩
 obtain⟨ps,e,hp⟩:=h.ph.pm.each q hq;have nq:=h.ph.pm.nq q hq;have:=l5 q hq;exact⟨ps,x.at e (out q nq.1 nq.2 (eA e h.ph.kd) (by omega)),hp⟩
section
variable{l s c P B E:Nat}{st st1:aP}{qs:List Nat}{ks bs:List D}{ev:List (Key×D)}
theorem Bk.dr(h:Bk l s c P B E st qs ks bs ev)(D1:Dr l s st st1):Bk l s c P B E st1 qs ks bs ev:=
 h.ex (S:=[l,s]) (D1.ex (by simp) (by simp)) D1.lf D1.od (D1.at h.ph.kd h.ph.nc.1 h.ph.nc.2) h.ph.ok λi hi=>by
  rcases List.mem_cons.mp hi with e|hi
  ·exact .inl e
  ·exact .inr (.inl (by simpa using hi))
theorem Bk.gr(h:Bk l s c P B E st qs ks bs ev)(g:Gr st st1):Bk l s c P B E st1 qs ks bs ev:=h.dr (.of h.ph.lf h.ph.od g)
theorem Bk.set(h:Bk l s c P B E st qs ks bs ev)(hn:B<n/\n≠E):Bk l s c P B E (st.set n o) qs ks bs ev:=by
 obtain⟨⟨l1,l2,l3,l4⟩,l5⟩:=h.lo;have be:=h.be;have hne:∀i,i<=B->n≠i:=λi hi=>by omega
 refine h.ex (S:=[n]) (.set (.head _)) ?_ ?_ (sn h.ph.kd (hne c (by omega))) h.ph.ok λi hi=>by
  have:i=n:=by simpa using hi
  exact .inr (.inr (.inr (by subst this;exact hn)))
 ·obtain⟨ns,e⟩:=h.ph.lf;exact⟨ns,sn e (hne l (by omega))⟩
 ·obtain⟨cc,h0,e⟩:=h.ph.od;exact⟨cc,h0,sn e (hne s (by omega))⟩
theorem Bk.lt(h:Bk l s c P B E st qs ks bs ev):E<st.length:=(au h.e).1
end
section
variable{k l s c P B E d R:Nat}{st:aP}{qs:List Nat}{ks bs:List D}{ev sv:List (Key×D)}{Q:Fl->aP->Prop}
theorem u9{q:Nat}{ps:List D}(H:Bk l s c P B E st qs ks bs ev)(hd:st[d]? =some (.dct sv))(hE:E<d)(hq:st[q]? =some (.lst ps))(hps:Pr ps)(hs:yO sv)(hl:sv.length<=100)
  (h:∀x9 x13 sv' st1,Bk l s c P B E st1 qs ks bs ev->st1[d]? =some (.dct sv')->st1[q]? =some (.lst ps)->yO sv'->sv'.length<=sv.length+10->Q (.nx [some (.ref l),some (.ref s),x2,some (.ref c),some (.ref P),x5,x6,x7,x8,x9,some (.ref B),some (.ref E),some (.ref d),x13,x14,x15]) st1):
  W (d8 (λx loc'=>ba (items? 2 x) λds=>execs (calls tab k) [.setix (.v 12) (.v 13) (.v 9)] (gE [13,9] ds loc')) (.at q) [some (.ref l),some (.ref s),x2,some (.ref c),some (.ref P),x5,x6,x7,x8,x9,some (.ref B),some (.ref E),some (.ref d),x13,x14,x15] st) Q:=by
 have hL:dA (.at q) st=ps.length:=by simp only[dA,hq]
 refine cx (L:=ps) (by rw[hL];exact ah _) (λi loc st'=>∃sv',Bk l s c P B E st' qs ks bs ev/\st'[d]? =some (.dct sv')/\st'[q]? =some (.lst ps)/\yO sv'/\sv'.length<=sv.length+i/\∃x9 x13,loc=[some (.ref l),some (.ref s),x2,some (.ref c),some (.ref P),x5,x6,x7,x8,x9,some (.ref B),some (.ref E),some (.ref d),x13,x14,x15]) ⟨sv,H,hd,hq,hs,ah _,_,_,rfl⟩ (λi loc st' hI=>by obtain⟨_,_,_,e,_⟩:=hI;simp only[im,e]) (λi z loc st' hz hI=>?_) λloc st' hI=>?_
 ·obtain⟨sv',H',e1,e2,h3,h4,x9,x13,rfl⟩:=hI;obtain⟨j,kd,rfl,hk⟩:=hps.1 z (ak hz);have hi:=(au hz).1;have:=hps.2;refine fQ rfl (cX (aD rfl (aD rfl (aD rfl (b9 e1 rfl (by omega) (aN (cv ⟨bS sv' (.inl j) kd,H'.set ⟨Nat.lt_trans H'.be hE,by omega⟩,cn (au e1).1,sn e2 (Ne.symm (eA e2 e1)),Sn.put h3 hk,?_,_,_,rfl⟩)))))))
  have:=gH (kvs:=sv') (k:= .inl j) (v:=kd);omega
 ·obtain⟨sv',H',e1,e2,h3,h4,x9,x13,rfl⟩:=hI;exact h x9 x13 sv' st' H' e1 e2 h3 (by have:=hps.2;omega)
theorem n9{n:Int}(H:Bk l s c P B E st qs ks bs ev)(hd:st[d]? =some (.dct sv))(hE:E<d)(hR:st[R]? =some (.lst []))(hdR:d<R)(hs:yO sv)(hl:sv.length<=100)(hk:ks.length<=100)(hn:0<=n/\n<=3)
  (h:∀x5 sv' ks' rows st1,Bk l s c P B E st1 qs ks' bs ev->st1[d]? =some (.dct sv')->st1[R]? =some (.lst rows)->yO sv'->sv'.length<=sv.length+3->ks'.length<=ks.length+3->(∀r∈rows,RowD r)->rows.length<=3->Q (.nx [some (.ref l),some (.ref s),x2,some (.ref c),some (.ref P),x5,x6,x7,x8,x9,some (.ref B),some (.ref E),some (.ref d),x13,some (.ref R),x15]) st1):
  W (d8 (λx loc'=>execs (calls tab (k+3)) [.app (.v 14) (.fn 9 [(.v 0),(.v 1),(.v 12),(.v 3)])] (loc'.set 5 (some x))) (.its (bL n.toNat)) [some (.ref l),some (.ref s),x2,some (.ref c),some (.ref P),x5,x6,x7,x8,x9,some (.ref B),some (.ref E),some (.ref d),x13,some (.ref R),x15] st) Q:=by
 refine cx (L:=bL n.toNat) (ah _) (λi loc st'=>∃sv' ks' rows,Bk l s c P B E st' qs ks' bs ev/\st'[d]? =some (.dct sv')/\st'[R]? =some (.lst rows)/\yO sv'/\sv'.length<=sv.length+i/\ks'.length<=ks.length+i/\(∀r∈rows,RowD r)/\rows.length=i/\∃x5,loc=[some (.ref l),some (.ref s),x2,some (.ref c),some (.ref P),x5,x6,x7,x8,x9,some (.ref B),some (.ref E),some (.ref d),x13,some (.ref R),x15]) ⟨sv,ks,[],H,hd,hR,hs,ah _,ah _,b0,rfl,_,rfl⟩ (λ_ _ _ _=>rfl) (λi z loc st' hz hI=>?_) λloc st' hI=>?_
 ·obtain⟨sv',ks',rows,H',e1,e2,h3,h4,h5,h6,h7,x5,rfl⟩:=hI
  have hi:i<n.toNat:=by have:=(au hz).1;rwa [bH] at this
  obtain⟨⟨l1,l2,l3,l4⟩,l5⟩:=H'.lo;have be:=H'.be;refine gy (aD rfl (db e2 (bK (ac (aD rfl (ac (aD rfl (ac (aD rfl (ac (aD rfl (aj ?_))))))))))));refine s_row H'.ph.lf H'.ph.od e1 H'.ph.kd (by omega) (by omega) H'.ph.nc.1 H'.ph.nc.2 (by omega) ⟨h3,by omega⟩ H'.ph.ok (by omega) λrow sv2 ks2 st2 hrow hx q1 q2 q3 q4 q5 q6 q7 q8=>?_
  have H2:Bk l s c P B E st2 qs ks2 bs ev:=H'.ex hx q1 q2 q4 q7 λj hj=>by
   rcases List.mem_cons.mp hj with e|hj
   ·exact .inl e
   ·rcases List.mem_cons.mp hj with e|hj
    ·exact .inr (.inl e)
    ·rcases List.mem_cons.mp hj with e|hj
     ·exact .inr (.inr (.inr (by omega)))
     ·exact .inr (.inr (.inl (by simpa using hj)))
  have e2':st2[R]? =some (.lst rows):=hx.at e2 (by simp only[List.mem_cons,List.mem_nil_iff,or_false,not_or];omega)
  refine cH e2' (by omega) (aN (cv ⟨sv2,ks2,rows++[row],H2.set ⟨by omega,by omega⟩,sn q3 (by omega),cn (au e2').1,q5,by omega,by omega,cg h6 (bz hrow b0),by simp[h7],_,rfl⟩))
 ·obtain⟨sv',ks',rows,H',e1,e2,h3,h4,h5,h6,h7,x5,rfl⟩:=hI;rw[bH] at h4 h5 h7;exact h x5 sv' ks' rows st' H' e1 e2 h3 (by omega) (by omega) h6 (by omega)
end
noncomputable abbrev bT:List S:=[.set 12 (.bt .dict [(.v 11)]),.forU [13,9] (.ix (.v 4) (.v 7)) [.setix (.v 12) (.v 13) (.v 9)],.set 14 (.lst []),.for_ 5 true (.bin .mod (.fn 5 [(.v 0)]) (.c (.int (4)))) [.app (.v 14) (.fn 9 [(.v 0),(.v 1),(.v 12),(.v 3)])],.ite (.cmp .Eq (.v 7) (.c (.int (0)))) [.set 11 (.bt .dict [(.v 12)])] [],.set 15 (.fn 11 [(.v 0),(.v 1),(.v 12),(.v 4),(.v 7)]),.ite (.and (.fn 12 [(.v 15),(.v 7)]) (.not (.fn 6 [(.v 1)]))) [.app (.v 14) (.tup [(.c (.non)),(.c (.str "tick")),(.c (.non)),(.tup [])])] [],.app (.v 10) (.tup [(.bt .tuple [(.compU (.ix (.v 4) (.v 7)) (.v 0))]),(.bt .tuple [(.v 14)]),(.v 15)])]
section
variable{k l s c P B E:Nat}{st:aP}{qs:List Nat}{ks bs:List D}{ev:List (Key×D)}{Q:Fl->aP->Prop}
theorem w9{i:Nat}(H:Bk l s c P B E st qs ks bs ev)(hev:ev.length<=20)(h0:i=0->ev.length=0)(hi:i<qs.length)(hk:ks.length<=50)(hb:bs.length<=10)
  (h:∀x5 x9 x12 x13 x14 x15 E' ev' ks' bs' st1,Bk l s c P B E' st1 qs ks' bs' ev'->ev'.length<=20->ks'.length<=ks.length+3->bs'.length=bs.length+1->Q (.nx [some (.ref l),some (.ref s),x2,some (.ref c),some (.ref P),x5,x6,some (.int (i:Int)),x8,x9,some (.ref B),some (.ref E'),x12,x13,x14,x15]) st1):
  W (execs (calls tab (k+4)) bT [some (.ref l),some (.ref s),x2,some (.ref c),some (.ref P),x5,x6,some (.int (i:Int)),x8,x9,some (.ref B),some (.ref E),x12,x13,x14,x15] st) Q:=by
 obtain⟨⟨l1,l2,l3,l4⟩,l5⟩:=H.lo;have be:=H.be;have lt:=H.lt;have hii:(0:Int)<=(i:Int)/\(i:Int)<qs.length:=by omega
 refine a_ (bQ (ac (aD rfl (aj (em H.e ?_)))));have H1:=H.gr (.one st (.dct ev));have d1:(st++[O.dct ev])[st.length]? =some (.dct ev):=aq;generalize hd:st.length=d at d1;have hEd:E<d:=by omega
 have ld:d<(st++[O.dct ev]).length:=(au d1).1;generalize st++[O.dct ev]=st1 at H1 d1 ld;refine gx (bo (aD rfl (aD rfl (H1.ph.pm.ix hii.1 hii.2 λq ps hq eq hps=>⟨_,rfl,?_⟩))));refine u9 H1 d1 hEd eq hps H1.ed (by omega) λx9 x13 sv st2 H2 d2 q2 hsv hsl=>bj ?_
 refine a_ (bN (aj ?_));have H3:=H2.gr (.one st2 (.lst []));have d3:=aL (t:=[O.lst []]) d2;have q3:=aL (t:=[O.lst []]) q2;have r3:(st2++[O.lst []])[st2.length]? =some (.lst []):=aq;have hdR:d<st2.length:=(au d2).1;generalize st2.length=R at r3 hdR;generalize st2++[O.lst []]=st3 at H3 d3 q3 r3;refine ej (bc (bK (ac (aD rfl (aj (dw H3.ph.lf H3.ph.od λw st4 D4=>aU (w_mod (by decide) ⟨_,cy (by omega),?_⟩)))))))
 have H4:=H3.dr D4;refine n9 (k:=k+1) H4 (D4.at d3 (by omega) (by omega)) hEd (D4.at r3 (by omega) (by omega)) hdR hsv (by omega) (by omega) (by omega) λx5 sv' ks' rows st5 H5 d5 r5 hsv' hsl' hkl' hrows hrl=>bj ?_
 have rest:∀{E':Nat}{ev':List (Key×D)}{st6:aP},Bk l s c P B E' st6 qs ks' bs ev'->ev'.length<=20->st6[d]? =some (.dct sv')->st6[R]? =some (.lst rows)->(E'=E∨R<E')->W (execs (calls tab (k+4)) [.set 15 (.fn 11 [(.v 0),(.v 1),(.v 12),(.v 4),(.v 7)]),.ite (.and (.fn 12 [(.v 15),(.v 7)]) (.not (.fn 6 [(.v 1)]))) [.app (.v 14) (.tup [(.c (.non)),(.c (.str "tick")),(.c (.non)),(.tup [])])] [],.app (.v 10) (.tup [(.bt .tuple [(.compU (.ix (.v 4) (.v 7)) (.v 0))]),(.bt .tuple [(.v 14)]),(.v 15)])] [some (.ref l),some (.ref s),x2,some (.ref c),some (.ref P),x5,x6,some (.int (i:Int)),x8,x9,some (.ref B),some (.ref E'),some (.ref d),x13,some (.ref R),x15] st6) Q:=λ{E' ev' st6} H6 hev' d6 r6 hE'=>by
  have be6:=H6.be;refine a_ (bK (ac (aD rfl (ac (aD rfl (ac (aD rfl (ac (aD rfl (ac (aD rfl (aj ?_))))))))))));refine s_end H6.ph.lf H6.ph.od d6 (by omega) (by omega) ⟨hsv',by omega⟩ H6.ph.pm hii.1 hii.2 λx st7 hx D7=>?_
  have H7:=H6.dr D7;have r7:=D7.at r6 (by omega) (by omega)
  have last:∀{st9:aP}{rows':List D},Bk l s c P B E' st9 qs ks' bs ev'->st9[R]? =some (.lst rows')->(∀r∈rows',RowD r)->rows'.length<=4->W (execs (calls tab (k+4)) [.app (.v 10) (.tup [(.bt .tuple [(.compU (.ix (.v 4) (.v 7)) (.v 0))]),(.bt .tuple [(.v 14)]),(.v 15)])] [some (.ref l),some (.ref s),x2,some (.ref c),some (.ref P),x5,x6,some (.int (i:Int)),x8,x9,some (.ref B),some (.ref E'),some (.ref d),x13,some (.ref R),some x] st9) Q:=λ{st9 rows'} H9 r9 hr' hl'=>by
   refine gy (aD rfl (db H9.b (aW (ac (bQ (ac (dG (bo (aD rfl (aD rfl (H9.ph.pm.ix hii.1 hii.2 λq ps hq eq hps=>⟨_,rfl,?_⟩)))))))))));refine rK (F:=tU) eq hps (λi kd st' P hk hP=>aD rfl hP) λst10 g10=>aj (bP aq ?_);have H11:=H9.gr (g10.more (.lst (ps.map tU)));refine ac (bQ (ac (aD rfl (aj (bP ((g10.more (.lst (ps.map tU))).at r9) (ac (aD rfl (aj ?_))))))));refine cH H11.b (by omega) (aN (h _ _ _ _ _ _ E' ev' ks' (bs++[.tup [.tup (ps.map tU),.tup rows',x]]) _ ?_ hev' (by omega) (by simp)))
   have bB:B<(st10++[O.lst (ps.map tU)]).length:=(au H11.b).1;have hBE:∀j,j≠B->(B≠j):=λj hj=>Ne.symm hj;refine⟨⟨?_,?_,sn H11.ph.kd (by omega),H11.ph.ok,⟨sn H11.ph.pm.at_ (by omega),λq' hq'=>?_,H11.ph.pm.nP,H11.ph.pm.nq,H11.ph.pm.few⟩,H11.ph.nc,H11.ph.nd⟩,cn bB,cg H11.bd (bz ⟨_,_,_,rfl,⟨⟨λp hp=>?_,by rw[List.length_map];exact az hps.2 (by decide)⟩,hr',by omega,hx⟩⟩ b0),sn H11.e (by omega),H11.ed,H11.lo,H11.be⟩
   ·obtain⟨ns,e⟩:=H11.ph.lf;exact⟨ns,sn e (by omega)⟩
   ·obtain⟨cc,h0,e⟩:=H11.ph.od;exact⟨cc,h0,sn e (by omega)⟩
   ·obtain⟨ps',e',hp'⟩:=H11.ph.pm.each q' hq';exact⟨ps',sn e' (by have:=l5 q' hq';omega),hp'⟩
   ·obtain⟨y,hy,rfl⟩:=List.mem_map.mp hp;obtain⟨j,kd,rfl,_⟩:=hps.1 y hy;exact⟨j,rfl⟩
  refine cZ (w_and (bK (ac (aD rfl (ac (aD rfl (aj (oi hx λb st8 g8=>⟨_,rfl,λhz=>?_,λhz=>⟨_,rfl,nofun,λ_=>aN (bj (last (H7.gr g8) (g8.at r7) hrows (by omega)))⟩⟩))))))))
  have H8:=H7.gr g8;refine w_not (bK (ac (aD rfl (aj (wr H8.ph.lf H8.ph.od λst9 D9=>⟨_,rfl,_,rfl,λ_=>?_,nofun⟩)))));have H9:=H8.dr D9;have r9:=D9.at (g8.at r7) (by omega) (by omega)
  refine gy (aD rfl (db r9 (aW (ac (aU (ac (aU (ac (aU (ac (aW (aj (aj (cH r9 (by omega) (aN (bj ?_))))))))))))))))
  refine last (H9.set ⟨by omega,by rcases hE' with e|e<;>omega⟩) (cn (au r9).1) (cg hrows (bz (.mk _ _ _ _ .non x0 ⟨b0,Nat.zero_le _⟩) b0)) (by simp;omega)
 refine cZ (bD (aD rfl (aU (f7 ⟨_,rfl,λhz=>?_,λhz=>aN (bj (rest H5 hev d5 r5 (.inl rfl)))⟩))));have hz:(i:Int)=0:=of_decide_eq_true hz;refine a_ (bQ (ac (aD rfl (aj (em d5 (aN (bj ?_)))))));have H6:=H5.gr (.one st5 (.dct sv'));have:=H5.lt;refine rest (E':=st5.length) (ev':=sv') ⟨H6.ph,H6.b,H6.bd,aq,hsv',H6.lo,by omega⟩ ?_ (aL d5) (aL r5) (.inr (au r5).1)
 have:=h0 (by omega)
 omega
end
section
variable{k l s:Nat}{st:aP}{Q:D->aP->Prop}
theorem vt{m:Int}(h:∀x∈xs,∃i:Int,x=.int i/\0<=i/\i<=m)(hx:x∈xs):∃i:Int,x=.int i/\0<=i/\i<=m:=h x hx
theorem oa(hl:Lf st l)(ho:Od st s)(h:∀tk ks bs st1,uA tk->tk.length<=10->uA ks->ks.length<=40->uE bs->Lf st1 l->Od st1 s->Q (.tup [.tup tk,kN,.tup (kp ks),.tup bs]) st1):Wv (calls tab (k+5) iU [.ref l,.ref s] st) Q:=by
 walk_at "call0"
 refine a_ (bc (aU (bc (bK (ac (aD rfl (aj (dw hl ho λw0 st1 D1=>aU (w_mod (by decide) (w_add ?_))))))))))
 generalize hmany:1+w0 % 5=many;have hm:1<=many/\many<=5:=by omega
 refine a_ (fi (a_ (bN (ac (bN (aj (aj ?_)))))));have nn:=cL D1.lf D1.od;have D2:=D1.more (.dct []);have nn2:=cL D2.lf D2.od;have D3:=D2.more (.lst []);have nn3:=cL D3.lf D3.od;have D4:=D3.more (.lst [.ref (st1++[O.dct []]).length])
 have H:Ph l s st1.length (st1++[O.dct []]++[O.lst []]).length (st1++[O.dct []]++[O.lst []]++[O.lst [.ref (st1++[O.dct []]).length]]) [(st1++[O.dct []]).length] []:=
  ⟨D4.lf,D4.od,aL (aL aq),b0,⟨aq,λq hq=>by
   have:q=(st1++[O.dct []]).length:=by simpa using hq
   subst this;exact⟨[],aL aq,b0,Nat.zero_le _⟩,nn3,λq hq=>by
   have:q=(st1++[O.dct []]).length:=by simpa using hq
   subst this;exact nn2,by simp⟩,nn,λhq=>by
   have:(st1++[O.dct []]++[O.lst []]).length=(st1++[O.dct []]).length:=by simpa using hq
   simp at this⟩
 have e0:(st1++[O.dct []]++[O.lst []]++[O.lst [.ref (st1++[O.dct []]).length]])[(st1++[O.dct []]).length]? =some (.lst []):=aL aq;generalize (st1++[O.dct []]).length=q0 at H e0;generalize (st1++[O.dct []]++[O.lst []]).length=P at H;generalize st1.length=c at H;generalize st1++[O.dct []]++[O.lst []]++[O.lst [.ref q0]]=st4 at H e0;refine ej (bo (bN (ac (aU (ac (aU (ac (aU (ac (aU (aj ?_)))))))))));have H5:=H.gr (.one st4 (.lst [.int 1,.int 1,.int 0,.int 2]));have nn5:=cL H.lf H.od;refine bc (bK (ac (aD rfl (aj (dw H5.lf H5.od λw st6 D6=>aU (w_mod (by decide) (gd (D6.at aq nn5.1 nn5.2) (by decide) (by simp) λx hx=>?_)))))))
 obtain⟨n,rfl,n0,n2⟩:=vt (m:=2) (bz ⟨_,rfl,by decide⟩ (bz ⟨_,rfl,by decide⟩ (bz ⟨_,rfl,by decide⟩ (bz ⟨_,rfl,by decide⟩ b0)))) hx
 have nq0:=H.pm.nq q0 (.head _);refine⟨_,cy (by omega),xf (k:=k+3) (H5.dr D6) (D6.at (aL e0) nq0.1 nq0.2) ⟨n0,n2⟩ λx5 ks st7 H7 hk7=>?_⟩
 obtain⟨ps,ep,hps⟩:=H7.pm.each q0 (.head _);refine a_ (bQ (ac (dG (bo (aD rfl (aU (jj H7.pm.at_ mh ⟨_,rfl,?_⟩)))))));refine rK (F:=fX) ep hps (λi kd st' P hk hP=>aD rfl hP) λst8 g8=>aj (bP aq ?_)
 have htk:uA (ps.map fX):=λx hx=>by obtain⟨y,hy,rfl⟩:=List.mem_map.mp hx;obtain⟨i,kd,rfl,hk⟩:=hps.1 y hy;exact hk
 have htl:(ps.map fX).length<=10:=by rw[List.length_map];exact hps.2
 have H8:=H7.gr (g8.more (.lst (ps.map fX)));generalize ps.map fX=tk at H8 htk htl;refine gw rfl H8.lf H8.od λst9 D9=>?_;refine xb (k:=k+3) (H8.dr D9) hk7 hm λx5 x7 x8 x9 qs ks' st10 H10 hqs hks'=>?_;refine a_ (bN (aj (a_ (fi ?_))));obtain⟨ns,el⟩:=H10.lf;obtain⟨cc,_,es⟩:=H10.od
 have BK:Bk l s c P st10.length (st10++[O.lst []]).length (st10++[O.lst []]++[O.dct []]) qs ks' [] []:=
  ⟨H10.gr ((Gr.one _ _).more _),aL aq,b0,aq,(λ_ h=>nomatch h),⟨⟨(au el).1,(au es).1,(au H10.kd).1,(au H10.pm.at_).1⟩,λq hq=>by
   obtain⟨ps,e,_⟩:=H10.pm.each q hq;exact(au e).1⟩,by simp⟩
 generalize (st10++[O.lst []]).length=E at BK;generalize st10++[O.lst []]++[O.dct []]=st11 at BK;generalize st10.length=B at BK;have hrl:=bH many.toNat;refine ej (aD rfl ⟨_,cy (by omega),?_⟩)
 refine cx (L:=bL many.toNat) (ah _) (λi loc st'=>∃E ev ks bs,Bk l s c P B E st' qs ks bs ev/\ev.length<=20/\(i=0->ev.length=0)/\ks.length<=10+3*i/\bs.length=i/\∃x5 x7 x9 x12 x13 x14 x15,loc=[some (.ref l),some (.ref s),some (.int many),some (.ref c),some (.ref P),x5,some (.tup tk),x7,x8,x9,some (.ref B),some (.ref E),x12,x13,x14,x15]) ⟨E,[],ks',[],BK,by decide,λ_=>rfl,by omega,rfl,_,_,_,_,_,_,_,rfl⟩ (λ_ _ _ _=>rfl) (λi z loc st' hz hI=>?_) λloc st' hI=>?_
 ·obtain⟨E,ev,ks,bs,H',h1,h2,h3,h4,x5,x7,x9,x12,x13,x14,x15,rfl⟩:=hI
  have hi:i<many.toNat:=by have:=(au hz).1;rwa [bH] at this
  have hzi:z=.int (i:Int):=by
   have:(bL many.toNat)[i]? =some (.int (i:Int)):=by simp[bL,hi]
   rw[this] at hz;exact(ai hz).symm
  subst hzi;exact w9 H' h1 h2 (by omega) (by omega) (by omega) λx5 x9 x12 x13 x14 x15 E' ev' ks2 bs' st2 H2 q1 q2 q3=>cv ⟨E',ev',ks2,bs',H2,q1,λz=>by omega,by omega,by omega,_,_,_,_,_,_,_,rfl⟩
 ·obtain⟨E,ev,ks,bs,H',h1,h2,h3,h4,x5,x7,x9,x12,x13,x14,x15,rfl⟩:=hI;rw[bH] at h3 h4;refine bj (gw rfl H'.ph.lf H'.ph.od λst12 D12=>?_);have H2:=H'.dr D12;refine bh (aW (ac (aD rfl (ac (aW (ac (aU (aj (ac (bQ (ac (rJ (aD rfl ⟨_,_,_,rfl,H2.ph.kd,lK 0 ks,⟨pp 0 _,by rw[dI];omega⟩,?_⟩)))))))))))))
  rw[nQ];refine aj (bP aq (ac (bQ (ac (aD rfl (aj (bP (aL H2.b) (aj (bg ?_)))))))));exact h tk ks bs _ htk htl H2.ph.ok (by omega) ⟨λb hb=>H2.bd b hb,by omega⟩ (H2.ph.lf.gr (.one _ _)) (H2.ph.od.gr (.one _ _))
end
noncomputable def Mk(st st':aP)(m:Nat):Prop:=∃zs:List Int,st'=st++[.lst (zs.map .int)]/\zs.length<=m
section
variable{k n:Nat}{st:aP}{Q:D->aP->Prop}
theorem pi{c m:Int}(h:∀r,Q (.int r) st):Wv (calls tab (k+1) lS [.int c,.int m] st) Q:=by
 walk_at "call"
 exact h _
theorem nS{e:Ex}{zs:List Int}{Q:Fl->aP->Prop}(e2:loc[2]? =some (some (.ref st.length)))(hz:zs.length<10000)(he:∀P:D->aP->Prop,(∀r,P (.int r) (st++[.lst (zs.map .int)]))->W (run g e loc (st++[.lst (zs.map .int)])) P)(h:∀r:Int,W (execs g ss loc (st++[.lst ((zs++[r]).map .int)])) Q):W (execs g (.app (.v 2) e::ss) loc (st++[.lst (zs.map .int)])) Q:=
 gy (aD e2 (db aq (he _ λr=>cH aq (by rw[List.length_map];omega) (by rw[bJ];have:=h r;rw[List.map_append] at this;exact this))))
theorem qv{cs:List Int}(hn:st[n]? =some (.lst (cs.map .int)))(hc:cs.length<=63)(h:∀m st',Lf st' m->Gr st st'->Q (.ref m) st'):Wv (calls tab (k+2) jG [.ref n,.int 200] st) Q:=by
 walk_at "call0"
 refine a_ (bN (aj (ej (aD rfl ⟨_,rfl,?_⟩))));have hL:dA (.at n) (st++[O.lst []])=(cs.map D.int).length:=by simp only[dA,aL hn]
 refine cx (L:=cs.map .int) (by rw[hL];exact ah _) (λi loc st'=>(∃a b c,loc=[some (.ref n),some (.int 200),some (.ref st.length),a,b,c])/\Mk st st' (40*i)) ⟨⟨_,_,_,rfl⟩,[],rfl,by simp⟩ (λi loc st' hI=>by obtain⟨_,zs,rfl,_⟩:=hI;simp only[im,aL hn]) (λi z loc st' hz hI=>?_) λloc st' hI=>?_
 ·obtain⟨⟨a,b,c,rfl⟩,hM⟩:=hI
  have hi:i<cs.length:=by have:=(au hz).1;rwa [List.length_map] at this
  obtain⟨v,_,rfl⟩:=List.mem_map.mp (ak hz);refine a_ (aD rfl (ej (aU ⟨_,cy (by decide),?_⟩)))
  refine cx (L:=bL 40) (ah _) (λj loc st'=>(∃(b:Int)(c:Option D),loc=[some (.ref n),some (.int 200),some (.ref st.length),some (.int v),some (.int b),c])/\Mk st st' (40*i+j)) ⟨⟨_,_,rfl⟩,hM⟩ (λ_ _ _ _=>rfl) (λj y loc st2 hy hJ=>?_) λloc st2 hJ=>?_
  ·obtain⟨⟨b2,c2,rfl⟩,zs,rfl,hzs⟩:=hJ
   have hj:j<40:=by have:=(au hy).1;rwa [bH] at this
   have fin:∀r:Int,Mk st (st++[O.lst ((zs++[r]).map D.int)]) (40*i+(j+1)):=λr=>⟨_,rfl,by simp;omega⟩
   refine cZ (bD (aD rfl (bc (aU (aU (w_pow (by decide) (w_lt ⟨_,rfl,λ_=>?_,λ_=>?_⟩)))))))
   ·refine nS rfl (by omega) (λP hP=>?_) λr=>?_
    ·exact bc (bK (ac (aD rfl (ac (bQ (ac (aD rfl (aj (gf aq (aj (pi λr=>aU (w_mod (by decide) (hP _)))))))))))))
    exact aN (bj (aN (cv ⟨⟨_,_,rfl⟩,fin r⟩)))
   ·refine cZ (bD (aD rfl (aU (wQ ⟨_,rfl,λ_=>?_,λ_=>?_⟩))))
    ·refine nS rfl (by omega) (λP hP=>?_) λr=>?_
     ·exact bc (aD rfl (aU (w_mod (by decide) (hP _))))
     exact a_ (bc (aD rfl (aU (cG (by decide) (aN (bj (aN (bj (aN (cv ⟨⟨_,_,rfl⟩,fin r⟩))))))))))
    ·exact aN (bj (aN (bj (aN (cv ⟨⟨_,_,rfl⟩,zs,rfl,by omega⟩)))))
  ·obtain⟨⟨b2,c2,rfl⟩,hM2⟩:=hJ;rw[bH] at hM2;exact bj (aN (cv ⟨⟨_,_,_,rfl⟩,hM2⟩))
 ·obtain⟨⟨a,b,c,rfl⟩,zs,rfl,hzs⟩:=hI;rw[List.length_map] at hzs;refine bj (wM (λm' loc st'=>∃zs:List Int,st'=st++[.lst (zs.map .int)]/\zs.length<=3000/\m'=200 - zs.length/\loc=[some (.ref n),some (.int 200),some (.ref st.length),a,b,c]) (200 - zs.length) (by omega) ⟨zs,rfl,by omega,rfl,rfl⟩ λm' loc st2 hI=>?_)
  obtain⟨ys,rfl,hy,rfl,rfl⟩:=hI;refine bD (bQ (ac (aD rfl (aj (gf aq (aD rfl (w_lt ⟨_,rfl,λhz=>?_,λhz=>?_⟩)))))))
  ·have hz:((ys.map D.int).length:Int)<200:=of_decide_eq_true hz;rw[List.length_map] at hz;refine⟨200 - ys.length - 1,by omega,?_⟩
   refine nS rfl (by omega) (λP hP=>?_) λr=>?_
   ·exact bc (bK (ac (bQ (ac (aD rfl (aj (gf aq (ac (aD rfl (aj (pi λr=>aU (w_mod (by decide) (hP _)))))))))))))
   exact aN (cv ⟨ys++[r],rfl,by simp;omega,by simp;omega,rfl⟩)
  ·refine bh (jh (aD rfl (aD rfl ⟨_,rfl,rH aq (bg (h _ _ ?_ ((Gr.one _ _).more _)))⟩)));refine⟨((ys.drop (HT.cu (ys.map D.int).length 0 none)).take (HT.cu (ys.map D.int).length (ys.map D.int).length (some 200) - HT.cu (ys.map D.int).length 0 none)),?_⟩;rw[aq];unfold cutD;rw[List.map_take,List.map_drop]
end
structure Dc(l s n g b m:Nat)(st0 st:aP)(nm gv bl:List (Key×D)):Prop where
 lf:Lf st l
 od:Od st s
 an:st[n]? =some (.dct nm)
 ag:st[g]? =some (.dct gv)
 ab:st[b]? =some (.dct bl)
 on:we nm
 og:rq gv
 ob:rq bl
 ne:(n≠l/\n≠s/\g≠l/\g≠s/\b≠l/\b≠s)/\n≠g/\n≠b/\g≠b
 ex:∀i o,st0[i]? =some o->i≠l->i≠s->st[i]? =some o
 lo:st0.length<=n/\st0.length<=g/\st0.length<=b
 few:nm.length<=m/\gv.length<=m/\bl.length<=m
theorem Dc.dr{g b:Nat}{st0:aP}(h:Dc l s n g b m st0 st nm gv bl)(D1:Dr l s st st1):Dc l s n g b m st0 st1 nm gv bl:=by obtain⟨⟨a1,a2,a3,a4,a5,a6⟩,a7,a8,a9⟩:=h.ne;exact⟨D1.lf,D1.od,D1.at h.an a1 a2,D1.at h.ag a3 a4,D1.at h.ab a5 a6,h.on,h.og,h.ob,h.ne,λi o e x1 x2=>D1.at (h.ex i o e x1 x2) x1 x2,h.lo,h.few⟩
theorem lA(h:∀p∈kvs,(∃i,p.1=Sum.inl i)/\P p.2)(hv:P v):∀p∈bS kvs (.inl i) v,(∃i,p.1=Sum.inl i)/\P p.2:=λp hp=>by
 rcases pB hp with hp|rfl|⟨e,q,hq,e2⟩
 ·exact h p hp
 ·exact⟨⟨i,rfl⟩,hv⟩
 ·rw[<-e2,e];exact⟨(h q hq).1,hv⟩
section
variable{k l s n g b m:Nat}{st0 st:aP}{nm gv bl:List (Key×D)}
theorem Dc.sn(h:Dc l s n g b m st0 st nm gv bl)(hv:Opd v):Dc l s n g b (m+1) st0 (st.set n (.dct (bS nm (.inl i) v))) (bS nm (.inl i) v) gv bl:=by
 obtain⟨⟨a1,a2,a3,a4,a5,a6⟩,a7,a8,a9⟩:=h.ne;obtain⟨f1,f2,f3⟩:=h.few;have pl:=gH (kvs:=nm) (k:= .inl i) (v:=v);refine⟨?_,?_,cn (au h.an).1,K21.sn h.ag a7,K21.sn h.ab a8,lA h.on hv,h.og,h.ob,h.ne,λi o e x1 x2=>K21.sn (h.ex i o e x1 x2) (by have:=(au e).1;have:=h.lo;omega),h.lo,by omega,by omega,by omega⟩
 ·obtain⟨ns,e⟩:=h.lf;exact⟨ns,K21.sn e a1⟩
 ·obtain⟨cc,h0,e⟩:=h.od;exact⟨cc,h0,K21.sn e a2⟩
theorem Dc.sg{j:Int}(h:Dc l s n g b m st0 st nm gv bl):Dc l s n g b (m+1) st0 (st.set g (.dct (bS gv (.inl i) (.int j)))) nm (bS gv (.inl i) (.int j)) bl:=by
 obtain⟨⟨a1,a2,a3,a4,a5,a6⟩,a7,a8,a9⟩:=h.ne;obtain⟨f1,f2,f3⟩:=h.few;have pl:=gH (kvs:=gv) (k:= .inl i) (v:= .int j);refine⟨?_,?_,K21.sn h.an (Ne.symm a7),cn (au h.ag).1,K21.sn h.ab a9,h.on,lA (P:=λd=>∃i,d=.int i) h.og ⟨j,rfl⟩,h.ob,h.ne,λi o e x1 x2=>K21.sn (h.ex i o e x1 x2) (by have:=(au e).1;have:=h.lo;omega),h.lo,by omega,by omega,by omega⟩
 ·obtain⟨ns,e⟩:=h.lf;exact⟨ns,K21.sn e a3⟩
 ·obtain⟨cc,h0,e⟩:=h.od;exact⟨cc,h0,K21.sn e a4⟩
theorem Dc.sb{j:Int}(h:Dc l s n g b m st0 st nm gv bl):Dc l s n g b (m+1) st0 (st.set b (.dct (bS bl (.inl i) (.int j)))) nm gv (bS bl (.inl i) (.int j)):=by
 obtain⟨⟨a1,a2,a3,a4,a5,a6⟩,a7,a8,a9⟩:=h.ne;obtain⟨f1,f2,f3⟩:=h.few;have pl:=gH (kvs:=bl) (k:= .inl i) (v:= .int j);refine⟨?_,?_,K21.sn h.an (Ne.symm a8),K21.sn h.ag (Ne.symm a9),cn (au h.ab).1,h.on,h.og,lA (P:=λd=>∃i,d=.int i) h.ob ⟨j,rfl⟩,h.ne,λi o e x1 x2=>K21.sn (h.ex i o e x1 x2) (by have:=(au e).1;have:=h.lo;omega),h.lo,by omega,by omega,by omega⟩
 ·obtain⟨ns,e⟩:=h.lf;exact⟨ns,K21.sn e a5⟩
 ·obtain⟨cc,h0,e⟩:=h.od;exact⟨cc,h0,K21.sn e a6⟩
theorem Dc.up{m':Nat}(h:Dc l s n g b m st0 st nm gv bl)(hm:m<=m'):Dc l s n g b m' st0 st nm gv bl:=by
 obtain⟨f1,f2,f3⟩:=h.few;exact⟨h.lf,h.od,h.an,h.ag,h.ab,h.on,h.og,h.ob,h.ne,h.ex,h.lo,by omega,by omega,by omega⟩
theorem pT:∀{o:Nat}{ks:List D}{x:D},x∈vE o ks->∃i kd,x=.tup [.int i,kd]
 |o,d::ks,x,h=>by
  rw[gQ] at h;rcases List.mem_cons.mp h with rfl|h
  ·exact⟨_,_,rfl⟩
  ·exact pT h
theorem va{bs:List D}{gg:D}{Q:D->aP->Prop}(hl:Lf st l)(ho:Od st s)(hk:ks.length<=40)(hb:bs.length<=1000)(h:∀n g b nm gv bl st1,Dc l s n g b 2000 st st1 nm gv bl->Q (.tup [.ref n,.ref g,.ref b]) st1):Wv (calls tab (k+2) lU [.ref l,.tup [.tup tk,gg,.tup (kp ks),.tup bs]] st) Q:=by
 walk_at "call0"
 refine a_ (fi (a_ (fi (a_ (fi ?_)))));have e1:(st++[O.dct []]).length=st.length+1:=by simp
 have e2:(st++[O.dct []]++[O.dct []]).length=st.length+2:=by simp
 have nn:=cL hl ho;have n1:=cL (hl.gr (.one st (.dct []))) (ho.gr (.one st (.dct [])));have n2:=cL (hl.gr ((Gr.one st (.dct [])).more (.dct []))) (ho.gr ((Gr.one st (.dct [])).more (.dct [])));have g3:=((Gr.one st (.dct [])).more (.dct [])).more (.dct [])
 have C:Dc l s st.length (st++[O.dct []]).length (st++[O.dct []]++[O.dct []]).length 0 st (st++[O.dct []]++[O.dct []]++[O.dct []]) [] [] []:=
  ⟨hl.gr g3,ho.gr g3,aL (aL aq),aL aq,aq,(λ_ h=>nomatch h),(λ_ h=>nomatch h),(λ_ h=>nomatch h),⟨⟨nn.1,nn.2,n1.1,n1.2,n2.1,n2.2⟩,by omega,by omega,by omega⟩,λi o e _ _=>g3.at e,⟨ah _,by omega,by omega⟩,by simp⟩
 generalize st++[O.dct []]++[O.dct []]++[O.dct []]=st3 at C;generalize (st++[O.dct []]++[O.dct []]).length=b at C;generalize (st++[O.dct []]).length=g at C;generalize st.length=n at C;have hkl:(kp ks).length=ks.length:=by simp[vE]
 refine gx (bo (aD rfl (aU (bw rfl ⟨_,rfl,?_⟩))));refine cx (L:=kp ks) (ah _) (λi loc st'=>∃nm gv bl,Dc l s n g b (2*i) st st' nm gv bl/\∃x5 x6 x7,loc=[some (.ref l),some (.tup [.tup tk,gg,.tup (kp ks),.tup bs]),some (.ref n),some (.ref g),some (.ref b),x5,x6,x7,none]) ⟨[],[],[],C,_,_,_,rfl⟩ (λ_ _ _ _=>rfl) (λi z loc st' hz hI=>?_) λloc st' hI=>?_
 ·obtain⟨nm,gv,bl,C,x5,x6,x7,rfl⟩:=hI;obtain⟨j,kd,rfl⟩:=pT (ak hz);have hi:=(au hz).1;rw[hkl] at hi;refine fQ rfl (a_ (bK (ac (aD rfl (aj (dw C.lf C.od λw st4 D4=>?_))))));have C4:=C.dr D4
  have two:∀{st5:aP}{nm:List (Key×D)}{x5 x6:Option D},Dc l s n g b (2*i+1) st st5 nm gv bl->x5=some (.int j)->W (execs (calls tab (k+1)) [.ite (.cmp .Eq (.bin .mod (.v 7) (.c (.int (3)))) (.c (.int (1)))) [.setix (.v 3) (.v 5) (.v 7)] []] [some (.ref l),some (.tup [.tup tk,gg,.tup (kp ks),.tup bs]),some (.ref n),some (.ref g),some (.ref b),x5,x6,some (.int w),none] st5) (Kf (λloc st'=>∃nm gv bl,Dc l s n g b (2*(i+1)) st st' nm gv bl/\∃x5 x6 x7,loc=[some (.ref l),some (.tup [.tup tk,gg,.tup (kp ks),.tup bs]),some (.ref n),some (.ref g),some (.ref b),x5,x6,x7,none]) (Kn (calls tab (k+1)) [.for_ 8 true (.bt .len [.ix (.v 1) (.c (.int (3)))]) [.set 7 (.fn 5 [(.v 0)]),.ite (.cmp .Eq (.bin .mod (.v 7) (.c (.int (2)))) (.c (.int (0)))) [.setix (.v 4) (.v 8) (.bin .mod (.bin .fdiv (.v 7) (.c (.int (2)))) (.c (.int (20))))] []],.ret (.tup [(.v 2),(.v 3),(.v 4)])] (Kr Q))):=λ{st5 nm x5 x6} C5 h5=>by
   subst h5;refine cZ (bD (bc (aD rfl (aU (w_mod (by decide) (aU (f7 ⟨_,rfl,λ_=>?_,λ_=>?_⟩)))))))
   ·refine cX (aD rfl (aD rfl (aD rfl (b9 C5.ag rfl (by have:=C5.few;omega) (aN (bj (aN (cv ⟨_,_,_,C5.sg,_,_,_,rfl⟩))))))))
   ·exact aN (bj (aN (cv ⟨_,_,_,C5.up (by omega),_,_,_,rfl⟩)))
  refine cZ (bD (bc (aD rfl (aU (w_mod (by decide) (aU (f7 ⟨_,rfl,λ_=>?_,λ_=>aN (bj (two (C4.up (by omega)) rfl))⟩)))))))
  refine cX (bo (bN (ac (aW (ac (aU (ac (bc (bc (aD rfl (aU (cG (by decide) (aU (w_mod (by decide) (aj ?_)))))))))))))))
  refine ac (aW (ac (aU (ac (aD rfl (aj (ac (aW (ac (aU (ac (aU (aj (ac (aW (ac (aU (ac (aD rfl (aj (aj ?_)))))))))))))))))))));refine bc (bc (aD rfl (aU (cG (by decide) (aU (w_mod (by decide) (gd aq (by decide) (by simp) λx hx=>?_)))))))
  have hop:Opd x:=sS (P:=Opd) (bz (.nm _) (bz (.num _) (bz (.tr _) (bz (.nm _) b0)))) hx;have C5:=C4.dr (.of C4.lf C4.od (.one st4 (.lst [.tup [.str "name",.int (w / 3 % 40)],.tup [.str "num",.int w],.tup [.str "truth",.bl true],.tup [.str "name",.int j]])));refine aD rfl (aD rfl (b9 C5.an rfl (by have:=C5.few;omega) (aN (bj (two (C5.sn hop) rfl)))))
 ·obtain⟨nm,gv,bl,C,x5,x6,x7,rfl⟩:=hI;rw[hkl] at C;refine bj (ej (bQ (ac (bo (aD rfl (aU (bw rfl (aj (rM ⟨_,cy (by omega),?_⟩)))))))))
  have hrl:(bL (Int.toNat (bs.length:Int))).length=bs.length:=by rw[bH];rfl
  refine cx (L:=bL (Int.toNat (bs.length:Int))) (ah _) (λi loc st'=>∃bl,Dc l s n g b (100+i) st st' nm gv bl/\∃x7 x8,loc=[some (.ref l),some (.tup [.tup tk,gg,.tup (kp ks),.tup bs]),some (.ref n),some (.ref g),some (.ref b),x5,x6,x7,x8]) ⟨bl,C.up (by omega),_,_,rfl⟩ (λ_ _ _ _=>rfl) (λi z loc st' hz hI=>?_) λloc st' hI=>?_
  ·obtain⟨bl,C,x7,x8,rfl⟩:=hI;have hi:=(au hz).1;rw[hrl] at hi
   have hzi:∃j:Int,z=.int j:=by obtain⟨j,_,rfl⟩:=List.mem_map.mp (show z∈(List.range _).map _ from ak hz);exact⟨_,rfl⟩
   obtain⟨j,rfl⟩:=hzi;refine a_ (bK (ac (aD rfl (aj (dw C.lf C.od λw st4 D4=>?_)))));have C4:=C.dr D4;refine cZ (bD (bc (aD rfl (aU (w_mod (by decide) (aU (f7 ⟨_,rfl,λ_=>?_,λ_=>?_⟩)))))))
   ·refine cX (bc (bc (aD rfl (aU (cG (by decide) (aU (w_mod (by decide) (aD rfl (aD rfl (b9 C4.ab rfl (by have:=C4.few;omega) (aN (bj (aN (cv ⟨_,C4.sb,_,_,rfl⟩))))))))))))))
   ·exact aN (bj (aN (cv ⟨_,C4.up (by omega),_,_,rfl⟩)))
  ·obtain⟨bl,C,x7,x8,rfl⟩:=hI;rw[hrl] at C;exact bj (bh (aW (ac (aD rfl (ac (aD rfl (ac (aD rfl (aj (bg (h n g b nm gv bl st' (C.up (by omega)))))))))))))
end
theorem oT{i:Nat}(hi:st[i]? =some (.dct kvs))(hj:st[j]? =some (.dct kvs))(hk:∀p∈kvs,(∃i,p.1=Sum.inl i)/\Sm m p.2)(hm:m<n):dj (n+1) st (.ref i) (.ref j)=some true:=by
 unfold dj;simp only[shape,hi,hj]
 have hall:(kvs.map (·.1)).all tI=true:=by rw[List.all_eq_true];intro x hx;obtain⟨p,hp,rfl⟩:=List.mem_map.mp hx;obtain⟨⟨i,e⟩,_⟩:=hk p hp;rw[e];rfl
 rw[if_pos ⟨trivial,hall⟩];refine jO n _ (lD λx hx=>?_) (Nat.lt_of_le_of_lt (l_ λx hx=>?_) hm)
 ·obtain⟨p,hp,rfl⟩:=List.mem_map.mp hx;exact(hk p hp).2.1
 ·obtain⟨p,hp,rfl⟩:=List.mem_map.mp hx;exact(hk p hp).2.2
theorem oI{f:D->D->Option Bool}{i:Nat}(h:f (.ref i) (.ref j)=some true):mn f (.ref i) (.ref j)=some true:=by
 unfold mn;dsimp only;split
 ·rfl
 ·exact h
theorem BlkD.sm{ps:List D}(h:BlkD ps rows x):Sm 7 (.tup [.tup ps,.tup rows,x]):=by
 refine .tup (bz ?_ (bz ?_ (bz h.e.sm b0)))
 ·exact Sm.mono (.tup (m:=0) λp hp=>by
   obtain⟨i,rfl⟩:=h.p.1 p hp;exact fm) (by decide)
 ·exact Sm.mono (.tup (m:=3) λr hr=>(h.r r hr).sm) (by decide)
theorem zT(h:uA ks):Sm 3 (.tup (kp ks)):= .tup λx hx=>by
 have:∀{o:Nat}{ks:List D},uA ks->∀x∈vE o ks,Sm 2 x:=by
  intro o ks
  induction ks generalizing o with
  |nil=>intro _ x hx;cases hx
  |cons d ks ih=>
   intro h x hx;rw[gQ] at hx;rcases List.mem_cons.mp hx with rfl|hx
   ·exact .tup (all2 fm (h d (.head _)).sm)
   ·exact ih (λy hy=>h y (.tail _ hy)) x hx
 exact this h x hx
theorem uR{bs:List D}(h1:uA tk)(h2:uA ks)(h3:uE bs):Sm 9 (.tup [.tup tk,kN,.tup (kp ks),.tup bs]):=by
 refine .tup (bz ?_ (bz ?_ (bz ?_ (bz ?_ b0))))
 ·exact Sm.mono (.tup (m:=1) λx hx=>(h1 x hx).sm) (by decide)
 ·exact io.sm.mono (by decide)
 ·exact(zT h2).mono (by decide)
 ·exact .tup λb hb=>by obtain⟨ps,rows,x,rfl,h⟩:=h3.1 b hb;exact h.sm
section
variable{k:Nat}{st:aP}{Q:D->aP->Prop}{ns:List Int}
theorem rR{b:Nat}(hn:st[n]? =some (.dct nm))(hc:st[c]? =some (.dct gv))(hb:st[b]? =some (.dct bl))(h:∀st1,st1=st++[.dct nm]++[.dct gv]++[.dct bl]->Q (.ref st1.length) (st1++[.lst [.ref st.length,.ref (st.length+1),.ref (st.length+2)]])):W (ce (λx=>ba (run g (.bt .dict [.v 0]) (some x::loc)) λy=>ret (some y)) (.its [.ref n,.ref c,.ref b]) st) Q:=by
 have e1:(st++[O.dct nm]).length=st.length+1:=by simp
 have e2:(st++[O.dct nm]++[O.dct gv]).length=st.length+2:=by simp
 refine et (L:=[.ref n,.ref c,.ref b]) (show 3<=1000000 by decide) (ah _) (λi acc st'=>match i with
  |0=>acc=[]/\st'=st
  |1=>acc=[.ref st.length]/\st'=st++[.dct nm]
  |2=>acc=[.ref st.length,.ref (st.length+1)]/\st'=st++[.dct nm]++[.dct gv]
  |_=>acc=[.ref st.length,.ref (st.length+1),.ref (st.length+2)]/\st'=st++[.dct nm]++[.dct gv]++[.dct bl]) ⟨rfl,rfl⟩ (λ_ _ _ _=>rfl) (λi x acc st' hx hI=>?_) λacc st' hI=>?_
 ·match i,hx,hI with
  |0,hx,hI=>obtain⟨rfl,rfl⟩:=hI;cases hx;exact c0 (bQ (ac (aD rfl (aj (em hn ⟨rfl,rfl⟩)))))
  |1,hx,hI=>
   obtain⟨rfl,rfl⟩:=hI;cases hx;exact c0 (bQ (ac (aD rfl (aj (em (aL hc) ⟨by rw[e1];rfl,rfl⟩)))))
  |2,hx,hI=>
   obtain⟨rfl,rfl⟩:=hI;cases hx;exact c0 (bQ (ac (aD rfl (aj (em (aL (aL hb)) ⟨by rw[e2];rfl,rfl⟩)))))
  |i+3,hx,hI=>simp at hx
 ·obtain⟨rfl,rfl⟩:=hI;exact h _ rfl
theorem zy(hns:ns.length<=63)(h:∀st1,Q (.bl true) st1):Wv (calls tab (k+6) Ab [.fl (ns.map .int)] st) Q:=by
 walk_at "call0"
 refine a_ (bK (ac (jh (aD rfl (aU ⟨_,rfl,y8 (ac (aU (aj ?_)))⟩)))))
 have hcut:∃cs:List Int,cutD (ns.map D.int) none (some 62)=cs.map .int/\cs.length<=63:=by
  refine⟨((ns.drop (HT.cu (ns.map D.int).length 0 none)).take (HT.cu (ns.map D.int).length (ns.map D.int).length (some 62) - HT.cu (ns.map D.int).length 0 none)),?_,?_⟩
  ·unfold cutD;rw[List.map_take,List.map_drop]
  ·rw[List.length_take,List.length_drop];omega
 obtain⟨cs,hcs,hcl⟩:=hcut;rw[hcs];refine qv (k:=k+3) aq hcl λl st1 hl1 g1=>?_;refine a_ (bK (ac (aD rfl (ac (wR (ac (aU (ac (aU (aj ⟨⟨rfl,by decide⟩,aj ?_⟩))))))))))
 have hl2:=hl1.gr (.one st1 (.dct [(.inr "count",.int 0),(.inr "at",.int 0)]));refine oa (k:=k) hl2 (s:=st1.length) ⟨0,by decide,aq⟩ λtk ks bs st3 htk htl hks hkl hbs hl3 ho3=>?_
 generalize st1.length=s at ho3 hl2;refine a_ (bK (ac (aD rfl (aj (xg (k:=k+2) hbs λm rs st4 F4 g4=>?_)))));refine a_ (bK (ac (aD rfl (ac (aD rfl (aj (va (k:=k+3) (hl3.gr g4) (ho3.gr g4) (by omega) hbs.2 λn c b nm gv bl st5 C=>?_)))))))
 have F5:FnAt st5 m tk kN ks rs bs:=by
  have hK:Kp st4 st5:=λi cl fs e=>C.ex i _ e (λz=>by
   subst z;obtain⟨ns,e1⟩:=hl3.gr g4;rw[e1] at e;cases e) λz=>by
   subst z;obtain⟨cc,_,e1⟩:=ho3.gr g4;rw[e1] at e;cases e
  obtain⟨⟨a,b',q1,q2⟩,q3⟩:=F4;refine⟨⟨a,b',hK _ _ _ q1,C.ex b' _ q2 (λz=>?_) λz=>?_⟩,q3.kp hK⟩
  ·subst z;obtain⟨ns,e1⟩:=hl3.gr g4;rw[e1] at q2;cases q2
  ·subst z;obtain⟨cc,_,e1⟩:=ho3.gr g4;rw[e1] at q2;have e3:=ai q2;injection e3 with e3;obtain⟨i,e4,_⟩:=lI 0 ks (.inr "count",.int cc) (by show _∈kk ks;rw[<-e3];exact .head _)
   cases e4
 refine a_ (dP (aD rfl ⟨_,rfl,rR C.an C.ag C.ab λst6 hst6=>?_⟩));have g6:Gr st5 st6:=by rw[hst6];exact((Gr.one _ _).more _).more _
 have k1:st6[st5.length]? =some (.dct nm):=by rw[hst6];exact aL (aL aq)
 have k2:st6[st5.length+1]? =some (.dct gv):=by
  rw[hst6,show st5.length+1=(st5++[O.dct nm]).length by simp]
  exact aL aq
 have k3:st6[st5.length+2]? =some (.dct bl):=by
  rw[hst6,show st5.length+2=(st5++[O.dct nm]++[O.dct gv]).length by simp]
  exact aq
 clear hst6;have g7:=g6.more (.lst [.ref st5.length,.ref (st5.length+1),.ref (st5.length+2)]);have k4:(st6++[O.lst [.ref st5.length,.ref (st5.length+1),.ref (st5.length+2)]])[st6.length]? =some (.lst [.ref st5.length,.ref (st5.length+1),.ref (st5.length+2)]):=aq;have g6':=Gr.one st6 (.lst [.ref st5.length,.ref (st5.length+1),.ref (st5.length+2)]);generalize hL:st5.length=L at k1 k2 k3 k4 g7 g6';generalize st6++[O.lst [.ref L,.ref (L+1),.ref (L+2)]]=st7 at g7 k4 g6'
 have F7:∀{st':aP},Gr st7 st'->FnAt st' m tk kN ks rs bs:=λ{st'} g=>by obtain⟨⟨a,b',q1,q2⟩,q3⟩:=F5;exact⟨⟨a,b',(g7.trans g).at q1,(g7.trans g).at q2⟩,q3.kp (nN (g7.trans g))⟩
 obtain⟨a,b',q1,q2⟩:=(F7 (.refl _)).ins;refine k5 (aZ (aD rfl (Ah q1 4 rfl (bo (aD rfl (aU (bw rfl ?_)))))));refine cx (L:=j6 (rs.map .ref) bs) (jf _ _) (λ_ loc st'=>Gr st7 st'/\∃a6 a7,loc=[some (.fl (ns.map .int)),some (.ref l),some (.tup [.tup tk,kN,.tup (kp ks),.tup bs]),some (.ref m),some (.tup [.ref n,.ref c,.ref b]),some (.ref st6.length),a6,a7]) ⟨.refl _,_,_,rfl⟩ (λ_ _ _ _=>sT) (λi z loc st' hz hI=>?_) λloc st' hI=>?_
 ·obtain⟨g8,a6,a7,rfl⟩:=hI;obtain⟨p,d,e1,e2,rfl⟩:=mo hz;rw[aB] at e1;cases e3:rs[i]? with
  |none=>rw[e3] at e1;cases e1
  |some r=>rw[e3] at e1;cases e1;obtain⟨ps,rows,x,qs,e,rfl,hd,hB⟩:=(F7 g8).bl.2 i r d e3 e2;refine fQ rfl (mx (w_not (bK (ac (aD rfl (ac (aD rfl (ac (aD rfl (aj ?_))))))))));have g9:=g7.trans g8;refine Wv.mono (u8 hd hB (g9.at C.an) (g9.at C.ag) (g9.at C.ab) C.on C.og C.ob) λy st9 q=>?_;obtain⟨rfl,g10⟩:=q;exact⟨_,rfl,rfl,aN (cv ⟨g8.trans g10,_,_,rfl⟩)⟩
 ·obtain⟨g8,a6,a7,rfl⟩:=hI;refine bj (bh (w_and (bD (bQ (ac (aD rfl (aj (fO (aD rfl ?_)))))))));have g9:=g8.more (.lst [.ref n,.ref c,.ref b]);have gA:=g7.trans g9;have gB:=(g6'.trans g9);refine w_eq (k:=true) ?_ ⟨_,rfl,λ_=>?_,nofun⟩
  ·unfold dj;simp only[shape,aq,g9.at k4];have t1:=oT (n:=58) (m:=1) (gA.at C.an) (gB.at k1) (λp hp=>⟨(C.on p hp).1,(C.on p hp).2.sm⟩) (by decide)
   have nu:∀{kvs:List (Key×D)},rq kvs->∀p∈kvs,(∃i,p.1=Sum.inl i)/\Sm 1 p.2:=λh p hp=>⟨(h p hp).1,by obtain⟨_,j,e⟩:=h p hp;rw[e];exact fm⟩
   have t2:=oT (n:=58) (m:=1) (gA.at C.ag) (gB.at k2) (nu C.og) (by decide)
   have t3:=oT (n:=58) (m:=1) (gA.at C.ab) (gB.at k3) (nu C.ob) (by decide)
   show dF (mn (dj 59 _)) _ _=_;simp only[dF,oI t1,oI t2,oI t3];rfl
  ·obtain⟨a2,b2,w1,w2⟩:=(F7 g9).ins;refine w_and (bD (fh (aD rfl ⟨_,_,_,48,rfl,w1,rfl,rfl,aj ?_⟩)));refine Wv.mono (qw (k:=k+2) (by omega) hbs.2 (F7 g9)) λy st9 q=>?_
   obtain⟨rfl,g10⟩:=q;refine aD rfl (w_eq (uR htk hks hbs).eq ⟨_,rfl,λ_=>?_,nofun⟩);refine bD (bK (ac (aW (ac (aU (ac (aU (aj (ac (fi (aj ?_)))))))))));refine dg (.inl rfl) (.nm 5) aq ?_;rw[lP (.nm 5)];exact aW (ac (aU (ac (aU (aj (w_eq (Opd.nm 5).sm.eq (bg (h _))))))))
end
end K21
namespace K21
noncomputable def top(i:Nat):Stmt:=PySem.Challenge.pw_eachstepsame_k21_put_otherwise.main.body.getD i (.Pass ⟨0,0,0,0⟩)
noncomputable def meth(i j:Nat):Stmt:=match top i with| .ClassDef _ _ _ body _ _ _ _ _ _ _=>body.getD j (.Pass ⟨0,0,0,0⟩)|s=>s
noncomputable def names:List Str:=(["image","images","edge_image","_law_mixed","_law_numbers","_law_take","_law_odd","_law_operand","_law_row_kinds","_law_drawn_row","_law_edge","_law_end","_law_backward","_law_function","_law_made_end","_law_made","_law_image","_law_edge_image","_law_row_image","_law_end_image","_law_dicts","_law_block_right","law"]:List Str)++([]:List Str)
noncomputable def csts:List (Str×D):=[]
noncomputable def T:Tab:=⟨names,csts,true,[⟨"Row",["name","op","extra","operands"],[("moved",25),("told",24)]⟩,⟨"Jump",["edge"],[("edges",30),("moved",29),("told",28)]⟩,⟨"Branch",["test","yes","no"],[("edges",34),("moved",33),("told",32)]⟩,⟨"Back",["operand"],[("edges",26),("moved",37),("told",36)]⟩,⟨"Raise",["fault"],[("edges",26),("moved",40),("told",39)]⟩,⟨"Risk",["op","extra","asked","edge","catches"],[("edges",44),("moved",43),("told",42)]⟩,⟨"Block",["params","rows","end"],[("told",46)]⟩,⟨"Function",["takes","gives","kinds","kept_kinds","blocks"],[("told",48)]⟩],[("Row",23),("Jump",27),("Branch",31),("Back",35),("Raise",38),("Risk",41),("Block",45),("Function",47)],["Row"]⟩
noncomputable def R1(x:Str)(ps more:List Str)(i:Nat)(f:Fn):Rec:=⟨x,x,x,ps,ps++more,top i,f⟩
noncomputable def R2(m q:Str)(ps more:List Str)(i j:Nat)(f:Fn):Rec:=⟨q,m,q,ps,ps++more,meth i j,f⟩
noncomputable def bq:List Rec:=[R1 "image" ["operand","names"] [] 2 gW,R1 "images" ["operands","names"] [] 3 jN,R1 "edge_image" ["edge","names","blocks"] [] 4 eD,R1 "_law_mixed" ["_law_cell","_law_k"] ["_law_number"] 16 eE,R1 "_law_numbers" ["_law_cells","_law_many"] ["_law_found","_law_cell","_law_left","_law_k"] 17 dC,R1 "_law_take" ["_law_left"] [] 18 fw,R1 "_law_odd" ["_law_state"] [] 19 gk,R1 "_law_operand" ["_law_left","_law_state","_law_seen","_law_kind"] ["_law_way","_law_some"] 20 dB,R1 "_law_row_kinds" ["_law_way","_law_seen"] ["_law_num","_law_truth","_law_pair","_law_some"] 21 cR,R1 "_law_drawn_row" ["_law_left","_law_state","_law_seen","_law_kinds"] ["_law_way","_law_op","_law_extra","_law_takes","_law_gives","_law_operands","_law_some","_law_name"] 22 cV,R1 "_law_edge" ["_law_left","_law_state","_law_seen","_law_params","_law_number","_law_skip"] ["_law_wanted","_law_args"] 23 fB,R1 "_law_end" ["_law_left","_law_state","_law_seen","_law_params","_law_here"] ["_law_way","_law_many","_law_next_one","_law_other","_law_first","_law_test","_law_catches","_law_wanted_of","_law_edge_here","_law_name"] 24 gl,R1 "_law_backward" ["_law_end_here","_law_here"] ["_law_found"] 25 c8,R1 "_law_function" ["_law_left","_law_state"] ["_law_many","_law_kinds","_law_params","_law_k","_law_takes","_law_number","_law_way","_law_kind","_law_blocks","_law_entry","_law_seen","_law_name","_law_rows","_law_end_here"] 26 c7,R1 "_law_made_end" ["_law_end_here"] [] 27 c6,R1 "_law_made" ["_law_told"] ["_law_takes","_law_gives","_law_kinds","_law_blocks","_law_found","_law_params","_law_rows","_law_end_here","_law_some"] 28 fA,R1 "_law_image" ["_law_operand_here","_law_names"] [] 29 eF,R1 "_law_edge_image" ["_law_edge_here","_law_names","_law_blocks"] ["_law_number"] 30 cN,R1 "_law_row_image" ["_law_row","_law_names","_law_given"] ["_law_name"] 31 cT,R1 "_law_end_image" ["_law_end_here","_law_names","_law_blocks"] ["_law_edges","_law_wanted_of","_law_catches"] 32 cU,R1 "_law_dicts" ["_law_left","_law_told"] ["_law_names","_law_given","_law_blocks","_law_name","_law_kind","_law_way","_law_number"] 33 eG,R1 "_law_block_right" ["_law_block","_law_told","_law_dicts_here"] ["_law_names","_law_given","_law_blocks","_law_params","_law_rows","_law_end_here","_law_row","_law_due","_law_found","_law_operand_here","_law_edge_here","_law_with_result"] 34 cA,R1 "law" ["_law_script"] ["_law_left","_law_told","_law_function_here","_law_dicts_here","_law_kept","_law_block","_law_due"] 35 tZ,R2 "__init__" "Row.__init__" ["self","name","op","extra","operands"] [] 5 0 gn,R2 "told" "Row.told" ["self"] [] 5 1 gm,R2 "moved" "Row.moved" ["self","names","given"] [] 5 2 fC,R2 "edges" "End.edges" ["self"] [] 6 0 fH,R2 "__init__" "Jump.__init__" ["self","edge"] [] 7 0 fG,R2 "told" "Jump.told" ["self"] [] 7 1 fF,R2 "moved" "Jump.moved" ["self","names","blocks"] [] 7 2 eM,R2 "edges" "Jump.edges" ["self"] [] 7 3 eN,R2 "__init__" "Branch.__init__" ["self","test","yes","no"] [] 8 0 dU,R2 "told" "Branch.told" ["self"] [] 8 1 dS,R2 "moved" "Branch.moved" ["self","names","blocks"] ["yes"] 8 2 dD,R2 "edges" "Branch.edges" ["self"] [] 8 3 dE,R2 "__init__" "Back.__init__" ["self","operand"] [] 9 0 fJ,R2 "told" "Back.told" ["self"] [] 9 1 fI,R2 "moved" "Back.moved" ["self","names","blocks"] [] 9 2 eQ,R2 "__init__" "Raise.__init__" ["self","fault"] [] 10 0 eL,R2 "told" "Raise.told" ["self"] [] 10 1 eK,R2 "moved" "Raise.moved" ["self","names","blocks"] [] 10 2 dR,R2 "__init__" "Risk.__init__" ["self","op","extra","asked","edge","catches"] [] 11 0 fE,R2 "told" "Risk.told" ["self"] [] 11 1 fD,R2 "moved" "Risk.moved" ["self","names","blocks"] ["edge","catches"] 11 2 eI,R2 "edges" "Risk.edges" ["self"] [] 11 3 eJ,R2 "__init__" "Block.__init__" ["self","params","rows","end"] [] 12 0 eP,R2 "told" "Block.told" ["self"] [] 12 1 eO,R2 "__init__" "Function.__init__" ["self","takes","gives","kinds","blocks"] [] 13 0 c_,R2 "told" "Function.told" ["self"] ["kinds"] 13 1 c9]
noncomputable def ad:List Addr:=[28,33,40,447,454,461,468,473,480,485,490,495,500,505,512,517,524,529,534,539,546,553,558,54,61,68,89,131,138,145,152,178,185,192,199,232,239,246,272,279,286,305,312,317,322,355,360,393,398]
theorem chk:∀r∈bq,Chk T r:=by
 unfold bq
 repeat' refine List.forall_mem_cons.mpr ⟨⟨⟨rfl,rfl,rfl,by decide+kernel,rfl,by decide+kernel,by decide+kernel⟩,by decide+kernel,by kernel_rfl,rfl,by decide+kernel⟩,?_⟩
 exact λ_ h=>nomatch h
noncomputable def AM(r:Rec)(us:List Value):Prop:=∀kV doc pm an cdv ct,bindArgs (PySem.W.fnOf r.fname r.qual (dJ r.st) (cY r.st) (bW r.st) .none kV doc pm an cdv ct) ⟨us,[]⟩=pure (r.ps.zip us)
noncomputable def yR(r:Rec):Nat->List Value->Prop
 |0,us=>AM r us
 |n+1,us=>∀a,yR r n (us++[a])
theorem wL{r:Rec}:∀(n:Nat)(us vs:List Value),vs.length=n->yR r n us->AM r (us++vs)
 |0,us,[],_,h=>by rw[List.append_nil];exact h
 |n+1,us,v::vs,hl,h=>by have:=wL n (us++[v]) vs (Nat.succ.inj hl) (h v);rwa [List.append_assoc] at this
theorem bv{r:Rec}(n:Nat)(hp:r.ps.length=n)(h:yR r n []):yY r:=λkV doc pm an cdv ct us hl=>wL n [] us (hl.trans hp) h kV doc pm an cdv ct
theorem ba:∀r∈bq,yY r:=by
 unfold bq
 repeat' refine List.forall_mem_cons.mpr ⟨by first|(refine bv 1 (by rfl) ?_;exact λ_ _ _ _ _ _ _=>rfl)|(refine bv 2 (by rfl) ?_;exact λ_ _ _ _ _ _ _ _=>rfl)|(refine bv 3 (by rfl) ?_;exact λ_ _ _ _ _ _ _ _ _=>rfl)|(refine bv 4 (by rfl) ?_;exact λ_ _ _ _ _ _ _ _ _ _=>rfl)|(refine bv 5 (by rfl) ?_;exact λ_ _ _ _ _ _ _ _ _ _ _=>rfl)|(refine bv 6 (by rfl) ?_;exact λ_ _ _ _ _ _ _ _ _ _ _ _=>rfl),?_⟩
 exact λ_ h=>nomatch h
end K21
end Ev
namespace Ev.K21
open PySem PySem.Spec PyProof.Rows L2
theorem BM(P:Params):ku (Op.K P) T bq ad=true:=by kernel_rfl
theorem BL(P:Params):(bq.zip ad).map (λp=>(Op.K P).lookup p.2)=(bq.zip ad).map λp=>yS p.1 ((Op.K P).lookup p.2):=by kernel_rfl
theorem B1(P:Params):vK (Op.K P) T=true:=by kernel_rfl
theorem xm(ns:List Int)(hn:ns.length<=63):∃st',calls (bq.map (·.fn)) 6 22 [.fl (ns.map .int)] []=.ok (.v (.bl true)) st':=by
 obtain⟨a,st',e,h⟩:=W.get (zy (k:=0) (st:=[]) (ns:=ns) (Q:=λd _=>d=.bl true) hn λ_=>rfl);cases a with
 |v d=>have h:d=.bl true:=h;subst h;exact⟨st',e⟩
 |x n=>exact h.elim
end Ev.K21
open PySem PySem.W PyProof.Rows
set_option maxRecDepth 100000 in
set_option maxHeartbeats 0 in
theorem PySem.Challenge.cw_eachstepsame_k21_put_otherwise_holds : PySem.Challenge.rw_eachstepsame_k21_put_otherwise.Holds := by
 w_on;o_law
 refine holds_open (q:=Op.q) (loose:=[]) (Xt:=Op.Xt) (XP:=XL Op.q []) (Yf:=Op.hk.obs) (Ya:=Op.hk.val) (YP:=Op.hk.says) (N:=7888) Op.left (Hook.of Op.hk) (Hook.keeps Op.hk) (λs e=>xl_of s (Bool.and_eq_true_iff.mp e).1) XL.keeps (by rfl) (by rfl) (by rfl) (λs e=>recFacts_of (Bool.and_eq_true_iff.mp e).2) (by rfl) (by first|assumption|decide+kernel) (by decide+kernel) ⟨rfl,rfl,rfl,rfl,rfl,by decide+kernel⟩ ?hw ?hc
 case hw=>w_witness2
 refine Ev.walk (l:=PySem.Challenge.rw_eachstepsame_k21_put_otherwise) (n:=2*6) (x:= "_law_script") rfl rfl ⟨rfl,by decide,by decide⟩ (λw h Y=>PySem.W.kIn_of (K:=Op.K) (as:=Op.as) (e:=Op.keys) Y) ?F
 case F=>
  intro w mg fa h KX G hmg;exact Ev.vC (n:=6) (li:=22) (a:=558) (r:=Ev.K21.bq[22]) KX G hmg Ev.K21.ba (Ev.K21.BM _) (Ev.K21.BL _) (Ev.qW KX G Ev.K21.chk rfl Ev.K21.ba (Ev.K21.BM _) (Ev.K21.BL _) (by decide) (Ev.K21.B1 _) rfl) rfl rfl (by kernel_rfl) rfl Ev.K21.xm
