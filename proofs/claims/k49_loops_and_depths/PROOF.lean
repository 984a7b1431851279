import PyProof.Rows.All
import Wide.All
import OpenK.AllK
import Wide.FinOn
import PyProof.EqAt
import PyProof.EqKinds
import PyProof.TupleCall
import Lean
import PyProof.NeKinds
import PyProof.NeData
import PyProof.FactsAll.dict
import PyProof.DictList
import KE.KDictList
import PyProof.DictItems
import PyProof.DictWalks
import PyProof.DictRoadsH
import PyProof.SetRoads
import PyProof.SetNew
import PySem.SetOps
import PyProof.Rows.SetFrom
import PyProof.SetScanFacts
import KE.KDictSum
import PyProof.StrOps2
import PyProof.FitsBits
import PyProof.Rows.IntMath
import PyProof.ListRange
import KE.KRevIter
import PyProof.AttrMiss
import PyProof.IsiBase
import KE.KDictOf
import PyProof.Rows.FactsT3
import PyProof.Rows.FactsT2
import PyProof.EnumFor
import PyProof.EnumMake
import PyProof.EnumStmt
import KE.KDictLaws
import PyProof.Rows.Range3
import PyProof.DictUpdate
import KE.KItemsList
import KE.KPairComp
import PyProof.DictValues
import PySem.Challenge.RW_eachstepsame_k49_loops_and_depths
set_option genSizeOf false
set_option genSizeOfSpec false
set_option maxRecDepth 100000
set_option maxHeartbeats 0
set_option Elab.async false
set_option linter.all false
noncomputable def PySem.W.Fast.tw8175697017637028699:PySem.Program:=PySem.Challenge.pw_eachstepsame_k49_loops_and_depths
theorem PySem.W.Fast.te8175697017637028699:PySem.Challenge.pw_eachstepsame_k49_loops_and_depths=PySem.W.Fast.tw8175697017637028699:=rfl
namespace Op
open PySem PySem.W PyProof.Rows PySem.Calls
noncomputable section
noncomputable def de(P:Params)(k:Str)(t:Nat)(v:Value):DictEntry:=⟨PyData.keyHash P k,.str k t,v⟩
noncomputable def tu(l:List Value):Obj:=⟨.type "tuple",none,.seq ⟨l⟩ 0,⟨[]⟩⟩
noncomputable def co(l:List Value):Obj:=⟨.type "code",none,.fields ⟨l⟩,⟨[]⟩⟩
noncomputable def ob(c:Value)(d:Data):Obj:=⟨c,none,d,⟨[]⟩⟩
noncomputable def at_:List Stmt->Nat->Stmt
 |[],_=> .Pass ⟨0,0,0,0⟩
 |s::_,0=>s
 |_::l,n+1=>at_ l n
noncomputable def inC:Stmt->List Stmt
 | .ClassDef _ _ _ b .. =>b
 |_=>[]
noncomputable def fd(s:Stmt)(qn:Str)(g:Nat)(cl:List (Str×Nat))(df kd dc pm:Value)(an:Option Nat)(cd ct:Value)(bl:Nat):Data:=match s with
 | .FunctionDef n a b _ _ _ sc _ _ _=> .func ⟨n,qn,a,.stmts b,sc,g,cl,df,kd,dc,pm,an,cd,ct,bl⟩
 |_=> .plain
noncomputable def body:List Stmt:=PySem.Challenge.pw_eachstepsame_k49_loops_and_depths.main.body
def q:Program:={PySem.Challenge.pw_eachstepsame_k49_loops_and_depths with main:={PySem.Challenge.pw_eachstepsame_k49_loops_and_depths.main with body:=(((((body.eraseIdx 26).eraseIdx 20).eraseIdx 16).eraseIdx 9).eraseIdx 1)}}
def t0:Obj:=tu []
def dr(P:Params)(k:Str)(t r:Nat):DictEntry:=de P k t (.ref r)
def ds(P:Params)(k:Str)(t:Nat)(x:Str)(u:Nat):DictEntry:=de P k t (.str x u)
def dc(n:Nat)(l:List DictEntry):Obj:=ob (.type "dict") (.dict ⟨l⟩ n)
noncomputable def lf(o:Obj):BT:= .node o .nil .nil
def n7(a b c d e f g:Obj):BT:= .node a (.node b (lf c) (lf d)) (.node e (lf f) (lf g))
def H0(a:Str)(b:Nat)(c:Int)(d:Nat)(e:Int):Obj:=co [(.str a b),(.str a (b+1)),(.str "/claim/cut.py" (b+2)),(.int c 0),(.int 0 0),(.int 0 0),(.int 0 0),(.int 0 0),(.ref d),(.bool false),(.int 181 0),(.ref (d+1)),.none,.none,.none,.none,(.int e 0),(.int c 0),(.str "/claim/cut.py" (b+4))]
noncomputable def H1(a:Nat)(b:Nat)(c:Str)(d:Nat):Obj:=⟨(.type "frame"),none,.plain,⟨[(some (.ref a)),(some (.ref 3)),(some (.ref b)),none,(some (.str c d)),none,(some (.ref 0))]⟩⟩
def H2(a:Str)(b:Nat):Obj:=tu [(.str a b)]
def H3(a:Nat)(b:Str):Obj:=ob .none (fd (at_ body a) b 0 [] .none .none .none .none none .none .none 0)
def H4(a:Str)(b:Nat)(c:Str)(d:Int)(e:Int)(f:Nat)(g:Int)(h:Nat):Obj:=co [(.str a b),(.str c (b+1)),(.str "/claim/cut.py" (b+2)),(.int d 0),(.int e 0),(.int 0 0),(.int 0 0),(.int 3 0),(.ref f),(.bool true),(.int 181 0),(.ref (f+1)),.none,(.ref (f+2)),(.ref (f+3)),(.ref (f+4)),(.int g 0),(.int d 0),(.str "/claim/cut.py" h)]
def H5(a:Nat)(b:Str)(c:Str)(d:Nat)(e:Nat):Obj:=ob (.type "function") (fd (at_ body a) b 3 [] .none .none .none (.str c d) none (.ref e) .none 0)
def H6(P:Params)(a:Nat)(b:Str)(c:Int)(d:Str)(e:Nat)(f:Nat)(g:Str)(h:Nat)(i:Nat)(j:Str)(k:Nat)(l:Str)(m:Nat):Obj:=dc 8 [(ds P "__module__" a "eachstepsame.blocks" 194),(ds P "__qualname__" (a+2) b (a+1)),(de P "__firstlineno__" (a+4) (.int c (a+3))),(dr P d e f),(dr P g h i),(dr P j k (i+7)),(dr P l (k+7) (i+14)),(dr P "__static_attributes__" m (i+15))]
def H7(a:Int)(b:Nat)(c:Int)(d:Nat)(e:Int)(f:Int):Obj:=ob .none (.fields ⟨[(.int a 0),(.int 4 0),(.ref b),(.int c 0),(.int 4 0),(.ref d),(.int e 0),(.int 4 0),(.ref (d+7)),(.int f 0),(.int 4 0),(.ref (d+14))]⟩)
def H8(a:Nat)(b:Nat)(c:Str):Obj:=ob .none (fd (at_ (inC (at_ body a)) b) c 0 [] .none .none .none .none none .none .none 0)
def H9(a:Nat)(b:Nat)(c:Str)(d:Nat):Obj:=ob (.type "function") (fd (at_ (inC (at_ body a)) b) c 3 [] .none .none .none (.str "eachstepsame.blocks" 194) none (.ref d) .none 0)
def H10(a:Str)(b:Nat)(c:Str):Obj:=tu [(.str a b),(.str c (b+1))]
def H11(P:Params)(a:Nat)(b:Nat)(c:Int)(d:Str)(e:Nat)(f:Nat)(g:Str)(h:Nat)(i:Nat)(j:Str)(k:Nat)(l:Str)(m:Nat)(n:Nat)(o:Str)(p:Nat)(q:Nat)(r:Str)(s:Nat)(t:Nat)(u:Str)(v:Nat):Obj:=dc a [(ds P "__module__" b "eachstepsame.blocks" 194),(de P "__firstlineno__" (b+4) (.int c (b+3))),(dr P d e f),(dr P g h i),(dr P j k (i+7)),(dr P l m n),(dr P o p q),(dr P r s t),(dr P u v (t+1)),(de P "__doc__" (v+1) .none)]
def H12(a:Nat)(b:Nat):Obj:=ob (.type "getset_descriptor") (.fields ⟨[(.str "__dict__" a),(.ref b),(.builtin "function.__dict__"),(.builtin "function.__dict__#set")]⟩)
def H13(a:Nat)(b:Nat):Obj:=ob (.type "getset_descriptor") (.fields ⟨[(.str "__weakref__" a),(.ref b),(.builtin "ExceptionGroup.__weakref__"),.none]⟩)
def H14(a:Nat):Obj:=ob (.type "super") (.fields ⟨[(.ref a),(.ref a),(.ref a)]⟩)
def H15(a:Nat):Obj:=ob (.type "builtin_function_or_method") (.fields ⟨[(.builtin "object.__init_subclass__"),(.ref a)]⟩)
def H16(a:Str)(b:Nat)(c:Str)(d:Str):Obj:=tu [(.str a b),(.str c (b+1)),(.str d (b+2))]
noncomputable def H17(a:Str)(b:Nat)(c:Nat)(d:Nat)(e:Nat):Obj:=⟨(.type "type"),none,(.cls ⟨a,[(.ref 59)],[(.ref b),(.ref 59),(.type "object")],c,a,true,[],[],false,none,false⟩),⟨[(some (.ref d)),none,(some (.str a e)),(some (.str a (e+8))),(some (.builtin "object.__new__")),(some (.bool true))]⟩⟩
def H18(P:Params)(a:Nat)(b:Str)(c:Int)(d:Nat)(e:Nat)(f:Nat)(g:Nat)(h:Str)(i:Nat)(j:Str)(k:Nat)(l:Nat)(m:Str)(n:Str)(o:Nat)(p:Nat):Obj:=dc 10 [(ds P "__module__" a "eachstepsame.blocks" 194),(ds P "__qualname__" (a+2) b (a+1)),(de P "__firstlineno__" (a+4) (.int c (a+3))),(dr P "__init__" d e),(dr P "told" f g),(dr P h i (g+7)),(dr P j k l),(dr P m (k+8) (l+7)),(dr P n o (l+14)),(dr P "__static_attributes__" p (l+15))]
def H19(a:Int)(b:Nat)(c:Int)(d:Nat)(e:Int)(f:Int)(g:Nat)(h:Int)(i:Int):Obj:=ob .none (.fields ⟨[(.int a 0),(.int 4 0),(.ref b),(.int c 0),(.int 4 0),(.ref d),(.int e 0),(.int 4 0),(.ref (d+7)),(.int f 0),(.int 4 0),(.ref g),(.int h 0),(.int 4 0),(.ref (g+7)),(.int i 0),(.int 4 0),(.ref (g+14))]⟩)
def H20(a:Str)(b:Nat)(c:Str)(d:Str)(e:Str):Obj:=tu [(.str a b),(.str c (b+1)),(.str d (b+2)),(.str e (b+3))]
def H21(a:Str)(b:Nat)(c:Str)(d:Str)(e:Str)(f:Str)(g:Str):Obj:=tu [(.str a b),(.str c (b+1)),(.str d (b+2)),(.str e (b+3)),(.str f (b+4)),(.str g (b+5))]
def H22(a:Str)(b:Nat)(c:Str)(d:Int)(e:Int)(f:Nat)(g:Int):Obj:=co [(.str a b),(.str c (b+1)),(.str "/claim/cut.py" (b+2)),(.int d 0),(.int e 0),(.int 0 0),(.int 0 0),(.int 3 0),(.ref f),(.bool true),(.int 181 0),(.ref (f+1)),.none,.none,.none,(.ref (f+2)),(.int g 0),(.int d 0),(.str "/claim/cut.py" (b+4))]
def H23(a:Str)(b:Nat)(c:Str)(d:Str)(e:Str)(f:Str):Obj:=tu [(.str a b),(.str c (b+1)),(.str d (b+2)),(.str e (b+3)),(.str f (b+4))]
def o12a:=ob .none (.fields ⟨[]⟩)
def o13a:=H0 "<module>" 182 1 11 185
def o14a:=H1 13 3 "__main__" 164
def o3(P:Params):=dc 43 [(ds P "__name__" 165 "law_eachstepsame_k49_loops_and_depths" 730),(de P "__doc__" 166 .none),(de P "__package__" 167 .none),(de P "__loader__" 168 (.builtin "__main__.__loader__#opaque")),(de P "__spec__" 169 .none),(dr P "__annotations__" 170 6),(dr P "__builtins__" 171 4),(ds P "__file__" 173 "/claim/cut.py" 172),(de P "__cached__" 174 .none),(dr P "_wall" 193 21),(dr P "End" 244 59),(dr P "Jump" 300 108),(dr P "Branch" 367 162),(dr P "Back" 415 202),(dr P "Risk" 485 254),(dr P "Block" 538 292),(dr P "Function" 611 346),(dr P "gone_through" 627 357),(dr P "turned" 633 362),(dr P "nearest_rulers" 639 367),(dr P "common_ruler" 651 374),(dr P "ruled_spans" 657 379),(dr P "spans_rule" 666 386),(dr P "followers" 674 391),(dr P "ways_of" 680 396),(dr P "reached" 687 403),(dr P "leading_to" 699 410),(dr P "loops_of" 705 415),(dr P "depths" 711 420),(dr P "closing_blocks" 717 425),(dr P "loop_blocks" 729 432),(dr P "_law_cell_at" 739 439),(dr P "_law_mixed" 748 446),(dr P "_law_numbers" 760 453),(dr P "_law_take" 767 460),(dr P "_law_end" 778 467),(dr P "_law_graph" 784 472),(dr P "_law_edges" 790 477),(dr P "_law_seen" 802 484),(dr P "_law_rules" 811 491),(dr P "_law_due" 817 496),(dr P "_law_leading" 827 503),(dr P "law" 833 508)]
def o12:=ob .none (.fields ⟨[(.int 1 0),(.int 0 0),(.ref 20),(.int 5 0),(.int 0 0),(.ref 27),(.int 18 0),(.int 0 0),(.ref 69),(.int 34 0),(.int 0 0),(.ref 116),(.int 55 0),(.int 0 0),(.ref 170),(.int 68 0),(.int 0 0),(.ref 210),(.int 91 0),(.int 0 0),(.ref 262),(.int 106 0),(.int 0 0),(.ref 302),(.int 131 0),(.int 0 0),(.ref 356),(.int 147 0),(.int 0 0),(.ref 361),(.int 153 0),(.int 0 0),(.ref 366),(.int 168 0),(.int 0 0),(.ref 373),(.int 178 0),(.int 0 0),(.ref 378),(.int 195 0),(.int 0 0),(.ref 385),(.int 198 0),(.int 0 0),(.ref 390),(.int 200 0),(.int 0 0),(.ref 395),(.int 202 0),(.int 0 0),(.ref 402),(.int 207 0),(.int 0 0),(.ref 409),(.int 213 0),(.int 0 0),(.ref 414),(.int 217 0),(.int 0 0),(.ref 419),(.int 223 0),(.int 0 0),(.ref 424),(.int 232 0),(.int 0 0),(.ref 431),(.int 242 0),(.int 0 0),(.ref 438),(.int 246 0),(.int 0 0),(.ref 445),(.int 250 0),(.int 0 0),(.ref 452),(.int 263 0),(.int 0 0),(.ref 459),(.int 267 0),(.int 0 0),(.ref 466),(.int 278 0),(.int 0 0),(.ref 471),(.int 282 0),(.int 0 0),(.ref 476),(.int 295 0),(.int 0 0),(.ref 483),(.int 304 0),(.int 0 0),(.ref 490),(.int 308 0),(.int 0 0),(.ref 495),(.int 322 0),(.int 0 0),(.ref 502),(.int 328 0),(.int 0 0),(.ref 507)]⟩)
def o17:=H2 "k" 190
def o19:=H3 0 "_wall"
def o20:=H4 "_wall" 187 "_wall" 1 1 15 191 192
def o21:=H5 0 "_wall" "__main__" 164 20
def o23:=ob (.type "builtin_function_or_method") (.fields ⟨[(.builtin "type.__prepare__"),(.type "type")]⟩)
def o24(P:Params):=H6 P 203 "End" 5 "edges" 214 35 "with_edges" 222 42 "reads" 229 "every_read" 237
def o26:=H7 7 34 10 41 13 16
def o27:=H0 "End" 198 5 25 201
def o28:=H1 27 24 "eachstepsame.blocks" 194
def o31:=H2 "self" 211
def o33:=H8 2 0 "End.edges"
def o34:=H4 "edges" 208 "End.edges" 7 1 29 212 213
def o35:=H9 2 0 "End.edges" 34
def o38:=H10 "self" 218 "edges"
def o40:=H8 2 1 "End.with_edges"
def o41:=H4 "with_edges" 215 "End.with_edges" 10 2 36 220 221
def o42:=H9 2 1 "End.with_edges" 41
def o45:=H2 "self" 226
def o47:=H8 2 2 "End.reads"
def o48:=H4 "reads" 223 "End.reads" 13 1 43 227 228
def o49:=H9 2 2 "End.reads" 48
def o52:=H2 "self" 233
def o54:=H8 2 3 "End.every_read"
def o55:=H4 "every_read" 230 "End.every_read" 16 1 50 234 235
def o56:=H9 2 3 "End.every_read" 55
def o58(P:Params):=H11 P 4 203 5 "edges" 214 35 "with_edges" 222 42 "reads" 229 "every_read" 236 56 "__static_attributes__" 237 57 "__dict__" 239 60 "__weakref__" 241
noncomputable def o59:Obj:=⟨(.type "type"),none,(.cls ⟨"End",[(.type "object")],[(.ref 59),(.type "object")],58,"End",true,[],[(.ref 108),(.ref 162),(.ref 202),(.ref 254)],false,none,false⟩),⟨[none,none,(some (.str "End" 196)),(some (.str "End" 204)),(some (.builtin "object.__new__")),(some (.bool true))]⟩⟩
def o60:=H12 238 59
def o61:=H13 240 59
def o62:=H14 59
def o63:=H15 59
def o64:=tu [(.ref 59)]
def o66(P:Params):=dc 9 [(ds P "__module__" 252 "eachstepsame.blocks" 194),(ds P "__qualname__" 254 "Jump" 253),(de P "__firstlineno__" 256 (.int 18 255)),(dr P "__init__" 264 77),(dr P "told" 271 84),(dr P "moved" 280 91),(dr P "edges" 287 98),(dr P "with_edges" 295 105),(dr P "__static_attributes__" 297 106)]
def o68:=ob .none (.fields ⟨[(.int 20 0),(.int 4 0),(.ref 76),(.int 23 0),(.int 4 0),(.ref 83),(.int 26 0),(.int 4 0),(.ref 90),(.int 29 0),(.int 4 0),(.ref 97),(.int 32 0),(.int 4 0),(.ref 104)]⟩)
def o69:=H0 "Jump" 247 18 67 250
def o70:=H1 69 66 "eachstepsame.blocks" 194
def o73:=H10 "self" 260 "edge"
def o75:=H8 3 0 "Jump.__init__"
def o76:=H4 "__init__" 257 "Jump.__init__" 20 2 71 262 263
def o77:=H9 3 0 "Jump.__init__" 76
def o80:=H2 "self" 268
def o82:=H8 3 1 "Jump.told"
def o83:=H4 "told" 265 "Jump.told" 23 1 78 269 270
def o84:=H9 3 1 "Jump.told" 83
def o87:=H16 "self" 275 "names" "blocks"
def o89:=H8 3 2 "Jump.moved"
def o90:=H4 "moved" 272 "Jump.moved" 26 3 85 278 279
def o91:=H9 3 2 "Jump.moved" 90
def o94:=H2 "self" 284
def o96:=H8 3 3 "Jump.edges"
def o97:=H4 "edges" 281 "Jump.edges" 29 1 92 285 286
def o98:=H9 3 3 "Jump.edges" 97
def o101:=H10 "self" 291 "edges"
def o103:=H8 3 4 "Jump.with_edges"
def o104:=H4 "with_edges" 288 "Jump.with_edges" 32 2 99 293 294
def o105:=H9 3 4 "Jump.with_edges" 104
def o106:=H2 "edge" 296
def o107(P:Params):=dc 2 [(ds P "__module__" 252 "eachstepsame.blocks" 194),(de P "__firstlineno__" 256 (.int 18 255)),(dr P "__init__" 264 77),(dr P "told" 271 84),(dr P "moved" 280 91),(dr P "edges" 287 98),(dr P "with_edges" 295 105),(dr P "__static_attributes__" 297 106),(de P "__doc__" 298 .none)]
def o108:=H17 "Jump" 108 107 64 245
def o109:=H14 108
def o110:=H15 108
def o113(P:Params):=H18 P 308 "Branch" 34 322 124 329 131 "moved" 338 "edges" 345 145 "with_edges" "reads" 360 364
def o115:=H19 36 123 41 130 44 47 144 50 53
def o116:=H0 "Branch" 303 34 114 306
def o117:=H1 116 113 "eachstepsame.blocks" 194
def o120:=H20 "self" 316 "test" "yes" "no"
def o122:=H8 4 0 "Branch.__init__"
def o123:=H4 "__init__" 313 "Branch.__init__" 36 4 118 320 321
def o124:=H9 4 0 "Branch.__init__" 123
def o127:=H2 "self" 326
def o129:=H8 4 1 "Branch.told"
def o130:=H4 "told" 323 "Branch.told" 41 1 125 327 328
def o131:=H9 4 1 "Branch.told" 130
def o134:=H16 "self" 333 "names" "blocks"
def o136:=H8 4 2 "Branch.moved"
def o137:=H4 "moved" 330 "Branch.moved" 44 3 132 336 337
def o138:=H9 4 2 "Branch.moved" 137
def o141:=H2 "self" 342
def o143:=H8 4 3 "Branch.edges"
def o144:=H4 "edges" 339 "Branch.edges" 47 1 139 343 344
def o145:=H9 4 3 "Branch.edges" 144
def o148:=H10 "self" 349 "edges"
def o150:=H8 4 4 "Branch.with_edges"
def o151:=H4 "with_edges" 346 "Branch.with_edges" 50 2 146 351 352
def o152:=H9 4 4 "Branch.with_edges" 151
def o155:=H2 "self" 357
def o157:=H8 4 5 "Branch.reads"
def o158:=H4 "reads" 354 "Branch.reads" 53 1 153 358 359
def o159:=H9 4 5 "Branch.reads" 158
def o160:=H16 "no" 361 "test" "yes"
def o161(P:Params):=H11 P 2 308 34 "__init__" 322 124 "told" 329 131 "moved" 338 "edges" 345 145 "with_edges" 353 152 "reads" 360 159 "__static_attributes__" 364
def o162:=H17 "Branch" 162 161 111 301
def o163:=H14 162
def o164:=H15 162
def o167(P:Params):=H6 P 375 "Back" 55 "__init__" 387 178 "told" 394 185 "moved" 403 "reads" 412
def o169:=H7 57 177 60 184 63 66
def o170:=H0 "Back" 370 55 168 373
def o171:=H1 170 167 "eachstepsame.blocks" 194
def o174:=H10 "self" 383 "operand"
def o176:=H8 5 0 "Back.__init__"
def o177:=H4 "__init__" 380 "Back.__init__" 57 2 172 385 386
def o178:=H9 5 0 "Back.__init__" 177
def o181:=H2 "self" 391
def o183:=H8 5 1 "Back.told"
def o184:=H4 "told" 388 "Back.told" 60 1 179 392 393
def o185:=H9 5 1 "Back.told" 184
def o188:=H16 "self" 398 "names" "blocks"
def o190:=H8 5 2 "Back.moved"
def o191:=H4 "moved" 395 "Back.moved" 63 3 186 401 402
def o192:=H9 5 2 "Back.moved" 191
def o195:=H2 "self" 407
def o197:=H8 5 3 "Back.reads"
def o198:=H4 "reads" 404 "Back.reads" 66 1 193 408 409
def o199:=H9 5 3 "Back.reads" 198
def o200:=H2 "operand" 411
def o201(P:Params):=dc 2 [(ds P "__module__" 375 "eachstepsame.blocks" 194),(de P "__firstlineno__" 379 (.int 55 378)),(dr P "__init__" 387 178),(dr P "told" 394 185),(dr P "moved" 403 192),(dr P "reads" 410 199),(dr P "__static_attributes__" 412 200),(de P "__doc__" 413 .none)]
def o202:=H17 "Back" 202 201 165 368
def o203:=H14 202
def o204:=H15 202
def o207(P:Params):=H18 P 423 "Risk" 68 439 218 446 225 "moved" 455 "edges" 461 237 "with_edges" "reads" 476 482
def o209:=H19 70 217 77 224 80 83 236 86 89
def o210:=H0 "Risk" 418 68 208 421
def o211:=H1 210 207 "eachstepsame.blocks" 194
def o214:=H21 "self" 431 "op" "extra" "asked" "edge" "catches"
def o216:=H8 6 0 "Risk.__init__"
def o217:=H4 "__init__" 428 "Risk.__init__" 70 6 212 437 438
def o218:=H9 6 0 "Risk.__init__" 217
def o221:=H2 "self" 443
def o223:=H8 6 1 "Risk.told"
def o224:=H4 "told" 440 "Risk.told" 77 1 219 444 445
def o225:=H9 6 1 "Risk.told" 224
def o228:=H16 "self" 450 "names" "blocks"
def o230:=H8 6 2 "Risk.moved"
def o231:=H4 "moved" 447 "Risk.moved" 80 3 226 453 454
def o232:=H9 6 2 "Risk.moved" 231
def o235:=H8 6 3 "Risk.edges"
def o236:=H22 "edges" 456 "Risk.edges" 83 1 233 459
def o237:=H9 6 3 "Risk.edges" 236
def o240:=H10 "self" 465 "edges"
def o242:=H8 6 4 "Risk.with_edges"
def o243:=H4 "with_edges" 462 "Risk.with_edges" 86 2 238 467 468
def o244:=H9 6 4 "Risk.with_edges" 243
def o247:=H2 "self" 473
def o249:=H8 6 5 "Risk.reads"
def o250:=H4 "reads" 470 "Risk.reads" 89 1 245 474 475
def o251:=H9 6 5 "Risk.reads" 250
def o252:=H23 "asked" 477 "catches" "edge" "extra" "op"
def o253(P:Params):=H11 P 2 423 68 "__init__" 439 218 "told" 446 225 "moved" 455 "edges" 461 237 "with_edges" 469 244 "reads" 476 251 "__static_attributes__" 482
def o254:=H17 "Risk" 254 253 205 416
def o255:=H14 254
def o256:=H15 254
def o259(P:Params):=H6 P 493 "Block" 91 "__init__" 507 270 "told" 513 275 "given" 520 "ticks" 531
def o261:=H7 93 269 98 274 101 104
def o262:=H0 "Block" 488 91 260 491
def o263:=H1 262 259 "eachstepsame.blocks" 194
def o266:=H20 "self" 501 "params" "rows" "end"
def o268:=H8 7 0 "Block.__init__"
def o269:=H4 "__init__" 498 "Block.__init__" 93 4 264 505 506
def o270:=H9 7 0 "Block.__init__" 269
def o273:=H8 7 1 "Block.told"
def o274:=H22 "told" 508 "Block.told" 98 1 271 511
def o275:=H9 7 1 "Block.told" 274
def o278:=H2 "self" 517
def o280:=H8 7 2 "Block.given"
def o281:=H4 "given" 514 "Block.given" 101 1 276 518 519
def o282:=H9 7 2 "Block.given" 281
def o285:=H2 "self" 524
def o287:=H8 7 3 "Block.ticks"
def o288:=H4 "ticks" 521 "Block.ticks" 104 1 283 525 526
def o289:=H9 7 3 "Block.ticks" 288
def o290:=H16 "end" 528 "params" "rows"
def o291(P:Params):=H11 P 4 493 91 "__init__" 507 270 "told" 513 275 "given" 520 "ticks" 527 289 "__static_attributes__" 531 290 "__dict__" 533 293 "__weakref__" 535
noncomputable def o292:Obj:=⟨(.type "type"),none,(.cls ⟨"Block",[(.type "object")],[(.ref 292),(.type "object")],291,"Block",true,[],[],false,none,false⟩),⟨[none,none,(some (.str "Block" 486)),(some (.str "Block" 494)),(some (.builtin "object.__new__")),(some (.bool true))]⟩⟩
def o293:=H12 532 292
def o294:=H13 534 292
def o295:=H14 292
def o296:=H15 292
def o299(P:Params):=H18 P 546 "Function" 106 561 310 567 315 "width" 574 "kind_of" 582 329 "with_blocks" "kinds_of" 598 604
def o301:=H19 108 309 115 314 119 122 328 125 128
def o302:=H0 "Function" 541 106 300 544
def o303:=H1 302 299 "eachstepsame.blocks" 194
def o306:=H23 "self" 554 "takes" "gives" "kinds" "blocks"
def o308:=H8 8 0 "Function.__init__"
def o309:=H4 "__init__" 551 "Function.__init__" 108 5 304 559 560
def o310:=H9 8 0 "Function.__init__" 309
def o313:=H8 8 1 "Function.told"
def o314:=H22 "told" 562 "Function.told" 115 1 311 565
def o315:=H9 8 1 "Function.told" 314
def o318:=H2 "self" 571
def o320:=H8 8 2 "Function.width"
def o321:=H4 "width" 568 "Function.width" 119 1 316 572 573
def o322:=H9 8 2 "Function.width" 321
def o325:=H10 "self" 578 "name"
def o327:=H8 8 3 "Function.kind_of"
def o328:=H4 "kind_of" 575 "Function.kind_of" 122 2 323 580 581
def o329:=H9 8 3 "Function.kind_of" 328
def o332:=H10 "self" 586 "blocks"
def o334:=H8 8 4 "Function.with_blocks"
def o335:=H4 "with_blocks" 583 "Function.with_blocks" 125 2 330 588 589
def o336:=H9 8 4 "Function.with_blocks" 335
def o339:=H10 "self" 594 "names"
def o341:=H8 8 5 "Function.kinds_of"
def o342:=H4 "kinds_of" 591 "Function.kinds_of" 128 2 337 596 597
def o343:=H9 8 5 "Function.kinds_of" 342
def o344:=H23 "blocks" 599 "gives" "kept_kinds" "kinds" "takes"
def o345(P:Params):=dc 4 [(ds P "__module__" 546 "eachstepsame.blocks" 194),(de P "__firstlineno__" 550 (.int 106 549)),(dr P "__init__" 561 310),(dr P "told" 567 315),(dr P "width" 574 322),(dr P "kind_of" 582 329),(dr P "with_blocks" 590 336),(dr P "kinds_of" 598 343),(dr P "__static_attributes__" 604 344),(dr P "__dict__" 606 347),(dr P "__weakref__" 608 348),(de P "__doc__" 609 .none)]
noncomputable def o346:Obj:=⟨(.type "type"),none,(.cls ⟨"Function",[(.type "object")],[(.ref 346),(.type "object")],345,"Function",true,[],[],false,none,false⟩),⟨[none,none,(some (.str "Function" 539)),(some (.str "Function" 547)),(some (.builtin "object.__new__")),(some (.bool true))]⟩⟩
def o347:=H12 605 346
def o348:=H13 607 346
def o349:=H14 346
def o350:=H15 346
def o353:=tu [(.str "ways" 617),(.str "begin" 618),(.str "done" 619),(.str "order" 620),(.str "pile" 621),(.str "top" 622),(.str "number" 623),(.str "follower" 624)]
def o355:=H3 10 "gone_through"
def o356:=H4 "gone_through" 614 "gone_through" 131 3 351 625 626
def o357:=H5 10 "gone_through" "eachstepsame.ways" 612 356
def o360:=H3 11 "turned"
def o361:=H22 "turned" 628 "turned" 147 1 358 631
def o362:=H5 11 "turned" "eachstepsame.ways" 612 361
def o365:=H3 12 "nearest_rulers"
def o366:=H22 "nearest_rulers" 634 "nearest_rulers" 153 1 363 637
def o367:=H5 12 "nearest_rulers" "eachstepsame.ways" 612 366
def o370:=H21 "numbers" 643 "nearest" "rank" "ruler" "number" "climbing"
def o372:=H3 13 "common_ruler"
def o373:=H4 "common_ruler" 640 "common_ruler" 168 3 368 649 650
def o374:=H5 13 "common_ruler" "eachstepsame.ways" 612 373
def o377:=H3 14 "ruled_spans"
def o378:=H22 "ruled_spans" 652 "ruled_spans" 178 1 375 655
def o379:=H5 14 "ruled_spans" "eachstepsame.ways" 612 378
def o382:=H16 "spans" 661 "number" "other"
def o384:=H3 15 "spans_rule"
def o385:=H4 "spans_rule" 658 "spans_rule" 195 3 380 664 665
def o386:=H5 15 "spans_rule" "eachstepsame.ways" 612 385
def o389:=H3 17 "followers"
def o390:=H22 "followers" 669 "followers" 198 2 387 672
def o391:=H5 17 "followers" "eachstepsame.fits" 667 390
def o394:=H3 18 "ways_of"
def o395:=H22 "ways_of" 675 "ways_of" 200 1 392 678
def o396:=H5 18 "ways_of" "eachstepsame.fits" 667 395
def o399:=H2 "function" 684
def o401:=H3 19 "reached"
def o402:=H4 "reached" 681 "reached" 202 1 397 685 686
def o403:=H5 19 "reached" "eachstepsame.fits" 667 402
def o406:=H20 "function" 693 "found" "number" "follower"
def o408:=H3 21 "leading_to"
def o409:=H4 "leading_to" 690 "leading_to" 207 1 404 697 698
def o410:=H5 21 "leading_to" "eachstepsame.loops" 688 409
def o413:=H3 22 "loops_of"
def o414:=H22 "loops_of" 700 "loops_of" 213 1 411 703
def o415:=H5 22 "loops_of" "eachstepsame.loops" 688 414
def o418:=H3 23 "depths"
def o419:=H22 "depths" 706 "depths" 217 1 416 709
def o420:=H5 23 "depths" "eachstepsame.loops" 688 419
def o423:=H3 24 "closing_blocks"
def o424:=H22 "closing_blocks" 712 "closing_blocks" 223 2 421 715
def o425:=H5 24 "closing_blocks" "eachstepsame.loops" 688 424
def o428:=H21 "head" 721 "closing" "leading" "found" "waiting" "number"
def o430:=H3 25 "loop_blocks"
def o431:=H4 "loop_blocks" 718 "loop_blocks" 232 3 426 727 728
def o432:=H5 25 "loop_blocks" "eachstepsame.loops" 688 431
def o435:=H10 "_law_script" 735 "_law_k"
def o437:=H3 27 "_law_cell_at"
def o438:=H4 "_law_cell_at" 732 "_law_cell_at" 242 2 433 737 738
def o439:=H5 27 "_law_cell_at" "law_eachstepsame_k49_loops_and_depths" 730 438
def o442:=H16 "_law_cell" 743 "_law_k" "_law_number"
def o444:=H3 28 "_law_mixed"
def o445:=H4 "_law_mixed" 740 "_law_mixed" 246 2 440 746 747
def o446:=H5 28 "_law_mixed" "law_eachstepsame_k49_loops_and_depths" 730 445
def o449:=H21 "_law_cells" 752 "_law_many" "_law_found" "_law_cell" "_law_left" "_law_k"
def o451:=H3 29 "_law_numbers"
def o452:=H4 "_law_numbers" 749 "_law_numbers" 250 2 447 758 759
def o453:=H5 29 "_law_numbers" "law_eachstepsame_k49_loops_and_depths" 730 452
def o456:=H2 "_law_left" 764
def o458:=H3 30 "_law_take"
def o459:=H4 "_law_take" 761 "_law_take" 263 1 454 765 766
def o460:=H5 30 "_law_take" "law_eachstepsame_k49_loops_and_depths" 730 459
def o463:=H23 "_law_left" 771 "_law_many" "_law_way" "_law_one" "_law_other"
def o465:=H3 31 "_law_end"
def o466:=H4 "_law_end" 768 "_law_end" 267 2 461 776 777
def o467:=H5 31 "_law_end" "law_eachstepsame_k49_loops_and_depths" 730 466
def o470:=H3 32 "_law_graph"
def o471:=H22 "_law_graph" 779 "_law_graph" 278 1 468 782
def o472:=H5 32 "_law_graph" "law_eachstepsame_k49_loops_and_depths" 730 471
def o475:=H3 33 "_law_edges"
def o476:=H22 "_law_edges" 785 "_law_edges" 282 1 473 788
def o477:=H5 33 "_law_edges" "law_eachstepsame_k49_loops_and_depths" 730 476
def o480:=H21 "_law_edges_here" 794 "_law_start" "_law_without" "_law_found" "_law_at" "_law_other"
def o482:=H3 34 "_law_seen"
def o483:=H4 "_law_seen" 791 "_law_seen" 295 3 478 800 801
def o484:=H5 34 "_law_seen" "law_eachstepsame_k49_loops_and_depths" 730 483
def o487:=H16 "_law_edges_here" 806 "_law_one" "_law_other"
def o489:=H3 35 "_law_rules"
def o490:=H4 "_law_rules" 803 "_law_rules" 304 3 485 809 810
def o491:=H5 35 "_law_rules" "law_eachstepsame_k49_loops_and_depths" 730 490
def o494:=H3 36 "_law_due"
def o495:=H22 "_law_due" 812 "_law_due" 308 1 492 815
def o496:=H5 36 "_law_due" "law_eachstepsame_k49_loops_and_depths" 730 495
def o499:=H20 "_law_edges_here" 821 "_law_found" "_law_one" "_law_other"
def o501:=H3 37 "_law_leading"
def o502:=H4 "_law_leading" 818 "_law_leading" 322 1 497 825 826
def o503:=H5 37 "_law_leading" "law_eachstepsame_k49_loops_and_depths" 730 502
def o506:=H3 38 "law"
def o507:=H22 "law" 828 "law" 328 1 504 831
def o508:=H5 38 "law" "law_eachstepsame_k49_loops_and_depths" 730 507
def ha(P:Params):Heap:=⟨⟨[(boot_o_0 P),(boot_o_1 P),(boot_o_2 P),(boot_o_3 P),(boot_o_4 P),(boot_o_5 P),(boot_o_6 P),(boot_o_7 P),(boot_o_8 P),(boot_o_9 P),(boot_o_10 P),t0,o12a,o13a,o14a]⟩,{}⟩
def tb1(P:Params):BT:=n7 (boot_o_1 P) (boot_o_3 P) (boot_o_7 P) t0 (boot_o_5 P) (boot_o_9 P) o13a
def tb2(P:Params):BT:=n7 (boot_o_2 P) (boot_o_4 P) (boot_o_8 P) o12a (boot_o_6 P) (boot_o_10 P) o14a
def tb(P:Params):BT:=(.node (boot_o_0 P) (tb1 P) (tb2 P))
def h0(P:Params)(r:List Obj):List Obj:=(boot_o_0 P)::(boot_o_1 P)::(boot_o_2 P)::(o3 P)::(boot_o_4 P)::(boot_o_5 P)::(boot_o_6 P)::(boot_o_7 P)::(boot_o_8 P)::(boot_o_9 P)::(boot_o_10 P)::t0::o12::o13a::o14a::t0::o12a::o17::t0::o19::o20::o21::t0::o23::r
def h1(P:Params)(r:List Obj):List Obj:=(o24 P)::t0::o26::o27::o28::t0::o12a::o31::t0::o33::o34::o35::t0::o12a::o38::t0::o40::o41::o42::t0::o12a::o45::t0::o47::r
def h2(P:Params)(r:List Obj):List Obj:=o48::o49::t0::o12a::o52::t0::o54::o55::o56::t0::(o58 P)::o59::o60::o61::o62::o63::o64::o23::(o66 P)::t0::o68::o69::o70::t0::r
def h3(P:Params)(r:List Obj):List Obj:=o12a::o73::t0::o75::o76::o77::t0::o12a::o80::t0::o82::o83::o84::t0::o12a::o87::t0::o89::o90::o91::t0::o12a::o94::t0::r
def h4(P:Params)(r:List Obj):List Obj:=o96::o97::o98::t0::o12a::o101::t0::o103::o104::o105::o106::(o107 P)::o108::o109::o110::o64::o23::(o113 P)::t0::o115::o116::o117::t0::o12a::r
def h5(P:Params)(r:List Obj):List Obj:=o120::t0::o122::o123::o124::t0::o12a::o127::t0::o129::o130::o131::t0::o12a::o134::t0::o136::o137::o138::t0::o12a::o141::t0::o143::r
def h6(P:Params)(r:List Obj):List Obj:=o144::o145::t0::o12a::o148::t0::o150::o151::o152::t0::o12a::o155::t0::o157::o158::o159::o160::(o161 P)::o162::o163::o164::o64::o23::(o167 P)::r
def h7(P:Params)(r:List Obj):List Obj:=t0::o169::o170::o171::t0::o12a::o174::t0::o176::o177::o178::t0::o12a::o181::t0::o183::o184::o185::t0::o12a::o188::t0::o190::o191::r
def h8(P:Params)(r:List Obj):List Obj:=o192::t0::o12a::o195::t0::o197::o198::o199::o200::(o201 P)::o202::o203::o204::o64::o23::(o207 P)::t0::o209::o210::o211::t0::o12a::o214::t0::r
def h9(P:Params)(r:List Obj):List Obj:=o216::o217::o218::t0::o12a::o221::t0::o223::o224::o225::t0::o12a::o228::t0::o230::o231::o232::t0::o12a::o235::o236::o237::t0::o12a::r
def h10(P:Params)(r:List Obj):List Obj:=o240::t0::o242::o243::o244::t0::o12a::o247::t0::o249::o250::o251::o252::(o253 P)::o254::o255::o256::t0::o23::(o259 P)::t0::o261::o262::o263::r
def h11(P:Params)(r:List Obj):List Obj:=t0::o12a::o266::t0::o268::o269::o270::t0::o12a::o273::o274::o275::t0::o12a::o278::t0::o280::o281::o282::t0::o12a::o285::t0::o287::r
def h12(P:Params)(r:List Obj):List Obj:=o288::o289::o290::(o291 P)::o292::o293::o294::o295::o296::t0::o23::(o299 P)::t0::o301::o302::o303::t0::o12a::o306::t0::o308::o309::o310::t0::r
def h13(P:Params)(r:List Obj):List Obj:=o12a::o313::o314::o315::t0::o12a::o318::t0::o320::o321::o322::t0::o12a::o325::t0::o327::o328::o329::t0::o12a::o332::t0::o334::o335::r
def h14(P:Params)(r:List Obj):List Obj:=o336::t0::o12a::o339::t0::o341::o342::o343::o344::(o345 P)::o346::o347::o348::o349::o350::t0::o12a::o353::t0::o355::o356::o357::t0::o12a::r
def h15(P:Params)(r:List Obj):List Obj:=o360::o361::o362::t0::o12a::o365::o366::o367::t0::o12a::o370::t0::o372::o373::o374::t0::o12a::o377::o378::o379::t0::o12a::o382::t0::r
def h16(P:Params)(r:List Obj):List Obj:=o384::o385::o386::t0::o12a::o389::o390::o391::t0::o12a::o394::o395::o396::t0::o12a::o399::t0::o401::o402::o403::t0::o12a::o406::t0::r
def h17(P:Params)(r:List Obj):List Obj:=o408::o409::o410::t0::o12a::o413::o414::o415::t0::o12a::o418::o419::o420::t0::o12a::o423::o424::o425::t0::o12a::o428::t0::o430::o431::r
def h18(P:Params)(r:List Obj):List Obj:=o432::t0::o12a::o435::t0::o437::o438::o439::t0::o12a::o442::t0::o444::o445::o446::t0::o12a::o449::t0::o451::o452::o453::t0::o12a::r
def h19(P:Params)(r:List Obj):List Obj:=o456::t0::o458::o459::o460::t0::o12a::o463::t0::o465::o466::o467::t0::o12a::o470::o471::o472::t0::o12a::o475::o476::o477::t0::o12a::r
def h20(P:Params)(r:List Obj):List Obj:=o480::t0::o482::o483::o484::t0::o12a::o487::t0::o489::o490::o491::t0::o12a::o494::o495::o496::t0::o12a::o499::t0::o501::o502::o503::r
def h21(P:Params)(r:List Obj):List Obj:=t0::o12a::o506::o507::o508::r
def hl(P:Params):List Obj:=h0 P (h1 P (h2 P (h3 P (h4 P (h5 P (h6 P (h7 P (h8 P (h9 P (h10 P (h11 P (h12 P (h13 P (h14 P (h15 P (h16 P (h17 P (h18 P (h19 P (h20 P (h21 P ([]))))))))))))))))))))))
def hf(P:Params):Heap:=⟨⟨hl P⟩,{}⟩
noncomputable def ev:List Obj->List Obj
 |a::_::l=>a::ev l
 |l=>l
noncomputable def od:List Obj->List Obj
 |_::b::l=>b::od l
 |_=>[]
def mT:Nat->List Obj->BT
 |n+1,a::l=> .node a (mT n (ev l)) (mT n (od l))
 |_,_=> .nil
def tl(P:Params):BT:=mT 11 (hl P)
noncomputable def pk:Nat->List Addr->List Obj->Frag
 |n,a::r,o::l=>if Nat.beq n a then(a,o)::pk (n+1) r l else pk (n+1) (a::r) l
 |_,_,_=>[]
noncomputable def as:List Addr:=[2,3,15,17,18,20,21,29,31,32,34,35,36,38,39,41,42,43,45,46,48,49,50,52,53,55,56,57,58,59,60,61,64,71,73,74,76,77,78,80,81,83,84,85,87,88,90,91,92,94,95,97,98,99,101,102,104,105,106,107,108,111,118,120,121,123,124,125,127,128,130,131,132,134,135,137,138,139,141,142,144,145,146,148,149,151,152,153,155,156,158,159,160,161,162,165,172,174,175,177,178,179,181,182,184,185,186,188,189,191,192,193,195,196,198,199,200,201,202,205,212,214,215,217,218,219,221,222,224,225,226,228,229,231,232,233,236,237,238,240,241,243,244,245,247,248,250,251,252,253,254,264,266,267,269,270,271,274,275,276,278,279,281,282,283,285,286,288,289,290,291,292,293,294,304,306,307,309,310,311,314,315,316,318,319,321,322,323,325,326,328,329,330,332,333,335,336,337,339,340,342,343,344,345,346,347,348,351,353,354,356,357,358,361,362,363,366,367,368,370,371,373,374,375,378,379,380,382,383,385,386,387,390,391,392,395,396,397,399,400,402,403,404,406,407,409,410,411,414,415,416,419,420,421,424,425,426,428,429,431,432,440,442,443,445,446,447,449,450,452,453,454,456,457,459,460,461,463,464,466,467,468,471,472,473,476,477,478,480,481,483,484,485,487,488,490,491,492,495,496,497,499,500,502,503,504,507,508]
def K(P:Params):Frag:=pk 0 as (hl P)
def kc(P:Params):Frag:=K P
noncomputable def env:Env:={scope:=PySem.Challenge.pw_eachstepsame_k49_loops_and_depths.main.scope,locals:=mainNs,globals:=mainNs,cells:=[],code:=(.ref 13),frame:=some 14}
def cE:Code:= .body (behindTheImports PySem.Challenge.pw_eachstepsame_k49_loops_and_depths) env
theorem tws:((λ(_:Params->BT) (_:Params->BT) (_:Params->Heap) (_:Params->Heap) (_:Params->Frag) (_:Program) (_:Code)=>true) tb tl ha hf kc q cE)=true:=by k_qdec
theorem pre(w:World):(λos:OsState=>topGo treeTable PySem.Challenge.pw_eachstepsame_k49_loops_and_depths w 11 (some (.ref 6)) 12 ⟨boot_heap w.params,⟨[]⟩,boot_drawn,boot_toks,os⟩ (topStub PySem.Challenge.pw_eachstepsame_k49_loops_and_depths))=λos=>some (⟨ha w.params,⟨[]⟩,{},187,os⟩,⟨denote treeTable cE,cE,⟨0,0,0,0⟩,[topFrame ⟨0,0,0,0⟩]⟩):=by
 rewrite[PySem.W.Fast.te15667345088766844465,PySem.W.Fast.te14364793385576792824,PySem.W.Fast.te8175697017637028699,PySem.W.Fast.te12167769141508308155,PySem.W.Fast.te11892475500146522536,PySem.W.Fast.te2343313782933208130]
 kernel_rfl
theorem block(w:World):(λos:OsState=>segRun treeTable PySem.Challenge.pw_eachstepsame_k49_loops_and_depths w 11 (some (.ref 6)) 1 1 ⟨ha w.params,⟨[]⟩,{},187,os⟩ (blockOf (behindTheImports PySem.Challenge.pw_eachstepsame_k49_loops_and_depths) env cE ⟨0,0,0,0⟩ [topFrame ⟨0,0,0,0⟩]))=λos=>some (Flow.next,(⟨tb w.params,15,{},⟨[]⟩,{},187,os⟩:SharedT).abs,cE,⟨0,0,0,0⟩):=by
 rewrite[PySem.W.Fast.te14374325043358763698,PySem.W.Fast.te14364793385576792824,PySem.W.Fast.te8175697017637028699,PySem.W.Fast.te12167769141508308155,PySem.W.Fast.te17306263501064129316,PySem.W.Fast.te17150320874572105945,PySem.W.Fast.te2343313782933208130]
 kernel_rfl
theorem seg(w:World):(λos:OsState=>segRunT treeTable PySem.Challenge.pw_eachstepsame_k49_loops_and_depths w 11 (some (.ref 6)) 1 3378 (⟨tb w.params,15,{},⟨[]⟩,{},187,os⟩:SharedT) (piecesOf (behindTheImports PySem.Challenge.pw_eachstepsame_k49_loops_and_depths) env cE ⟨0,0,0,0⟩ [topFrame ⟨0,0,0,0⟩]))=λos=>some (Flow.next,(⟨tl w.params,509,{},⟨[]⟩,{},834,os⟩:SharedT),cE,⟨328,0,351,107⟩):=by
 rewrite[PySem.W.Fast.te10110043849684766642,PySem.W.Fast.te14364793385576792824,PySem.W.Fast.te8175697017637028699,PySem.W.Fast.te17306263501064129316,PySem.W.Fast.te7101502176447651324,PySem.W.Fast.te17150320874572105945,PySem.W.Fast.te2343313782933208130]
 kernel_rfl
theorem fin(w:World):(λos:OsState=>topRun treeTable PySem.Challenge.pw_eachstepsame_k49_loops_and_depths w 11 (some (.ref 6)) 2 (⟨tl w.params,509,{},⟨[]⟩,{},834,os⟩:SharedT).abs ⟨doneF .next,cE,⟨328,0,351,107⟩,[topFrame ⟨0,0,0,0⟩]⟩)=λos=>some (⟨hf w.params,⟨[]⟩,{},834,os⟩:Shared):=by
 rewrite[PySem.W.Fast.te14082659384304107361,PySem.W.Fast.te14364793385576792824,PySem.W.Fast.te8175697017637028699,PySem.W.Fast.te7101502176447651324,PySem.W.Fast.te10544986032919753165,PySem.W.Fast.te2343313782933208130]
 kernel_rfl
theorem run(w:World)(os:OsState):topRun treeTable PySem.Challenge.pw_eachstepsame_k49_loops_and_depths w 11 (some (.ref 6)) (12+(1+(3378+2))) ⟨boot_heap w.params,⟨[]⟩,boot_drawn,boot_toks,os⟩ (topStub PySem.Challenge.pw_eachstepsame_k49_loops_and_depths)=some (⟨hf w.params,⟨[]⟩,{},834,os⟩:Shared):=by have a:=piece_app (rest:=[]) (segRun_of (congrFun (seg w) os)) (piece_nil (congrFun (fin w) os));rw[List.append_nil] at a;exact go_top (congrFun (pre w) os) (piece_block (congrFun (block w) os) a)
def Xt(s:Shared):Bool:=xlAt q [] s&&recOk [] s
theorem keys(P:Params):as=(K P).map (·.1):=by kernel_rfl
def hk:Hook:=kHook K as keys
theorem lk1(w:World):(λos:OsState=>staticsOk (importedModules PySem.Challenge.pw_eachstepsame_k49_loops_and_depths.main.body) (boot_heap w.params) (hf w.params)&&namesBound PySem.Challenge.pw_eachstepsame_k49_loops_and_depths (hf w.params)&&gensDone (⟨hf w.params,⟨[]⟩,{},834,os⟩:Shared)&&laidKept (boot_heap w.params) (hf w.params))=λos=>true:=by
 rewrite[PySem.W.Fast.te5923862056798008813,PySem.W.Fast.te8175697017637028699,PySem.W.Fast.te10544986032919753165]
 kernel_rfl
theorem lk2(w:World):(λos:OsState=>seen ((recsOf q).map (·.name)) (ownsOf q) [] {(⟨hf w.params,⟨[]⟩,{},834,os⟩:Shared) with gens:= #[]})=λos=>expectedOf q:=by
 rewrite[PySem.W.Fast.te5160383126252970620,PySem.W.Fast.te3399658132070893891,PySem.W.Fast.te5991557255702980513,PySem.W.Fast.te1768822226353211369,PySem.W.Fast.te10544986032919753165]
 kernel_rfl
theorem lk3(w:World):(λos:OsState=>(⟨hf w.params,⟨[]⟩,{},834,os⟩:Shared).heap.bltView)=λos=>bltViewBooted:=by
 rewrite[PySem.W.Fast.te10544986032919753165]
 kernel_rfl
theorem lk4(w:World):(λos:OsState=>(⟨hf w.params,⟨[]⟩,{},834,os⟩:Shared).heap.keysOk (looseW q []) ((recsOf q).map (·.name)) ((litsOf q).map (·.1)) ((clssOf q (looseW q [])).map (·.name))&&(⟨hf w.params,⟨[]⟩,{},834,os⟩:Shared).heap.accountedOkI (importedModules PySem.Challenge.pw_eachstepsame_k49_loops_and_depths.main.body)&&(⟨hf w.params,⟨[]⟩,{},834,os⟩:Shared).heap.isNs mainGlobals&&(⟨hf w.params,⟨[]⟩,{},834,os⟩:Shared).heap.isNs builtinsNs&&tablesOk q (⟨hf w.params,⟨[]⟩,{},834,os⟩:Shared).heap&&Xt (⟨hf w.params,⟨[]⟩,{},834,os⟩:Shared)&&(if true then(⟨hf w.params,⟨[]⟩,{},834,os⟩:Shared).gens.size==0 else !leftWithCleanup (⟨hf w.params,⟨[]⟩,{},834,os⟩:Shared).gens))=λos=>true:=by
 rewrite[PySem.W.Fast.te821141287760084731,PySem.W.Fast.te3399658132070893891,PySem.W.Fast.te7409074990110511671,PySem.W.Fast.te13664370479719496447,PySem.W.Fast.te5923862056798008813,PySem.W.Fast.te10994771534591457954,PySem.W.Fast.te8175697017637028699,PySem.W.Fast.te1768822226353211369,PySem.W.Fast.te10544986032919753165]
 kernel_rfl
theorem lk5(w:World):(λos:OsState=>tabsOk q (⟨hf w.params,⟨[]⟩,{},834,os⟩:Shared))=λos=>true:=by
 rewrite[PySem.W.Fast.te479339242167458305,PySem.W.Fast.te1768822226353211369,PySem.W.Fast.te10544986032919753165]
 kernel_rfl
theorem lk6(w:World):(λos:OsState=>pinSeenD q (drecsOf q) (⟨hf w.params,⟨[]⟩,{},834,os⟩:Shared))=λos=>pinGoodD (drecsOf q):=by
 rewrite[PySem.W.Fast.te16090120013241838585,PySem.W.Fast.te3247288618530077131,PySem.W.Fast.te1768822226353211369,PySem.W.Fast.te10544986032919753165]
 kernel_rfl
theorem lk7(w:World):(λos:OsState=>plainSeenE q (looseW q []) (⟨hf w.params,⟨[]⟩,{},834,os⟩:Shared))=λos=>plainGoodE q (looseW q []):=by
 rewrite[PySem.W.Fast.te2386780881361962483,PySem.W.Fast.te821141287760084731,PySem.W.Fast.te1768822226353211369,PySem.W.Fast.te10544986032919753165]
 kernel_rfl
theorem lk8(w:World):(λos:OsState=>plainSeenD q [] (⟨hf w.params,⟨[]⟩,{},834,os⟩:Shared))=λos=>plainGoodD q []:=by
 rewrite[PySem.W.Fast.te11698064438423848299,PySem.W.Fast.te1768822226353211369,PySem.W.Fast.te10544986032919753165]
 kernel_rfl
theorem lk9(w:World):(λos:OsState=>wideSeen q (⟨hf w.params,⟨[]⟩,{},834,os⟩:Shared))=λos=>wideGood q:=by
 rewrite[PySem.W.Fast.te7317090234206586261,PySem.W.Fast.te1768822226353211369,PySem.W.Fast.te10544986032919753165]
 kernel_rfl
theorem lk10(w:World):(λos:OsState=>clsSeenW q [] (⟨hf w.params,⟨[]⟩,{},834,os⟩:Shared))=λos=>clsGoodW q []:=by
 rewrite[PySem.W.Fast.te7369524293546568484,PySem.W.Fast.te1768822226353211369,PySem.W.Fast.te10544986032919753165]
 kernel_rfl
theorem kkc:K=kc:=rfl
theorem lk11(w:World):(λos:OsState=>hk.obs (⟨hf w.params,⟨[]⟩,{},834,os⟩:Shared))=λos=>hk.val w:=by
 show(λos:OsState=>as.map (⟨hf w.params,⟨[]⟩,{},834,os⟩:Shared).heap.get?)=λos=>(K w.params).map λp=>some p.2
 rewrite[kkc,PySem.W.Fast.te10544986032919753165,PySem.W.Fast.te11339538413228328203]
 kernel_rfl
theorem looks(w:World):(λos:OsState=>((staticsOk (importedModules PySem.Challenge.pw_eachstepsame_k49_loops_and_depths.main.body) (boot_heap w.params) (hf w.params)&&namesBound PySem.Challenge.pw_eachstepsame_k49_loops_and_depths (hf w.params)&&gensDone (⟨hf w.params,⟨[]⟩,{},834,os⟩:Shared)&&laidKept (boot_heap w.params) (hf w.params)),
  openSeen q [] (importedModules PySem.Challenge.pw_eachstepsame_k49_loops_and_depths.main.body) Xt true (⟨hf w.params,⟨[]⟩,{},834,os⟩:Shared),hk.obs (⟨hf w.params,⟨[]⟩,{},834,os⟩:Shared)))=λ_=>(true,openGood q [],hk.val w):=by
 funext os;refine looks_pair (congrFun (lk1 w) os) (looks_pair ?_ (congrFun (lk11 w) os));exact looks_pair (congrFun (lk2 w) os) (looks_pair (congrFun (lk3 w) os) (looks_pair (congrFun (lk4 w) os) (looks_pair (congrFun (lk5 w) os) (looks_pair (congrFun (lk6 w) os) (looks_pair (congrFun (lk7 w) os) (looks_pair (congrFun (lk8 w) os) (looks_pair (congrFun (lk9 w) os) (congrFun (lk10 w) os))))))))
theorem left:LeftO PySem.Challenge.pw_eachstepsame_k49_loops_and_depths q [] Xt hk.obs hk.val 6880 true:=
 LeftO.of_pieces (boot_open (by kernel_rfl) (by kernel_rfl) (λs=>by kernel_rfl)) (λw=>by kernel_rfl) run (by kernel_rfl) looks
end
end Op
noncomputable section
section
open PySem PySem.Spec PyProof.Rows
noncomputable def aa:= @wpAny_bind
noncomputable def ah:= @Heap.get?_push_of_some
noncomputable def aF:= @List.getElem?_set_ne
noncomputable def aP:= @Bool.false_ne_true
noncomputable def af:= @wpAny_pure
noncomputable def ag:= @Option.some.inj
noncomputable def ac:= @Nat.le_refl
noncomputable def am:= @Heap.lt_size
noncomputable def aC:= @Nat.ne_of_lt
noncomputable def aj:= @List.mem_of_getElem?
noncomputable def aA:= @Nat.lt_of_lt_of_le
noncomputable def aw:= @Heap.get?_push_size
noncomputable def ae:= @List.getElem?_eq_getElem
noncomputable def bo:= @List.set_append_left
noncomputable def aQ:= @PySem.mem_of_lookup
noncomputable def au:= @List.length_set
noncomputable def aO:= @Nat.lt_succ_self
noncomputable def aq:= @List.getElem?_map
noncomputable def aS:= @List.mem_append_right
noncomputable def ao:= @List.getElem?_append_left
noncomputable def aE:= @List.getElem?_append_right
noncomputable def ai:= @List.length_append
noncomputable def aL:= @List.getElem?_set_self
noncomputable def aB:= @Nat.le_trans
noncomputable def bq:= @Nat.ne_of_gt
noncomputable def aJ:= @List.mem_append_left
noncomputable def aT:= @List.getElem?_eq_none
noncomputable def a9:= @Nat.lt_irrefl
noncomputable def aY:= @wpAny_mono
noncomputable def a_:= @PyProof.Rows.callWith_type1
theorem av{α:Type _}{l:List α}{i:Nat}{a:α}(h:l[i]? =some a):∃h:i<l.length,l[i]=a:=List.getElem?_eq_some_iff.mp h
noncomputable abbrev aD:=PySem.W.Frag
end
theorem jZ{P:Prop}(h:false=true):P:=absurd h aP
namespace L2
open PySem PySem.Spec PyProof.Rows
variable{us:List Value}{u:Value}{C a b dx it:Addr}{base h:Heap}{w:World}{P:Program}{o:Obj}{ch fp:List Addr}{i j n t':Nat}{qual x:Str}{E Q:Value->Shared->Prop}{A:Around}{c e tg:Expr}{s:Shared}{pos pos':Pos}{pins:List (Addr×Obj)}{f:Value->Value->Sem Value}{mA mg:Str->Option Value}{kw:List (Str×Value)}
noncomputable abbrev Key:=Sum Int Str
def gR:Key->Value->Bool
 | .inl k,v=>Value.isInt k v
 | .inr x,v=>Value.isStrOf x v
def Dn(w:World):Key->Int
 | .inl k=>hashInt k
 | .inr x=>hashStr w x
theorem bC:∀{k:Key}{v:Value},gR k v=true->(∃i t,k=Sum.inl i/\v=Value.int i t)∨(∃x t,k=Sum.inr x/\v=Value.str x t)
 | .inl i,v,h=>by obtain⟨t,e⟩:=Value.isInt_shape (k:=i) (v:=v) h;exact .inl ⟨i,t,rfl,e⟩
 | .inr x,v,h=>by obtain⟨t,e⟩:=Value.isStrOf_shape (x:=x) (v:=v) h;exact .inr ⟨x,t,rfl,e⟩
theorem se(i:Int)(t:Tok):gR (.inl i) (.int i t)=true:=by simp[gR,Value.isInt]
theorem sd(x:Str)(t:Tok):gR (.inr x) (.str x t)=true:=by simp[gR,Value.isStrOf]
theorem z3(a b:Int):decide ((Sum.inl a:Key)=Sum.inl b)=(a==b):=by
 by_cases e:a=b
 ·subst e;simp
 ·have h:¬(Sum.inl a:Key)=Sum.inl b:=λq=>e (Sum.inl.inj q);rw[decide_eq_false h];exact(beq_eq_false_iff_ne.mpr e).symm
theorem zX(a b:Str):decide ((Sum.inr a:Key)=Sum.inr b)=decide (a=b):=by
 by_cases e:a=b
 ·subst e;simp
 ·have h:¬(Sum.inr a:Key)=Sum.inr b:=λq=>e (Sum.inr.inj q);rw[decide_eq_false h,decide_eq_false e]
theorem zZ(a:Int)(b:Str):decide ((Sum.inl a:Key)=Sum.inr b)=false:=decide_eq_false (λq=>nomatch q)
theorem zY(a:Str)(b:Int):decide ((Sum.inr a:Key)=Sum.inl b)=false:=decide_eq_false (λq=>nomatch q)
def bd(prog:Program)(w:World):PySem.KeyKind prog w Key where
 is:=gR
 hash:=Dn w
 inj:=λv a b ha hb=>by
  rcases bC ha with⟨i,t,rfl,rfl⟩|⟨x,t,rfl,rfl⟩
  ·rcases bC hb with⟨j,u,rfl,e⟩|⟨y,u,rfl,e⟩
   ·injection e with e1 _;rw[e1]
   ·exact nomatch e
  ·rcases bC hb with⟨j,u,rfl,e⟩|⟨y,u,rfl,e⟩
   ·exact nomatch e
   ·injection e with e1 _;rw[e1]
 byValue:=λk v h=>by rcases bC h with⟨i,t,rfl,rfl⟩|⟨x,t,rfl,rfl⟩<;>rfl
 pyHash:=λhv h=>by
  rcases bC hv with⟨i,t,rfl,rfl⟩|⟨x,t,rfl,rfl⟩
  ·exact wpAny_pyHash_int h
  ·exact wpAny_pyHash_str h
 eqBool:=λhu hv h=>by
  rcases bC hu with⟨i,t,rfl,rfl⟩|⟨x,t,rfl,rfl⟩
  ·rcases bC hv with⟨j,u,rfl,rfl⟩|⟨y,u,rfl,rfl⟩
   ·rw[z3] at h;exact wpAny_eqBool_int h
   ·rw[zZ] at h;exact SeqAt.EqAt.int_str i t y u _ _ _ _ h
  ·rcases bC hv with⟨j,u,rfl,rfl⟩|⟨y,u,rfl,rfl⟩
   ·rw[zY] at h;exact SeqAt.EqAt.str_int x t j u _ _ _ _ h
   ·rw[zX] at h;exact wpAny_eqBool_str h
 «strs»:=λk x t v h=>by
  rcases bC h with⟨i,u,rfl,e⟩|⟨y,u,rfl,e⟩
  ·exact nomatch e
  ·injection e with e1 _;subst e1;cases v<;>rfl
theorem nE(prog:Program)(w:World)(i:Int)(t:Tok):(bd prog w).is (.inl i) (.int i t)=true:=se i t
theorem nD(prog:Program)(w:World)(x:Str)(t:Tok):(bd prog w).is (.inr x) (.str x t)=true:=sd x t
inductive V where
 |non|bl (b:Bool)|int (i:Int)|str (x:Str)|byt (b:Array UInt8)|flt (b:UInt64)|ref (a:Addr)|ty (n:String)
 deriving DecidableEq
noncomputable def RelV:V->Value->Prop
 | .non,u=>u=Value.none
 | .bl b,u=>u=Value.bool b
 | .int i,u=>∃t,u=Value.int i t
 | .str x,u=>∃t,u=Value.str x t
 | .byt b,u=>∃t,u=Value.bytes b t
 | .flt b,u=>∃t,u=Value.float b t
 | .ref a,u=>u=Value.ref a
 | .ty n,u=>u=Value.type n
abbrev bh:List V->List Value->Prop:=Paired RelV
theorem bh.length{xs:List V}(r:bh xs us):xs.length=us.length:=Paired.length r
theorem bh.get:∀{xs:List V}{us:List Value}{i:Nat}{x:V},bh xs us->xs[i]? =some x->∃u,us[i]? =some u/\RelV x u
 |_,_,_,_,.nil,e=>by simp at e
 |_,_,0,_,.cons r _,e=>by simp at e;subst e;exact⟨_,rfl,r⟩
 |_,_,i+1,x,.cons _ t,e=>by
  obtain⟨u,h1,B⟩:=bh.get (i:=i) (x:=x) t (by simpa using e)
  exact⟨u,by simpa using h1,B⟩
theorem bh.set{x:V}(r:RelV x u):∀{xs:List V}{us:List Value}(i:Nat),bh xs us->bh (xs.set i x) (us.set i u)
 |_,_,_,.nil=>.nil
 |_,_,0,.cons _ t=>.cons r t
 |_,_,i+1,.cons q t=>.cons q (bh.set r i t)
theorem bh.append:∀{xs ys:List V}{us ws:List Value},bh xs us->bh ys ws->bh (xs++ys) (us++ws)
 |_,_,_,_,.nil,s=>s
 |_,_,_,_,.cons r t,s=>.cons r (bh.append t s)
theorem bh.take:∀{xs:List V}{us:List Value}(n:Nat),bh xs us->bh (xs.take n) (us.take n)
 |_,_,0,_=>.nil
 |_,_,_+1,.nil=>.nil
 |_,_,n+1,.cons r t=>.cons r (bh.take n t)
theorem bh.drop:∀{xs:List V}{us:List Value}(n:Nat),bh xs us->bh (xs.drop n) (us.drop n)
 |_,_,0,r=>r
 |_,_,_+1,.nil=>.nil
 |_,_,n+1,.cons _ t=>bh.drop n t
def fc:Option V->Option Value->Prop
 |some v,some u=>RelV v u
 |none,none=>True
 |_,_=>False
def KV{κ:Type}:List (κ×V)->List (κ×Value)->Prop:=Paired λ(p:κ×V)(q:κ×Value)=>p.1=q.1/\RelV p.2 q.2
noncomputable def kV:Key->V
 | .inl i=>.int i
 | .inr x=>.str x
inductive HO where
 |lst (xs:List V)
 |tup (xs:List V)
 |dK (kvs:List (Key×V))|dT (kvs:List (List Key×V))
 |set (S:Int->Bool)(n:Nat)
 |ins (C dx:Addr)(fs:List (Str×V))
 |own (x:Addr)
 |xd (fs:List (Str×V))
 |met (f x:Addr)
 |rng (lo hi:Int)
 |frz (o:Obj)(u:HO)
 |tbl (ps:Array Value)
 |ext (φ:Heap->Prop)
noncomputable abbrev Hp:=Addr->Option HO
noncomputable def upd(H:Hp)(a:Addr)(o:HO):Hp:=λb=>if b=a then some o else H b
theorem bf{H:Hp}{o:HO}:upd H a o a=some o:=by unfold upd;rw[if_pos rfl]
theorem aG{H:Hp}{o:HO}(h:b≠a):upd H a o b=H b:=by unfold upd;rw[if_neg h]
theorem b7{H:Hp}{o u:HO}(h:H a=some o)(h':H b=some u)(d:o≠u):a≠b:=by intro e;subst e;rw[h] at h';exact d (ag h')
theorem aH{H:Hp}{o:HO}(h:H a=some o)(h':H b=none):a≠b:=by intro e;subst e;rw[h] at h';cases h'
noncomputable def mR(h:Heap)(a:Addr)(its:Array Value):Prop:=∃o,h.get? a=some o/\(o.cls=.type "tuple" /\o.dict=none)/\∃n,o.data=.seq its n
theorem mR.tup{its:Array Value}(x:mR h a its):IsTup h a its:=let⟨o,e,c,d⟩:=x;⟨o,e,c.1,d⟩
theorem mR.lt{its:Array Value}(x:mR h a its):a<h.objs.size:=x.tup.lt
theorem mR.new(h:Heap)(its:Array Value):mR (h.push {cls:= .type "tuple",data:= .seq its}) h.objs.size its:=⟨_,aw _ rfl,⟨rfl,rfl⟩,0,rfl⟩
section
variable(P:Program)(w:World)
def bT(H:Hp)(h:Heap)(a:Addr):HO->Prop
 | .lst xs=>xs.length<=sizeLine/\∃(its:List Value)(n:Nat),bh xs its/\h.get? a=some {cls:= .type "list",data:= .seq its.toArray n}
 | .tup xs=>xs.length<=sizeLine/\∃its:List Value,bh xs its/\mR h a its.toArray
 | .dK kvs=>kvs.length<=sizeLine/\(a==sysModules)=false/\∃vs,KV kvs vs/\h.DictOf (bd P w) a vs
 | .dT kvs=>kvs.length<=sizeLine/\(a==sysModules)=false/\∃xs:List (List Key×Addr×Value),
   Paired (λ(p:List Key×V)(q:List Key×Addr×Value)=>p.1=q.1/\H q.2.1=some (.tup (p.1.map kV))/\RelV p.2 q.2.2) kvs xs/\
   ∃o es ep,h.get? a=some o/\o.ExactDict/\o.data=.dict es ep/\es.toList=xs.map (entryOfKey (tupleKind (bd P w)))/\(xs.map (·.1)).Nodup
 | .set S n=>h.SetOf (intKind P w) a S n
 | .ins C dx fs=>H dx=some (.own a)/\fs.length<=1000/\dx≠a/\h.get? a=some (PySem.W.instObj C dx)/\
   ∃mA,h.Ns1 dx mA/\(∀f,fc (fs.lookup f) (mA f))/\PySem.Within mA (fs.map (·.1))
 | .own _=>∃o,h.get? a=some o
 | .xd fs=>∃mA,h.Ns1 a mA/\∀f,fc (fs.lookup f) (mA f)
 | .rng lo hi=>∃t u v,h.get? a=some {cls:= .type "range",data:= .fields #[.int lo t,.int hi u,.int 1 v]}
 | .frz o u=>h.get? a=some o/\bT H h a u
 | .tbl ps=>h.get? a=some {cls:= .none,data:= .fields ps}
 | .met f x=>h.get? a=some (PySem.W.methodObj (.ref f) (.ref x))
 | .ext φ=>φ h/\(∃o,h.get? a=some o)/\∀h1 h2:Heap,φ h1->(∀o,h1.get? a=some o->h2.get? a=some o)->φ h2
def gz(H:Hp)(h:Heap):Prop:=∀a o,H a=some o->bT P w H h a o
end
section
variable{P:Program}{w:World}{H H':Hp}{h h':Heap}{a:Addr}{o:HO}
theorem bT.lt(x:bT P w H h a o):a<h.objs.size:=by
 cases o with
 |lst xs=>obtain⟨_,_,_,_,e⟩:=x;exact am e
 |tup xs=>obtain⟨_,_,_,p⟩:=x;exact p.lt
 |dK kvs=>obtain⟨_,_,_,_,o,_,_,e,_⟩:=x;exact am e
 |dT kvs=>obtain⟨_,_,_,_,o,_,_,e,_⟩:=x;exact am e
 |set S n=>obtain⟨o,_,_,_,e,_⟩:=x;exact am e
 |ins C dx fs=>obtain⟨_,_,_,e,_⟩:=x;exact am e
 |own y=>obtain⟨_,e⟩:=x;exact am e
 |xd fs=>obtain⟨_,⟨_,_,_,e,_⟩,_⟩:=x;exact am e
 |rng lo hi=>obtain⟨_,_,_,e⟩:=x;exact am e
 |frz ob u=>obtain⟨e,_⟩:=x;exact am e
 |tbl ps=>exact am (show h.get? a=some _ from x)
 |met f y=>exact am (show h.get? a=some _ from x)
 |ext φ=>obtain⟨_,⟨_,e⟩,_⟩:=x;exact am e
theorem Paired.mapP{α β:Type}{F G:α->β->Prop}:∀{l₁:List α}{l₂:List β},Paired F l₁ l₂->(∀a b,F a b->G a b)->Paired G l₁ l₂
 |_,_,.nil,_=>.nil
 |_,_,.cons r t,f=>.cons (f _ _ r) (Paired.mapP t f)
theorem bT.stay(x:bT P w H h a o)(k:∀b u,(b=a∨H b=some (.own a))->h.get? b=some u->h'.get? b=some u)
  (ho:∀b,H b=some (.own a)->H' b=some (.own a))(ht:∀b xs,H b=some (.tup xs)->H' b=some (.tup xs)):bT P w H' h' a o:=by
 induction o with
 |lst xs=>obtain⟨z,its,n,r,e⟩:=x;exact⟨z,its,n,r,k _ _ (.inl rfl) e⟩
 |tup xs=>obtain⟨z,its,r,B,e,c⟩:=x;exact⟨z,its,r,B,k _ _ (.inl rfl) e,c⟩
 |dK kvs=>obtain⟨z,y,vs,r,B,es,ep,e,c⟩:=x;exact⟨z,y,vs,r,B,es,ep,k _ _ (.inl rfl) e,c⟩
 |dT kvs=>obtain⟨z,y,xs,r,B,es,ep,e,c⟩:=x;exact⟨z,y,xs,Paired.mapP r λp q z=>⟨z.1,ht _ _ z.2.1,z.2.2⟩,B,es,ep,k _ _ (.inl rfl) e,c⟩
 |set S n=>obtain⟨B,es,ep,t,e,c⟩:=x;exact⟨B,es,ep,t,k _ _ (.inl rfl) e,c⟩
 |ins C dx fs=>obtain⟨d,z,ne,e,mA,⟨I,es,ep,J,c⟩,r⟩:=x;exact⟨ho _ d,z,ne,k _ _ (.inl rfl) e,mA,⟨I,es,ep,k _ _ (.inr d) J,c⟩,r⟩
 |own y=>obtain⟨B,e⟩:=x;exact⟨B,k _ _ (.inl rfl) e⟩
 |xd fs=>obtain⟨mA,⟨I,es,ep,e,c⟩,r⟩:=x;exact⟨mA,⟨I,es,ep,k _ _ (.inl rfl) e,c⟩,r⟩
 |rng lo hi=>obtain⟨t,u,v,e⟩:=x;exact⟨t,u,v,k _ _ (.inl rfl) e⟩
 |frz B u ih=>obtain⟨e,q⟩:=x;exact⟨k _ _ (.inl rfl) e,ih q⟩
 |tbl ps=>have e:h.get? a=some {cls:= .none,data:= .fields ps}:=x;show h'.get? a=some {cls:= .none,data:= .fields ps};exact k a _ (.inl rfl) e
 |met f y=>have e:h.get? a=some (PySem.W.methodObj (.ref f) (.ref y)):=x;show h'.get? a=some (PySem.W.methodObj (.ref f) (.ref y));exact k a _ (.inl rfl) e
 |ext φ=>obtain⟨p,⟨o,e⟩,st⟩:=x;exact⟨st _ _ p λo q=>k _ _ (.inl rfl) q,⟨o,k _ _ (.inl rfl) e⟩,st⟩
theorem gz.lt(x:gz P w H h)(e:H a=some o):a<h.objs.size:=(x a o e).lt
theorem gz.fresh(x:gz P w H h)(e:h.objs.size<=a):H a=none:=by
 cases q:H a with
 |none=>rfl
 |some u=>exact absurd (aA (x.lt q) e) (a9 _)
theorem gz.kept(x:gz P w H h)(k:∀b u,h.get? b=some u->h'.get? b=some u):gz P w H h':=λa o e=>
 (x a o e).stay (λb u _ q=>k b u q) (λ_ q=>q) λ_ _ q=>q
theorem gz.laid(x:gz P w H h)(k:∀b u,h.get? b=some u->h'.get? b=some u)(I:h.objs.size<=a)(new:bT P w (upd H a o) h' a o):gz P w (upd H a o) h':=λb u e=>by
 have B:=x.fresh I;by_cases hb:b=a
 ·subst hb;rw[bf] at e;cases e;exact new
 ·rw[aG hb] at e;exact(x b u e).stay (λc v _ q=>k c v q) (λc q=>by rw[aG (aH q B)];exact q) λc xs q=>by rw[aG (aH q B)];exact q
end
def Rd(H:Hp)(a:Addr)(u:HO):Prop:=H a=some u∨∃o,H a=some (.frz o u)
theorem Rd.ok{H:Hp}{u:HO}(r:Rd H a u)(x:gz P w H h):bT P w H h a u:=by
 rcases r with r|⟨o,r⟩
 ·exact x a u r
 ·obtain⟨_,q⟩:=x a _ r;exact q
noncomputable def Cs:Option HO->Prop
 |some (.lst _)=>True
 |some (.dK _)=>True
 |some (.dT _)=>True
 |some (.set _ _)=>True
 |some (.ins _ _ _)=>True
 |some (.ext _)=>True
 |_=>False
section
variable{P:Program}{w:World}{H:Hp}{h h':Heap}{x e:Addr}{o':HO}
theorem gz.write(ok:gz P w H h)(B:Cs (H x))(Y:e=x∨H e=some (.own x))(k:∀b u,b≠e->h.get? b=some u->h'.get? b=some u)(J:∃u,h'.get? e=some u)
  (new:bT P w (upd H x o') h' x o'):gz P w (upd H x o') h':=λb u q=>by
 have nown:∀c y,H c=some (.own y)->c≠x:=λc y r z=>by subst z;rw[r] at B;exact B
 have ntup:∀c xs,H c=some (.tup xs)->c≠x:=λc xs r z=>by subst z;rw[r] at B;exact B
 by_cases hb:b=x
 ·subst hb;rw[bf] at q;cases q;exact new
 ·rw[aG hb] at q;by_cases hbe:b=e
  ·have U:H b=some (.own x):=by
    rcases Y with z|z
    ·exact absurd (hbe.trans z) hb
    ·rw[hbe];exact z
   rw[q] at U;cases U;obtain⟨v,Z⟩:=J;exact⟨v,by rw[hbe];exact Z⟩
  ·refine(ok b u q).stay (λc v I r=>k c v ?_ r) (λc r=>by rw[aG (nown c b r)];exact r) λc xs r=>by rw[aG (ntup c xs r)];exact r
   rcases I with rfl|I
   ·exact hbe
   ·rintro rfl;rcases Y with z|z
    ·exact nown c b I z
    ·rw[I] at z;cases z;exact hb rfl
end
structure Un(fs ex:List Addr)(H H':Hp)(h h':Heap):Prop where
 keep:∀b o,h.get? b=some o->H b=none->b∉fs->b∉ex->h'.get? b=some o
 slot:∀b o,h.get? b=some o->H b=none->b∈fs->b∉ex->∃sl,h'.get? b=some {o with slots:=sl}
 free:∀b o,h.get? b=some o->H b=none->b∉ex->H' b=none
 there:∀b o,h.get? b=some o->b∉ex->∃o',h'.get? b=some o'
 tups:∀b xs,H b=some (.tup xs)->H' b=some (.tup xs)
 frzs:∀b o u,H b=some (.frz o u)->H' b=some (.frz o u)
 tbls:∀b ps,H b=some (.tbl ps)->∃more,H' b=some (.tbl (ps++more))
section
variable{fs ex:List Addr}{H H1:Hp}{h h1 h':Heap}{a x e:Addr}{o:HO}
theorem Un.any(u:Un fs ex H H1 h h1){B:Obj}(q:h.get? b=some B)(n:H b=none)(I:b∉ex):∃sl,h1.get? b=some {B with slots:=sl}:=by
 by_cases hb:b∈fs
 ·exact u.slot b B q n hb I
 ·exact⟨B.slots,u.keep b B q n hb I⟩
theorem Un.kept(k:∀b u,h.get? b=some u->h'.get? b=some u):Un fs ex H H h h':=
 ⟨λb B q _ _ _=>k b B q,λb B q _ _ _=>⟨B.slots,k b B q⟩,λ_ _ _ n _=>n,λb B q _=>⟨B,k b B q⟩,λ_ _ q=>q,λ_ _ _ q=>q,λ_ ps q=>⟨#[],by rw[q];simp⟩⟩
theorem Un.refl:Un fs ex H H h h:=Un.kept λ_ _ q=>q
theorem Un.laid(k:∀b u,h.get? b=some u->h'.get? b=some u)(I:h.objs.size<=a)(B:H a=none):Un fs ex H (upd H a o) h h' where
 keep:=λb u q _ _ _=>k b u q
 slot:=λb u q _ _ _=>⟨u.slots,k b u q⟩
 free:=λb u q n _=>by rw[aG (aC (aA (am q) I))];exact n
 there:=λb u q _=>⟨u,k b u q⟩
 tups:=λb xs q=>by rw[aG (aH q B)];exact q
 frzs:=λb u xs q=>by rw[aG (aH q B)];exact q
 tbls:=λb ps q=>⟨#[],by rw[aG (aH q B),q];simp⟩
theorem Un.write(B:Cs (H x))(he:e=x∨H e=some (.own x))(k:∀b u,b≠e->h.get? b=some u->h'.get? b=some u)(J:∃u,h'.get? e=some u):Un fs ex H (upd H x o) h h':=by
 have U:∀b,H b=none->b≠x:=λb n z=>by subst z;rw[n] at B;exact B
 have Y:∀b,H b=none->b≠e:=λb n z=>by
  subst z;rcases he with r|r
  ·exact U b n r
  ·rw[n] at r;cases r
 have I:∀b u,H b=some u->¬Cs (some u)->b≠x:=λb u q Z z=>by subst z;rw[q] at B;exact Z B
 refine⟨λb u q n _ _=>k b u (Y b n) q,λb u q n _ _=>⟨u.slots,k b u (Y b n) q⟩,λb u q n _=>by rw[aG (U b n)];exact n,λb u q _=>?_,
  λb xs q=>by rw[aG (I b _ q λz=>z)];exact q,λb u xs q=>by rw[aG (I b _ q λz=>z)];exact q,λb ps q=>⟨#[],by rw[aG (I b _ q λz=>z),q];simp⟩⟩
 by_cases hbe:b=e
 ·subst hbe;exact J
 ·exact⟨u,k b u hbe q⟩
end
def Cy(h:Heap)(H:Hp):List Addr:=(List.range h.objs.size).filter λa=>(H a).isSome
def mz(h:Heap)(H:Hp):Heap:=PySem.W.hideAll h (Cy h H)
theorem sj(h:Heap)(H:Hp):(mz h H).objs.size=h.objs.size:=PySem.W.hideAll_size _ _
theorem uT{H:Hp}(e:h.get? b=some o)(n:H b=none):(mz h H).get? b=some o:=
 PySem.W.hideAll_get _ e λB=>by have q:(H b).isSome=true:=(List.mem_filter.mp B).2;rw[n] at q;simp at q
theorem wY{H:Hp}(e:(mz h H).get? b=some o):h.get? b=some o/\H b=none:=by
 have e':h.get? b=some o:=PySem.W.of_hideAll (Cy h H) e;refine⟨e',?_⟩;cases q:H b with
 |none=>rfl
 |some x=>
  have B:b∈Cy h H:=List.mem_filter.mpr ⟨List.mem_range.mpr (am e'),by simp[q]⟩
  have z:(mz h H).get? b=none:=PySem.W.hideAll_none (Cy h H) B;rw[z] at e;cases e
noncomputable def xH(g h:Heap)(L:Addr):List (Addr×Obj):=(List.range h.objs.size).filterMap λa=>if a=L∨(g.get? a).isSome=true then none else(h.get? a).map λo=>(a,o)
def rest(g h:Heap)(L d:Addr):List (Addr×Obj):=(xH g h L).filter λp=>decide (p.1≠d)
structure Mod(K:aD)(mg:Str->Option Value)(base:Heap):Prop where
 kin:K.In base
 glob:base.Ns mainGlobals mg
 blt:∃mb,base.Ns builtinsNs mb/\∀x:Str,x≠ "__name__" ->mb x=bootBuiltins x
 nolimit:base.NoLimit
structure Cx where
 prog:Program
 w:World
 K:aD
 mg:Str->Option Value
 base:Heap
 A:Around
 N:List Str
 s₀:Shared
 H₀:Hp
 env:Env
 outer:List Env
 stack:List Env
 ex:List Addr
 fn:Str->Bool
 calm:Bool
 pn:List (Addr×Obj)
 xe:Value->Shared->Prop
noncomputable def sK(l:List Env):List Addr:=l.filterMap (·.frame)
abbrev Cx.fs(X:Cx):List Addr:=sK X.outer
noncomputable def Cp(sc:Scope)(x:Str):Prop:=sc.names.lookup x=some .local∨sc.names.lookup x=some .cell∨sc.names.lookup x=some .free
noncomputable def Loc(sc:Scope)(x:Str):Prop:=sc.names.lookup x=some .local∨sc.names.lookup x=some .cell
noncomputable def Look(env:Env)(h:Heap)(m:Str->Option Value)(x:Str)(u:Value):Prop:=
 (env.kindOf x=some .local/\m x=some u)∨((env.kindOf x=some .cell∨env.kindOf x=some .free)/\∃c,env.cells.lookup x=some c/\h.IsCell c (some u))
structure Cx.Ok(X:Cx):Prop where
 mod:Mod X.K X.mg X.base
 kind:X.env.scope.kind=.function
 glob:X.env.globals=mainGlobals
 blt:X.env.builtins=builtinsNs
 above:X.s₀.heap.objs.size<=X.env.locals
 inj:∀x y c,X.env.cells.lookup x=some c->X.env.cells.lookup y=some c->x=y
 has:∀x,(X.env.kindOf x=some .cell∨X.env.kindOf x=some .free)->∃c,X.env.cells.lookup x=some c
 cab:∀x c,X.fn x=true->X.env.cells.lookup x=some c->X.s₀.heap.objs.size<=c
 hd:X.calm=true->X.A.handled=none
 frames:X.A.frames=some X.stack
 stk:X.stack=X.outer∨(X.stack=X.env::X.outer/\X.env.frame=some X.env.locals)
 exf:∀b∈X.ex,b≠X.env.locals/\∀x c,X.env.cells.lookup x=some c->c≠b
 bs:∀b o,X.base.get? b=some o->X.s₀.heap.get? b=some o/\X.H₀ b=none
 bsz:X.base.objs.size<=X.s₀.heap.objs.size
 noex:∀b o,X.base.get? b=some o->b∉X.ex
 exfs:∀b∈X.ex,b∉X.fs
 funs:X.s₀.heap.FunFrames X.base X.outer
 frf:∀b∈X.fs,X.H₀ b=none
structure Inv(X:Cx)(pins:List (Addr×Obj))(σ:List (Option V))(H:Hp)(s:Shared):Prop where
 ok:X.Ok
 os:s.os=X.s₀.os
 bare:AllBare s.gens
 base:Un X.fs X.ex X.H₀ H X.s₀.heap s.heap
 loc:∃m,s.heap.Ns X.env.locals m/\∀(i:Nat)(x:Str)(v:V),X.N[i]? =some x->σ[i]? =some (some v)->Cp X.env.scope x->∃u,RelV v u/\Look X.env s.heap m x u
 cell:∀x c,X.env.cells.lookup x=some c->∃v,s.heap.IsCell c v
 free:H X.env.locals=none
 freeC:∀x c,X.env.cells.lookup x=some c->H c=none
 pin:∀p∈X.pn++pins,s.heap.get? p.1=some p.2/\H p.1=none/\p.1≠X.env.locals/\p.1∉X.fs/\∀v,p.2.data≠ .cell v
 hok:gz X.prog X.w H s.heap
 len:σ.length=X.N.length
section
variable{X:Cx}{pins:List (Addr×Obj)}{σ:List (Option V)}{H H':Hp}{s:Shared}{h':Heap}
theorem Cx.Ok.nofr(ok:X.Ok)(e:X.base.get? b=some o):b∉X.fs:=λB=>by have:=(ok.funs.mem B).1;rw[e] at this;cases this
theorem Inv.bs(I:Inv X pins σ H s):∀b o,X.base.get? b=some o->s.heap.get? b=some o/\H b=none:=λb o e=>
 ⟨I.base.keep b o (I.ok.bs b o e).1 (I.ok.bs b o e).2 (I.ok.nofr e) (I.ok.noex b o e),I.base.free b o (I.ok.bs b o e).1 (I.ok.bs b o e).2 (I.ok.noex b o e)⟩
theorem Inv.bk(I:Inv X pins σ H s):∀b o,X.base.get? b=some o->s.heap.get? b=some o:=λb o e=>(I.bs b o e).1
theorem Inv.mod(I:Inv X pins σ H s):Mod X.K X.mg X.base:=I.ok.mod
theorem Inv.kIn(I:Inv X pins σ H s):X.K.In s.heap:=I.ok.mod.kin.keeps I.bk
theorem Inv.lt(I:Inv X pins σ H s):X.env.locals<s.heap.objs.size:=let⟨_,hn,_⟩:=I.loc;hn.lt
theorem Inv.sz(I:Inv X pins σ H s):X.s₀.heap.objs.size<=s.heap.objs.size:=aB I.ok.above (Nat.le_of_lt I.lt)
theorem Inv.nofs(I:Inv X pins σ H s)(h:s.heap.objs.size<=a):a∉X.fs:=λB=>by obtain⟨_,o,ho,_⟩:=I.ok.funs.mem B;exact absurd (aA (am ho) (aB I.sz h)) (a9 _)
theorem Inv.cne(I:Inv X pins σ H s):∀x c,X.env.cells.lookup x=some c->c≠X.env.locals:=λx c e z=>by obtain⟨v,o,ho,hd⟩:=I.cell x c e;obtain⟨m,⟨o',es,ep,B,J,_⟩,_⟩:=I.loc;rw[z,B] at ho;cases ho;rw[J] at hd;cases hd
theorem Inv.funs(I:Inv X pins σ H s):s.heap.FunFrames X.base X.outer:=by
 have all:∀(l:List Env),(∀b∈sK l,b∈X.fs)->X.s₀.heap.FunFrames X.base l->s.heap.FunFrames X.base l:=by
  intro l
  induction l with
  |nil=>intro _ _;trivial
  |cons env r ih=>
   intro hs hl;obtain⟨hk,⟨L,o,B,Z,ho,hd⟩,Y⟩:=hl;have U:L∈X.fs:=hs L (by unfold sK;rw[List.filterMap_cons,B];exact List.mem_cons_self)
   obtain⟨sl,e⟩:=I.base.slot L o ho (I.ok.frf L U) U λz=>I.ok.exfs L z U;exact⟨hk,⟨L,_,B,Z,e,hd⟩,ih (λb J=>hs b (by unfold sK;rw[List.filterMap_cons,B];exact List.mem_cons_of_mem _ J)) Y⟩
 exact all X.outer (λ_ J=>J) I.ok.funs
theorem Inv.stack(I:Inv X pins σ H s):s.heap.FunFrames X.base X.stack:=by
 rcases I.ok.stk with e|⟨e,hf⟩
 ·rw[e];exact I.funs
 ·rw[e];obtain⟨m,B,_⟩:=I.loc;refine .cons (by rw[I.ok.kind];decide) hf B ?_ I.funs
  exact Heap.get?_none_of_le (aB I.ok.bsz I.ok.above)
theorem Inv.stkSub(I:Inv X pins σ H s):∀b∈sK X.stack,b∈X.env.locals::X.fs:=λb B=>by
 rcases I.ok.stk with e|⟨e,hf⟩
 ·rw[e] at B;exact List.mem_cons_of_mem _ B
 ·rw[e] at B;unfold sK at B;rw[List.filterMap_cons,hf] at B;exact B
theorem Inv.stkFree(I:Inv X pins σ H s):∀b∈sK X.stack,H b=none:=λb B=>by
 rcases List.mem_cons.mp (I.stkSub b B) with e|B
 ·rw[e];exact I.free
 ·obtain⟨_,o,ho,_⟩:=I.ok.funs.mem B;exact I.base.free b o ho (I.ok.frf b B) λz=>I.ok.exfs b z B
theorem Inv.step{g':Array GenState}{d':Drawn}(I:Inv X pins σ H s)
  (U:∀b∈ch,(b∈X.ex∨X.s₀.heap.objs.size<=b)/\b≠X.env.locals/\(∀x c,X.env.cells.lookup x=some c->c≠b)/\∀p∈X.pn++pins,p.1≠b)
  (keep:∀b o,b≠X.env.locals->b∉X.fs->b∉ch->s.heap.get? b=some o->H b=none->h'.get? b=some o)
  (slot:∀b o,b≠X.env.locals->b∈X.fs->b∉ch->s.heap.get? b=some o->H b=none->∃sl,h'.get? b=some {o with slots:=sl})(free:∀b o,b∉ch->s.heap.get? b=some o->H b=none->H' b=none)
  (there:∀b o,b∉ch->s.heap.get? b=some o->∃o',h'.get? b=some o')
  (tups:∀b xs,H b=some (.tup xs)->H' b=some (.tup xs))(frzs:∀b o u,H b=some (.frz o u)->H' b=some (.frz o u))(tbls:∀b ps,H b=some (.tbl ps)->∃more,H' b=some (.tbl (ps++more)))
  (ns:∀m,s.heap.Ns X.env.locals m->h'.Ns X.env.locals m)(hok:gz X.prog X.w H' h')(hg:AllBare g'):
  Inv X pins σ H' {s with heap:=h',gens:=g',drawn:=d',toks:=t'}:=by
 have neL:∀b o,X.s₀.heap.get? b=some o->b≠X.env.locals:=λb o e=>aC (aA (am e) I.ok.above)
 have Y:∀b o,X.s₀.heap.get? b=some o->b∉X.ex->b∉ch:=λb o e B hb=>by
  rcases(U b hb).1 with z|z
  ·exact B z
  ·exact absurd (aA (am e) z) (a9 _)
 have cellK:∀x c,X.env.cells.lookup x=some c->∀v,s.heap.IsCell c v->h'.IsCell c v:=λx c e v hp=>by
  obtain⟨o,ho,hd⟩:=hp;have J:c∉ch:=λz=>(U c z).2.2.1 x c e rfl;by_cases hc:c∈X.fs
  ·obtain⟨sl,q⟩:=slot c o (I.cne x c e) hc J ho (I.freeC x c e);exact⟨_,q,hd⟩
  ·exact⟨o,keep c o (I.cne x c e) hc J ho (I.freeC x c e),hd⟩
 refine⟨I.ok,I.os,hg,⟨λb o e n hb B=>?_,λb o e n hb B=>?_,λb o e n B=>?_,λb o e B=>?_,λb xs e=>tups b xs (I.base.tups b xs e),λb o xs e=>frzs b o xs (I.base.frzs b o xs e),λb ps e=>?_⟩,?_,λx c e=>?_,?_,λx c e=>?_,λp hp=>?_,hok,I.len⟩
 ·exact keep b o (neL b o e) hb (Y b o e B) (I.base.keep b o e n hb B) (I.base.free b o e n B)
 ·obtain⟨sl,Z⟩:=I.base.slot b o e n hb B;obtain⟨sl',e2⟩:=slot b _ (neL b o e) hb (Y b o e B) Z (I.base.free b o e n B);exact⟨sl',e2⟩
 ·obtain⟨o',Z⟩:=I.base.there b o e B;exact free b o' (Y b o e B) Z (I.base.free b o e n B)
 ·obtain⟨o',Z⟩:=I.base.there b o e B;exact there b o' (Y b o e B) Z
 ·obtain⟨m1,Z⟩:=I.base.tbls b ps e;obtain⟨m2,e2⟩:=tbls b _ Z;exact⟨m1++m2,by rw[e2,Array.append_assoc]⟩
 ·obtain⟨m,hn,hl⟩:=I.loc;refine⟨m,ns m hn,λi x v Z e2 e3=>?_⟩;obtain⟨u,r,l⟩:=hl i x v Z e2 e3;refine⟨u,r,?_⟩;rcases l with l|⟨k,c,e,z⟩
  ·exact .inl l
  ·exact .inr ⟨k,c,e,cellK x c e _ z⟩
 ·obtain⟨v,z⟩:=I.cell x c e;exact⟨v,cellK x c e v z⟩
 ·obtain⟨m,⟨o,_,_,ho,_⟩,_⟩:=I.loc;exact free _ o (λz=>(U _ z).2.1 rfl) ho I.free
 ·obtain⟨v,o,ho,hd⟩:=I.cell x c e;exact free c o (λz=>(U c z).2.2.1 x c e rfl) ho (I.freeC x c e)
 ·obtain⟨e,n,ne,nf,d⟩:=I.pin p hp;have J:p.1∉ch:=λz=>(U p.1 z).2.2.2 p hp rfl;exact⟨keep p.1 p.2 ne nf J e n,free p.1 p.2 J e n,ne,nf,d⟩
theorem Inv.un(I:Inv X pins σ H s)(u:Un X.fs [] H H' s.heap h')(J:gz X.prog X.w H' h'):Inv X pins σ H' {s with heap:=h',toks:=t'}:=by
 obtain⟨m,⟨o,es,ep,ho,r⟩,_⟩:=id I.loc;obtain⟨sl,hL⟩:=u.any ho I.free (by simp)
 exact I.step (g':=s.gens) (d':=s.drawn) (ch:=[]) (λ_ z=>nomatch z) (λb o _ U _ e n=>u.keep b o e n U (by simp)) (λb o _ U _ e n=>u.slot b o e n U (by simp)) (λb o _ e n=>u.free b o e n (by simp)) (λb o _ e=>u.there b o e (by simp)) u.tups u.frzs u.tbls (λm' hm=>by obtain⟨o',Y,Z,B,r'⟩:=hm;rw[ho] at B;cases B;exact⟨_,Y,Z,hL,r'⟩) J I.bare
theorem Inv.call{g':Array GenState}{d':Drawn}(I:Inv X pins σ H s)(u:Un (sK X.stack) ch H H' s.heap h')(Y:gz X.prog X.w H' h')(hg:AllBare g')
  (U:∀b∈ch,(b∈X.ex∨X.s₀.heap.objs.size<=b)/\b≠X.env.locals/\(∀x c,X.env.cells.lookup x=some c->c≠b)/\∀p∈X.pn++pins,p.1≠b):
  Inv X pins σ H' {s with heap:=h',gens:=g',drawn:=d',toks:=t'}:=by
 obtain⟨m,⟨o,es,ep,ho,r⟩,_⟩:=id I.loc;obtain⟨sl,Z⟩:=u.any ho I.free λz=>(U _ z).2.1 rfl
 exact I.step (ch:=ch) U (λb o Z hb B e n=>u.keep b o e n (λz=>(List.mem_cons.mp (I.stkSub b z)).elim Z hb) B) (λb o _ _ B e n=>u.any e n B) (λb o B e n=>u.free b o e n B) (λb o B e=>u.there b o e B) u.tups u.frzs u.tbls (λm' hm=>by obtain⟨o',es',ep',J,r'⟩:=hm;rw[ho] at J;cases J;exact⟨_,es',ep',Z,r'⟩) Y hg
theorem Inv.turned(I:Inv X pins σ H s)(k:∀b o,b≠it->s.heap.get? b=some o->h'.get? b=some o)(Y:H it=none)(U:it≠X.env.locals)
  (h1:it∈X.ex∨X.s₀.heap.objs.size<=it)(h2:∀x c,X.env.cells.lookup x=some c->c≠it)(h3:∀p∈X.pn++pins,p.1≠it):Inv X pins σ H {s with heap:=h',toks:=t'}:=by
 have J:∀b u,H b=some u->b≠it:=λb u e z=>by rw[z,Y] at e;cases e
 refine I.step (g':=s.gens) (d':=s.drawn) (ch:=[it]) (λb hb=>?_) (λb o _ _ B e _=>k b o (λz=>B (by simp[z])) e) (λb o _ _ B e _=>⟨o.slots,k b o (λz=>B (by simp[z])) e⟩) (λ_ _ _ _ n=>n)
  (λb o B e=>⟨o,k b o (λz=>B (by simp[z])) e⟩) (λ_ _ e=>e) (λ_ _ _ e=>e) (λb ps e=>⟨#[],by rw[e];simp⟩) (λm Z=>?_) (λb u e=>?_) I.bare
 ·have e:b=it:=by simpa using hb
  subst e;exact⟨h1,U,h2,h3⟩
 ·obtain⟨o,es,ep,ho,r⟩:=Z;exact⟨o,es,ep,k _ o (Ne.symm U) ho,r⟩
 ·refine(I.hok b u e).stay (λc v B q=>k c v ?_ q) (λ_ q=>q) λ_ _ q=>q;rcases B with z|z
  ·rw[z];exact J b u e
  ·exact J c _ z
theorem Inv.tok(I:Inv X pins σ H s)(t:Nat):Inv X pins σ H {s with toks:=t}:=I.un (h':=s.heap) (t':=t) Un.refl I.hok
theorem Inv.kept(I:Inv X pins σ H s)(k:∀b u,s.heap.get? b=some u->h'.get? b=some u):Inv X pins σ H {s with heap:=h',toks:=t'}:=I.un (Un.kept k) (I.hok.kept k)
theorem Inv.laid{o:HO}(I:Inv X pins σ H s)(k:∀b u,s.heap.get? b=some u->h'.get? b=some u)(B:s.heap.objs.size<=a)(new:bT X.prog X.w (upd H a o) h' a o):
  Inv X pins σ (upd H a o) {s with heap:=h',toks:=t'}:=I.un (Un.laid k B (I.hok.fresh B)) (I.hok.laid k B new)
theorem Inv.write{x e:Addr}{o:HO}(I:Inv X pins σ H s)(J:Cs (H x))(U:e=x∨H e=some (.own x))(k:∀b u,b≠e->s.heap.get? b=some u->h'.get? b=some u)(B:∃u,h'.get? e=some u)
  (new:bT X.prog X.w (upd H x o) h' x o):Inv X pins σ (upd H x o) {s with heap:=h',toks:=t'}:=I.un (Un.write J U k B) (I.hok.write J U k B new)
theorem Inv.pins_of{pins':List (Addr×Obj)}(I:Inv X pins σ H s)(h:∀p∈pins',s.heap.get? p.1=some p.2/\H p.1=none/\p.1≠X.env.locals/\p.1∉X.fs/\∀v,p.2.data≠ .cell v):Inv X pins' σ H s:=
 ⟨I.ok,I.os,I.bare,I.base,I.loc,I.cell,I.free,I.freeC,λp B=>(List.mem_append.mp B).elim (λz=>I.pin p (aJ _ z)) (h p),I.hok,I.len⟩
theorem nB{N:List Str}(B:N.Nodup)(a:N[i]? =some x)(b:N[j]? =some x):i=j:=by obtain⟨h1,J⟩:=av a;obtain⟨U,I⟩:=av b;exact(List.getElem_inj B).mp (J.trans I.symm)
theorem kU{M:Model}{v:V}{Q:Unit->Shared->Prop}(I:Inv X pins σ H s)(hN:X.N.Nodup)(hi:X.N[i]? =some x)(U:Loc X.env.scope x)(r:RelV v u)
  (h:∀s',Inv X pins (σ.set i (some v)) H s'->(∃a,Heap.SameBut a s.heap s'.heap/\(a=X.env.locals∨X.env.cells.lookup x=some a))->Q () s')(hf:X.fn x=true∨X.env.scope.names.lookup x=some .local:=by first|exact .inl rfl|exact .inr rfl|assumption):wpAny M A (storeName X.env x u) Q E s:=by
 obtain⟨m,hn,hl⟩:=id I.loc;have hcls:(X.env.scope.kind== .class||(X.env.scope.kind== .module&&X.env.locals !=X.env.globals))=false:=by rw[I.ok.kind];rfl
 have hiσ:i<σ.length:=by rw[I.len];exact(av hi).1
 have cne:=I.cne
 have tracked:∀{a:Addr}{h':Heap},(∃o,s.heap.get? a=some o/\H a=none)->Heap.SameBut a s.heap h'->gz X.prog X.w H h':=λ{a h'} ha hs b ob e=>by
  obtain⟨_,_,Y⟩:=ha;refine(I.hok b ob e).stay (λc w' J q=>(hs.2 c ?_).trans q) (λ_ q=>q) λ_ _ q=>q;rintro rfl;rcases J with rfl|J
  ·rw[Y] at e;cases e
  ·rw[Y] at J;cases J
 rcases U with hk|hk
 ·refine wpAny_storeName_local hk hn (λh' hn' hs=>?_) hcls;obtain⟨oL,_,_,hoL,_⟩:=id hn;refine h _ ⟨I.ok,I.os,I.bare,⟨λb o e n hb U=>?_,λb o e n hb U=>?_,I.base.free,λb o e U=>?_,I.base.tups,I.base.frzs,I.base.tbls⟩,⟨_,hn',λj y v' B Z e3=>?_⟩,λy c e=>?_,I.free,I.freeC,λp hp=>?_,tracked ⟨oL,hoL,I.free⟩ hs,by simpa using I.len⟩ ⟨_,hs,.inl rfl⟩
  ·exact(hs.2 b (aC (aA (am e) I.ok.above))).trans (I.base.keep b o e n hb U)
  ·obtain⟨sl,B⟩:=I.base.slot b o e n hb U;exact⟨sl,(hs.2 b (aC (aA (am e) I.ok.above))).trans B⟩
  ·obtain⟨o',B⟩:=I.base.there b o e U;exact⟨o',(hs.2 b (aC (aA (am e) I.ok.above))).trans B⟩
  ·by_cases hj:j=i
   ·subst hj;rw[hi] at B;cases B;rw[aL hiσ] at Z;cases Z;exact⟨u,r,.inl ⟨hk,by simp⟩⟩
   ·rw[aF (Ne.symm hj)] at Z;obtain⟨u',r',q⟩:=hl j y v' B Z e3;refine⟨u',r',?_⟩;rcases q with⟨k,e⟩|⟨k,c,e,z⟩
    ·refine .inl ⟨k,?_⟩;have:y≠x:=λe=>hj (nB hN B (e▸hi));simp[this,e]
    ·exact .inr ⟨k,c,e,z.sameBut hs (cne y c e)⟩
  ·obtain⟨w',z⟩:=I.cell y c e;exact⟨w',z.sameBut hs (cne y c e)⟩
  ·obtain⟨e,n,ne,nf,d⟩:=I.pin p hp;exact⟨(hs.2 p.1 ne).trans e,n,ne,nf,d⟩
 ·have hfn:X.fn x=true:=by
   rcases hf with z|z
   ·exact z
   ·rw[z] at hk;cases hk
  obtain⟨c,J⟩:=I.ok.has x (.inl hk);obtain⟨w',z⟩:=I.cell x c J;refine wpAny_storeName_cell I.ok.kind hk J z (λh' hc' hs=>?_);obtain⟨oc,hoc,hocd⟩:=id z;refine h {s with heap:=h'} ⟨I.ok,I.os,I.bare,⟨λb o e n hb U=>?_,λb o e n hb U=>?_,I.base.free,λb o e U=>?_,I.base.tups,I.base.frzs,I.base.tbls⟩,⟨m,hn.sameBut hs (Ne.symm (cne x c J)),λj y v' B Z e3=>?_⟩,λy c' e=>?_,I.free,I.freeC,λp hp=>?_,tracked ⟨oc,hoc,I.freeC x c J⟩ hs,by simpa using I.len⟩ ⟨c,hs,.inr J⟩
  ·exact(hs.2 b (aC (aA (am e) (I.ok.cab x c hfn J)))).trans (I.base.keep b o e n hb U)
  ·obtain⟨sl,B⟩:=I.base.slot b o e n hb U;exact⟨sl,(hs.2 b (aC (aA (am e) (I.ok.cab x c hfn J)))).trans B⟩
  ·obtain⟨o',B⟩:=I.base.there b o e U;exact⟨o',(hs.2 b (aC (aA (am e) (I.ok.cab x c hfn J)))).trans B⟩
  ·by_cases hj:j=i
   ·subst hj;rw[hi] at B;cases B;rw[aL hiσ] at Z;cases Z;exact⟨u,r,.inr ⟨.inl hk,c,J,hc'⟩⟩
   ·rw[aF (Ne.symm hj)] at Z;obtain⟨u',r',q⟩:=hl j y v' B Z e3;refine⟨u',r',?_⟩;rcases q with q|⟨k,c',e,z'⟩
    ·exact .inl q
    ·refine .inr ⟨k,c',e,z'.sameBut hs ?_⟩;rintro rfl;exact hj (nB hN B (I.ok.inj _ _ _ e J▸hi))
  ·by_cases hcc:c'=c
   ·subst hcc;exact⟨_,hc'⟩
   ·obtain⟨w2,z2⟩:=I.cell y c' e;exact⟨w2,z2.sameBut hs hcc⟩
  ·obtain⟨e,n,ne,nf,d⟩:=I.pin p hp;refine⟨(hs.2 p.1 ?_).trans e,n,ne,nf,d⟩;intro q;rw[q,hoc] at e;have q':oc=p.2:=ag e;exact d w' (by rw[<-q'];exact hocd)
theorem js{M:Model}{v:V}{Q:Unit->Shared->Prop}(I:Inv X pins σ H s)(U:X.N.Nodup)(hi:X.N[i]? =some x)(B:Loc X.env.scope x)(r:RelV v u)
  (h:∀s',Inv X pins (σ.set i (some v)) H s'->Q () s')(J:X.fn x=true∨X.env.scope.names.lookup x=some .local:=by first|exact .inl rfl|exact .inr rfl|assumption):wpAny M A (storeName X.env x u) Q E s:=
 kU I U hi B r (λs' Y _=>h s' Y) J
theorem Inv.call'{s':Shared}(I:Inv X pins σ H s)(ho:s'.os=s.os)(u:Un (sK X.stack) ch H H' s.heap s'.heap)(B:gz X.prog X.w H' s'.heap)(U:AllBare s'.gens)
  (J:∀b∈ch,(b∈X.ex∨X.s₀.heap.objs.size<=b)/\b≠X.env.locals/\(∀x c,X.env.cells.lookup x=some c->c≠b)/\∀p∈X.pn++pins,p.1≠b):Inv X pins σ H' s':=by
 obtain⟨h',g',d',t',o'⟩:=s';have e:o'=s.os:=ho;subst e;exact I.call (g':=g') (t':=t') (d':=d') u B U J
end
abbrev XK:=Value->Option Addr->Hp->Prop
noncomputable abbrev St:=List (Option V)
abbrev VK:=V->Hp->Prop
abbrev TE:=St->Hp->VK->Prop
abbrev TT:=St->Hp->(Bool->Hp->Prop)->Prop
abbrev TA:=St->Hp->(List V->Hp->Prop)->Prop
structure Ends where
 nx:St->Hp->Prop
 rt:VK
 bk:St->Hp->Prop:=λ_ _=>False
 ct:St->Hp->Prop:=λ_ _=>False
abbrev TS:=Ends->St->Hp->Prop
def EP(X:Cx)(pins:List (Addr×Obj))(σ:St)(Q:VK)(u:Value)(s':Shared):Prop:=∃v H',Inv X pins σ H' s'/\RelV v u/\Q v H'
def TP(X:Cx)(pins:List (Addr×Obj))(σ:St)(Q:Bool->Hp->Prop)(b:Bool)(s':Shared):Prop:=∃H',Inv X pins σ H' s'/\Q b H'
def AP(X:Cx)(pins:List (Addr×Obj))(σ:St)(Q:List V->Hp->Prop)(us:List Value)(s':Shared):Prop:=∃vs H',Inv X pins σ H' s'/\bh vs us/\Q vs H'
def SP(X:Cx)(pins:List (Addr×Obj))(D:Ends)(f:Flow)(s':Shared):Prop:=
 match f with
 | .next=>∃σ' H',Inv X pins σ' H' s'/\D.nx σ' H'
 | .brk=>∃σ' H',Inv X pins σ' H' s'/\D.bk σ' H'
 | .cont=>∃σ' H',Inv X pins σ' H' s'/\D.ct σ' H'
 | .ret u=>∃v σ' H',Inv X pins σ' H' s'/\RelV v u/\D.rt v H'
def PE(X:Cx)(e:Expr)(t:TE):Prop:=
 ∀(pins:List (Addr×Obj))(s:Shared)(σ:St)(H:Hp)(Q:VK),Inv X pins σ H s->t σ H Q->wpAny (model X.prog X.w) X.A (eval e X.env) (EP X pins σ Q) X.xe s
def PT(X:Cx)(e:Expr)(t:TT):Prop:=
 ∀(pins:List (Addr×Obj))(s:Shared)(σ:St)(H:Hp)(Q:Bool->Hp->Prop),Inv X pins σ H s->t σ H Q->wpAny (model X.prog X.w) X.A (isTrue e X.env (eval e X.env)) (TP X pins σ Q) X.xe s
def PW(X:Cx)(e:Expr)(t:TT):Prop:=
 ∀(whole:Sem Value)(pins:List (Addr×Obj))(s:Shared)(σ:St)(H:Hp)(Q:Bool->Hp->Prop),Inv X pins σ H s->t σ H Q->wpAny (model X.prog X.w) X.A (isTrue e X.env whole) (TP X pins σ Q) X.xe s
theorem PW.pt{X:Cx}{t:TT}(h:PW X e t):PT X e t:=h _
def PA(X:Cx)(es:List Expr)(t:TA):Prop:=
 ∀(pos:Pos)(pins:List (Addr×Obj))(s:Shared)(σ:St)(H:Hp)(Q:List V->Hp->Prop),Inv X pins σ H s->t σ H Q->wpAny (model X.prog X.w) X.A (spliced (backTo pos (starEach es X.env))) (AP X pins σ Q) X.xe s
def PS(X:Cx)(st:Stmt)(t:TS):Prop:=
 ∀(pins:List (Addr×Obj))(s:Shared)(σ:St)(H:Hp)(D:Ends),Inv X pins σ H s->t D σ H->wpAny (model X.prog X.w) X.A (exec st X.env) (SP X pins D) X.xe s
def PSs(X:Cx)(st:List Stmt)(t:TS):Prop:=
 ∀(pins:List (Addr×Obj))(s:Shared)(σ:St)(H:Hp)(D:Ends),Inv X pins σ H s->t D σ H->wpAny (model X.prog X.w) X.A (execs st X.env) (SP X pins D) X.xe s
theorem bL{α:Type}{t:Sem α}{Q B:α->Shared->Prop}{M:Model}(h:wpAny M A t Q E s)(I:∀a s,Q a s->B a s):wpAny M A t B E s:=aY h I λ_ _ x=>x
section
variable{X:Cx}
def CQ(i:Nat):TE:=λσ H Q=>∃v,σ[i]? =some (some v)/\Q v H
def tC(v:V):TE:=λ_ H Q=>Q v H
theorem zx(Y:X.N[i]? =some x)(B:Cp X.env.scope x)(hd:(x==("__debug__":Str))=false:=by decide)(hcd:(x==("__classdict__":Str))=false:=by decide):PE X (.Name x pos) (CQ i):=by
 intro pins s σ H Q I h;obtain⟨v,e,h⟩:=h;obtain⟨m,J,U⟩:=I.loc;obtain⟨u,r,l⟩:=U i x v Y e B;have fin:EP X pins σ Q u s:=⟨v,H,I,r,h⟩;rcases l with⟨hk,hm⟩|⟨hk,c,hc,hcell⟩
 ·exact wpAny_Name (wpAny_loadName_local I.ok.kind hk J hm fin) hd
 ·rcases hk with hk|hk
  ·exact wpAny_Name (wpAny_loadName_cell I.ok.kind hk hc hcell fin) hd
  ·exact wpAny_Name (wpAny_loadName_free I.ok.kind hk hc hcell fin hcd) hd
theorem l8{i j pos}:PE X (.Constant (.int i) j pos) (tC (.int i)):=λ_ _ _ H _ I h=>wpAny_Constant_int ⟨.int i,H,I.tok _,⟨_,rfl⟩,h⟩
theorem BH{b j pos}:PE X (.Constant (.bool b) j pos) (tC (.bl b)):=λ_ _ _ H _ I h=>Constant_bool ⟨.bl b,H,I,rfl,h⟩
theorem zF{j pos}:PE X (.Constant .none j pos) (tC .non):=λ_ _ _ H _ I h=>Constant_none ⟨.non,H,I,rfl,h⟩
theorem zA{x j pos}:PE X (.Constant (.str x) j pos) (tC (.str x)):=λ_ _ _ H _ I h=>Calls.Constant_str ⟨.str x,H,I.tok _,⟨_,rfl⟩,h⟩
noncomputable def Gl(X:Cx)(x:Str):Prop:=X.env.kindOf x=some .globalImplicit
theorem mh{σ:St}{H:Hp}(I:Inv X pins σ H s)(J:Gl X x)(B:X.mg x=some u)(h:Q u s)
  (hd:(x==("__debug__":Str))=false:=by decide):wpAny (model X.prog X.w) X.A (eval (.Name x pos) X.env) Q E s:=
 Calls.Name_function_global I.ok.kind J (Calls.loadGlobal_global (by rw[I.ok.glob];exact I.mod.glob.keeps I.bk) B h) hd
theorem ez{σ:St}{H:Hp}(I:Inv X pins σ H s)(Y:Gl X x)(U:X.mg x=none)(B:bootBuiltins x=some u)(h:Q u s)
  (J:x≠ "__name__":=by decide) (hd:(x==("__debug__":Str))=false:=by decide):wpAny (model X.prog X.w) X.A (eval (.Name x pos) X.env) Q E s:=by
 obtain⟨mb,h1,Z⟩:=I.mod.blt;exact Calls.Name_function_global I.ok.kind Y (Calls.loadGlobal_builtin (by rw[I.ok.glob];exact I.mod.glob.keeps I.bk) U (by rw[I.ok.blt];exact h1.keeps I.bk) ((Z x J).trans B) h) hd
theorem wR{v:V}(J:Gl X x)(B:X.mg x=some u)(r:RelV v u)(hd:(x==("__debug__":Str))=false:=by decide):PE X (.Name x pos) (tC v):=
 λ_ _ _ H _ I h=>mh I J B ⟨v,H,I,r,h⟩ hd
theorem wV{v:V}(Y:Gl X x)(U:X.mg x=none)(B:bootBuiltins x=some u)(r:RelV v u)(J:x≠ "__name__":=by decide)(hd:(x==("__debug__":Str))=false:=by decide):PE X (.Name x pos) (tC v):=
 λ_ _ _ H _ I h=>ez I Y U B ⟨v,H,I,r,h⟩ J hd
variable{a b:Expr}{ta tb:TE}{pos:Pos}
def tB(t:TE):TT:=λσ H Q=>t σ H λx H1=>∃c,x=.bl c/\Q c H1
theorem zn{t:TE}(h:PE X e t)(J:∀whole,isTrue e X.env whole=(do let v <-whole;standAt e.pos;holding [v] (truthy v)):=by intro _;rfl):PT X e (tB t):=by intro pins s σ H Q I B;refine isTrue_plain (bL (h pins s σ H _ I B) λv U ⟨x,H1,I1,r1,q1⟩=>?_) (J _);obtain⟨d,rfl,q⟩:=q1;cases r1;exact wpAny_truthy_bool ⟨H1,I1,q⟩
variable{tA tB':TT}{rest:List Expr}
noncomputable def C9(t u:TT):TT:=λσ H Q=>t σ H λc H1=>if c=true then u σ H1 Q else Q false H1
def DY(t u:TT):TT:=λσ H Q=>t σ H λc H1=>if c=true then Q true H1 else u σ H1 Q
def CY(t:TT):TT:=λσ H Q=>t σ H λc H1=>Q (!c) H1
theorem wE(B:PT X a tA):PW X (.BoolOp .And [a] pos) tA:=by
 intro J pins s σ H Q I h;refine isTrue_and (bL (B pins s σ H Q I h) λc U e=>?_);cases c with
 |true=>exact isTrue_and_nil e
 |false=>exact e
theorem zj(B:PT X a tA):PW X (.BoolOp .Or [a] pos) tA:=by
 intro J pins s σ H Q I h;refine isTrue_or (bL (B pins s σ H Q I h) λc U e=>?_);cases c with
 |false=>exact isTrue_or_nil e
 |true=>exact e
theorem zk(Y:PT X a tA)(U:PW X (.BoolOp .And (b::rest) pos) tB'):PW X (.BoolOp .And (a::b::rest) pos) (C9 tA tB'):=by
 intro B pins s σ H Q I h;refine isTrue_and (bL (Y pins s σ H _ I h) λc J ⟨H1,I1,q1⟩=>?_);cases c with
 |true=>exact U B pins J σ H1 Q I1 q1
 |false=>exact⟨H1,I1,q1⟩
theorem BC(Y:PT X a tA)(U:PW X (.BoolOp .Or (b::rest) pos) tB'):PW X (.BoolOp .Or (a::b::rest) pos) (DY tA tB'):=by
 intro B pins s σ H Q I h;refine isTrue_or (bL (Y pins s σ H _ I h) λc J ⟨H1,I1,q1⟩=>?_);cases c with
 |true=>exact⟨H1,I1,q1⟩
 |false=>exact U B pins J σ H1 Q I1 q1
theorem zo(B:PT X a tA):PT X (.UnaryOp .Not a pos) (CY tA):=by intro pins s σ H Q I h;exact isTrue_not (B pins s σ H (λc H1=>Q (!c) H1) I h)
def Be(ta tb:TE):TE:=λσ H Q=>ta σ H λx H1=>∃c,x=.bl c/\if c=true then tb σ H1 Q else Q (.bl false) H1
def CW(ta tb:TE):TE:=λσ H Q=>ta σ H λx H1=>∃c,x=.bl c/\if c=true then Q (.bl true) H1 else tb σ H1 Q
def A7(ta:TE):TE:=λσ H Q=>ta σ H λx H1=>∃c,x=.bl c/\Q (.bl (!c)) H1
theorem zC{op}{t:TE}(h:PE X a t):PE X (.BoolOp op [a] pos) t:=λpins s σ H Q I B=>BoolOp_one (h pins s σ H Q I B)
theorem zJ(ha:PE X a ta)(Z:PE X (.BoolOp .And (b::rest) pos) tb):PE X (.BoolOp .And (a::b::rest) pos) (Be ta tb):=by
 intro pins s σ H Q I h;refine BoolOp_and (bL (ha pins s σ H _ I h) λv J Y=>?_);obtain⟨x,H1,B,U,q1⟩:=Y;obtain⟨c,rfl,q1⟩:=q1;cases U;refine wpAny_truthy_bool ?_;cases c with
 |true=>exact Z pins J σ H1 Q B q1
 |false=>exact⟨.bl false,H1,B,rfl,q1⟩
theorem BE(ha:PE X a ta)(Z:PE X (.BoolOp .Or (b::rest) pos) tb):PE X (.BoolOp .Or (a::b::rest) pos) (CW ta tb):=by
 intro pins s σ H Q I h;refine BoolOp_or (bL (ha pins s σ H _ I h) λv J Y=>?_);obtain⟨x,H1,B,U,q1⟩:=Y;obtain⟨c,rfl,q1⟩:=q1;cases U;refine wpAny_truthy_bool ?_;cases c with
 |false=>exact Z pins J σ H1 Q B q1
 |true=>exact⟨.bl true,H1,B,rfl,q1⟩
theorem zE(U:PE X a ta):PE X (.UnaryOp .Not a pos) (A7 ta):=by intro pins s σ H Q I h;refine UnaryOp_ (bL (U pins s σ H _ I h) λv Z J=>?_);obtain⟨x,H1,Y,B,q1⟩:=J;obtain⟨c,rfl,q1⟩:=q1;cases B;exact not_of (wpAny_truthy_bool ⟨.bl (!c),H1,Y,rfl,q1⟩)
end
def c8(K:aD)(H:Hp)(a:Addr)(xs:List V):Prop:=
 Rd H a (.lst xs)∨
  ∃(o:Obj)(its:Array Value)(n:Nat),K.lookup a=some o/\o.cls=.type "list" /\o.dict=none/\o.data=.seq its n/\its.size<=sizeLine/\bh xs its.toList
def fV(K:aD)(H:Hp)(a:Addr)(xs:List V):Prop:=
 Rd H a (.tup xs)∨
  ∃(o:Obj)(its:Array Value)(n:Nat),K.lookup a=some o/\(o.cls=.type "tuple" /\o.dict=none)/\o.data=.seq its n/\its.size<=sizeLine/\bh xs its.toList
noncomputable def DA:Value->Option V
 | .none=>some .non
 | .bool b=>some (.bl b)
 | .int i _=>some (.int i)
 | .str x _=>some (.str x)
 | .bytes b _=>some (.byt b)
 | .float b _=>some (.flt b)
 | .ref a=>some (.ref a)
 | .type n=>some (.ty n)
 |_=>none
theorem RelV.abs{x:V}(r:RelV x u):DA u=some x:=by
 cases x with
 |non=>cases r;rfl
 |bl _=>cases r;rfl
 |int _=>obtain⟨t,rfl⟩:=r;rfl
 |str _=>obtain⟨t,rfl⟩:=r;rfl
 |byt _=>obtain⟨t,rfl⟩:=r;rfl
 |flt _=>obtain⟨t,rfl⟩:=r;rfl
 |ref _=>cases r;rfl
 |ty _=>cases r;rfl
theorem RelV.inj{x y:V}(r:RelV x u)(q:RelV y u):x=y:=ag (r.abs.symm.trans q.abs)
theorem bh.inj:∀{xs ys:List V}{us:List Value},bh xs us->bh ys us->xs=ys
 |_,_,_,.nil,.nil=>rfl
 |_,_,_,.cons r t,.cons r' t'=>by rw[r.inj r',bh.inj t t']
section
variable{X:Cx}{pins:List (Addr×Obj)}{σ:St}{H:Hp}{s:Shared}{a:Addr}{xs ys:List V}
theorem c8.of{K:aD}(h:H a=some (.lst xs)):c8 K H a xs:= .inl (.inl h)
theorem fV.of{K:aD}(h:H a=some (.tup xs)):fV K H a xs:= .inl (.inl h)
theorem Inv.list(I:Inv X pins σ H s)(h:c8 X.K H a xs):∃its:List Value,bh xs its/\PlainL s.heap a its.toArray/\xs.length<=sizeLine:=by
 rcases h with h|⟨o,its,n,hk,hc,hd,hs,hz,r⟩
 ·obtain⟨z,its,n,r,e⟩:=h.ok I.hok;exact⟨its,r,⟨_,n,e,rfl,rfl,rfl⟩,z⟩
 ·refine⟨its.toList,r,⟨o,n,I.kIn a o hk,hc,hd,by simpa using hs⟩,?_⟩
  have e:=r.length;simp only[Array.length_toList] at e;omega
theorem Inv.tuple(I:Inv X pins σ H s)(h:fV X.K H a xs):∃its:List Value,bh xs its/\IsTup s.heap a its.toArray/\xs.length<=sizeLine:=by
 rcases h with h|⟨o,its,n,hk,hc,hs,hz,r⟩
 ·obtain⟨z,its,r,p⟩:=h.ok I.hok;exact⟨its,r,p.tup,z⟩
 ·refine⟨its.toList,r,⟨o,I.kIn a o hk,hc.1,n,by simpa using hs⟩,?_⟩
  have e:=r.length;simp only[Array.length_toList] at e;omega
theorem Inv.list_inj(I:Inv X pins σ H s)(h:c8 X.K H a xs)(h':c8 X.K H a ys):xs=ys:=by
 obtain⟨its,r,⟨o,n,e,_,_,d⟩,_⟩:=I.list h;obtain⟨its',B,⟨o',J,e',_,_,d'⟩,_⟩:=I.list h';rw[e] at e';cases e';rw[d] at d';injection d' with d1 _;have:its=its':=by simpa using congrArg Array.toList d1
 subst this;exact r.inj B
theorem Inv.tuple_inj(I:Inv X pins σ H s)(h:fV X.K H a xs)(h':fV X.K H a ys):xs=ys:=by
 obtain⟨its,r,⟨o,e,_,n,d⟩,_⟩:=I.tuple h;obtain⟨its',B,⟨o',e',_,J,d'⟩,_⟩:=I.tuple h';rw[e] at e';cases e';rw[d] at d';injection d' with d1 _;have:its=its':=by simpa using congrArg Array.toList d1
 subst this;exact r.inj B
end
section
end
section
variable{X:Cx}{st:Stmt}{rest:List Stmt}{t u:TS}{e:Expr}{te:TE}{pos:Pos}
def A8:TS:=λD σ H=>D.nx σ H
def CU(t u:TS):TS:=λD σ H=>t {D with nx:=u D} σ H
theorem wI:PSs X [] A8:=λ_ _ σ H _ I h=>wpAny_execs_nil ⟨σ,H,I,h⟩
theorem ud(h1:PS X st t)(J:PSs X rest u):PSs X (st::rest) (CU t u):=by
 intro pins s σ H D I h;refine wpAny_execs_cons (bL (h1 pins s σ H {D with nx:=u D} I h) λf B q=>?_);cases f with
 |next=>obtain⟨σ',H',U,q⟩:=q;exact J pins B σ' H' D U q
 |ret v=>exact q
 |brk=>exact q
 |cont=>exact q
def Bb:TS:=λD σ H=>D.ct σ H
theorem ny:PS X (.Continue pos) Bb:=λ_ _ σ H _ I h=>wpAny_Continue ⟨σ,H,I,h⟩
theorem Inv.quiet{σ:St}{H:Hp}(I:Inv X pins σ H s):interactive X.env=false:=by simp[interactive,I.ok.kind]
def A_(te:TE):TS:=λD σ H=>te σ H λ_ H1=>D.nx σ H1
theorem l7(B:PE X e te)(hs:swapsWith e none pos.line X.env=pure false:=by rfl):PS X (.Expr e pos) (A_ te):=by intro pins s σ H D I h;exact wpAny_Expr_any (bL (B pins s σ H _ I h) λv J ⟨x,H1,I1,r1,q1⟩=>⟨σ,H1,I1,q1⟩) I.quiet hs
def CV(te:TE):TS:=λD σ H=>te σ H D.rt
theorem zp(B:PE X e te):PS X (.Return (some e) pos) (CV te):=by intro pins s σ H D I h;exact wpAny_Return_some (bL (B pins s σ H _ I h) λv J ⟨x,H1,I1,r1,q1⟩=>⟨x,σ,H1,I1,r1,q1⟩)
def C2(c:TT)(t u:TS):TS:=λD σ H=>c σ H λb H1=>if b=true then t D σ H1 else u D σ H1
theorem BD{a b:List Stmt}{tc:TT}(J:PT X c tc)(Y:PSs X a t)(U:PSs X b u):PS X (.If c a b pos) (C2 tc t u):=by
 intro pins s σ H D I h;refine wpAny_If (bL (J pins s σ H _ I h) λd B ⟨H1,I1,q1⟩=>?_);cases d with
 |true=>exact Y pins B σ H1 D I1 q1
 |false=>exact U pins B σ H1 D I1 q1
end
abbrev TG:=V->St->Hp->(St->Hp->Prop)->Prop
abbrev vO:=List V->St->Hp->(St->Hp->Prop)->Prop
def PG(X:Cx)(target:Expr)(t:TG):Prop:=
 ∀(pins:List (Addr×Obj))(s:Shared)(σ:St)(H:Hp)(v:V)(u:Value)(Q:St->Hp->Prop),Inv X pins σ H s->RelV v u->t v σ H Q->
  wpAny (model X.prog X.w) X.A (assign target X.env u) (λ_ s'=>∃σ' H',Inv X pins σ' H' s'/\Q σ' H') X.xe s
def AN(X:Cx)(ts:List Expr)(t:vO):Prop:=
 ∀(pins:List (Addr×Obj))(s:Shared)(σ:St)(H:Hp)(vs:List V) (us:List Value)(Q:St->Hp->Prop),Inv X pins σ H s->bh vs us->t vs σ H Q->
  wpAny (model X.prog X.w) X.A (assignInOrder ((assignEach ts X.env).map (·.2)) us) (λ_ s'=>∃σ' H',Inv X pins σ' H' s'/\Q σ' H') X.xe s
abbrev vD:=V->V->V->Hp->(Hp->Prop)->Prop
def AH(X:Cx)(t:vD):Prop:=
 ∀(pins:List (Addr×Obj))(s:Shared)(σ:St)(H:Hp)(o i v:V)(ov iv u:Value)(Q:Hp->Prop),Inv X pins σ H s->RelV o ov->RelV i iv->RelV v u->t o i v H Q->
  wpAny (model X.prog X.w) X.A (setItem ov iv u) (λ_ s'=>∃H',Inv X pins σ H' s'/\Q H') X.xe s
abbrev AM:=V->V->Hp->VK->Prop
def DE(X:Cx)(op:Operator)(t:AM):Prop:=
 ∀(pins:List (Addr×Obj))(s:Shared)(σ:St)(H:Hp)(x y:V)(v u:Value)(Q:VK),Inv X pins σ H s->RelV x v->RelV y u->t x y H Q->
  wpAny (model X.prog X.w) X.A (inplaceOp op v u) (EP X pins σ Q) X.xe s
section
variable{X:Cx}{pos:Pos}
def f6(i:Nat):TG:=λv σ H Q=>Q (σ.set i (some v)) H
theorem dE(U:X.N.Nodup)(hi:X.N[i]? =some x)(B:Loc X.env.scope x)(J:X.fn x=true∨X.env.scope.names.lookup x=some .local:=by first|exact .inl rfl|exact .inr rfl|assumption):PG X (.Name x pos) (f6 i):=by intro pins s σ H v u Q I r h;exact wpAny_assign_Name (js I U hi B r (λs' Y=>⟨_,H,Y,h⟩) J)
def Ag:vO:=λvs σ H Q=>vs=[]/\Q σ H
def qG(t:TG)(u:vO):vO:=λvs σ H Q=>∃v r,vs=v::r/\t v σ H λσ' H'=>u r σ' H' Q
theorem qj:AN X [] Ag:=by intro pins s σ H vs us Q I r h;obtain⟨e,h⟩:=h;subst e;cases r;exact assignInOrder_nil ⟨σ,H,I,h⟩
theorem jD{es:List Expr}{t:TG}{u:vO}(h1:PG X e t)(U:AN X es u)
  (hs:(assignEach (e::es) X.env).map (·.2)=assign e X.env::(assignEach es X.env).map (·.2):=by rfl):AN X (e::es) (qG t u):=by
 intro pins s σ H vs us Q I r h;obtain⟨v,vr,Y,h⟩:=h;subst Y;cases r with
 |cons r rr=>rw[hs];refine assignInOrder_cons (bL (h1 pins s σ H _ _ _ I r h) λ_ B J=>?_);obtain⟨σ1,H1,Z,q1⟩:=J;exact U pins B σ1 H1 _ _ Q Z rr q1
def B0(K:aD)(n:Nat)(t:vO):TG:=λv σ H Q=>∃a xs,v=.ref a/\fV K H a xs/\xs.length=n/\t xs σ H Q
theorem zu{es:List Expr}{k:Nat}{t:vO}(hc:X.calm=true)(h:AN X es t)
  (Y:(assignEach es X.env).length=n:=by rfl)(hst:(assignEach es X.env).findIdx? (·.1)=none:=by rfl):PG X (.Tuple es k pos) (B0 X.K n t):=by
 intro pins s σ H v u Q I r B;obtain⟨a,xs,e1,U,Z,B⟩:=B;subst e1;cases r;obtain⟨its,rv,ht,hz⟩:=I.tuple U;refine assign_Tuple_tuple (I.ok.hd hc) ht (by simp[Y,<-Z,rv.length]) hst λh' J=>?_
 have I1:Inv X pins σ H {s with heap:=h'}:=I.kept (t':=s.toks) λb o e=>J b o (aC (am e)) e;exact h pins _ σ H xs _ Q I1 (by simpa using rv) B
def Dp(to ti:TE)(t:vD):TG:=λv σ H Q=>to σ H λo H1=>ti σ H1 λi H2=>t o i v H2 λH3=>Q σ H3
theorem zw{o i:Expr}{to Y:TE}{t:vD}(ho:PE X o to)(hi:PE X i Y)(hs:AH X t)
  (ha:∀v,assign (.Subscript o i pos) X.env v=(do
   let B <-holding [v] (eval o X.env)
   let J <-holding [v,B] (eval i X.env)
   standAt pos
   holding [v,B,J] (setItem B J v)
   release [v,B,J] []):=by intro _;rfl):PG X (.Subscript o i pos) (Dp to Y t):=by
 intro pins s σ H v u Q I r h;rw[ha];refine aa (wpAny_holding (bL (ho pins s σ H _ I h) λB s1 U=>?_));obtain⟨x,H1,I1,r1,q1⟩:=U;refine aa (wpAny_holding (bL (hi pins s1 σ H1 _ I1 q1) λJ Z U=>?_));obtain⟨y,H2,I2,r2,q2⟩:=U;refine aa (wpAny_standAt (aa (wpAny_holding (bL (hs pins Z σ H2 x y v B J u _ I2 r1 r2 r q2) λ_ s3 U=>?_))));obtain⟨H3,I3,q3⟩:=U;exact wpAny_release ⟨σ,H3,I3,q3⟩
def tF(te:TE)(g:TG):TS:=λD σ H=>te σ H λx H1=>g x σ H1 D.nx
theorem zt{te:TE}{g:TG}(U:PE X e te)(J:PG X tg g)(hs:swapsWithSole [tg] e pos.line X.env=pure false:=by rfl)(hw:swappedStores [tg] e X.env=pure none:=by rfl)
  (h1:(assignEach [tg] X.env).map (·.2)=[assign tg X.env]:=by rfl):PS X (.Assign [tg] e pos) (tF te g):=by
 intro pins s σ H D I h;refine wpAny_Assign_stores (bL (U pins s σ H _ I h) λv B ⟨x,H1,I1,r1,q1⟩=>?_) hs hw;rw[h1];exact bL (J pins B σ H1 x v _ I1 r1 q1) λ_ Y q=>q
theorem uf{te:TE}(U:X.N.Nodup)(hi:X.N[i]? =some x)(B:Loc X.env.scope x)(J:PE X e te)(hs:swapsWith e (some (.Name x pos')) pos.line X.env=pure false:=by rfl)(hf:X.fn x=true∨X.env.scope.names.lookup x=some .local:=by first|exact .inl rfl|exact .inr rfl|assumption):
  PS X (.Assign [.Name x pos'] e pos) (tF te (f6 i)):=by
 intro pins s σ H D I h;refine wpAny_Assign_Name (bL (J pins s σ H _ I h) λv s1 ⟨y,H1,I1,r1,q1⟩=>?_) hs;exact js I1 U hi B r1 (λZ Y=>⟨_,H1,Y,q1⟩) hf
def C8(i:Nat)(te:TE)(ti:AM):TS:=λD σ H=>∃x,σ[i]? =some (some x)/\te σ H λy H1=>ti x y H1 λz H2=>D.nx (σ.set i (some z)) H2
theorem zr{te:TE}{op:Operator}{Y:AM}(hN:X.N.Nodup)(hi:X.N[i]? =some x)(J:Loc X.env.scope x)(he:PE X e te)(ho:DE X op Y)(hf:X.fn x=true∨X.env.scope.names.lookup x=some .local:=by first|exact .inl rfl|exact .inr rfl|assumption):
  PS X (.AugAssign (.Name x pos') op e pos) (C8 i te Y):=by
 intro pins s σ H D I h;obtain⟨v,e1,h⟩:=h;obtain⟨m,hn,hl⟩:=I.loc;have B:Cp X.env.scope x:=by rcases J with k|k;exact .inl k;exact .inr (.inl k)
 obtain⟨u,r,l⟩:=hl i x v hi e1 B;refine wpAny_AugAssign_Name ?_
 have go:wpAny (model X.prog X.w) X.A (eval e X.env) (λw s₂=>wpAny (model X.prog X.w) X.A (inplaceOp op u w) (λr s₃=>wpAny (model X.prog X.w) X.A (storeName X.env x r) (λ_=>SP X pins D .next) X.xe s₃) X.xe s₂) X.xe s:=by refine bL (he pins s σ H _ I h) λw Z U=>?_;obtain⟨y,H1,I1,r1,q1⟩:=U;refine bL (ho pins Z σ H1 v y u w _ I1 r r1 q1) λz s2 U=>?_;obtain⟨zv,H2,I2,r2,q2⟩:=U;exact js I2 hN hi J r2 (λs3 I3=>⟨_,H2,I3,q2⟩) hf
 rcases l with⟨hk,hm⟩|⟨hk,c,hc,hcell⟩
 ·exact wpAny_loadName_local I.ok.kind hk hn hm go
 ·rcases hk with hk|hk
  ·exact wpAny_loadName_cell I.ok.kind hk hc hcell go
  ·rcases J with k|k
   ·have:X.env.scope.names.lookup x=some .free:=hk;rw[k] at this;cases this
   ·have:X.env.scope.names.lookup x=some .free:=hk;rw[k] at this;cases this
def Bd(to ti te:TE)(tget:V->V->Hp->VK->Prop)(tip:AM)(tset:vD):TS:=λD σ H=>to σ H λo H1=>ti σ H1 λi H2=>tget o i H2 λx H3=>te σ H3 λy H4=>tip x y H4 λz H5=>tset o i z H5 λH6=>D.nx σ H6
def Cr(X:Cx)(t:V->V->Hp->VK->Prop):Prop:=
 ∀(pins:List (Addr×Obj))(s:Shared)(σ:St)(H:Hp)(o i:V)(ov iv:Value)(Q:VK),Inv X pins σ H s->RelV o ov->RelV i iv->t o i H Q->
  wpAny (model X.prog X.w) X.A (getItem ov iv) (EP X pins σ Q) X.xe s
theorem wK{o i:Expr}{to ti te:TE}{tget:V->V->Hp->VK->Prop}{Y:AM}{tset:vD}{op:Operator}{tpos:Pos}(ho:PE X o to)(hi:PE X i ti)(hg:Cr X tget)(he:PE X e te)(B:DE X op Y)(hs:AH X tset)
  (ha:∀J U new,augStore i J U new=(do holding [new,J,U] (setItem J U new);release [new,J,U] [];pure .next):=by intros;rfl):PS X (.AugAssign (.Subscript o i tpos) op e pos) (Bd to ti te tget Y tset):=by
 intro pins s σ H D I h;refine wpAny_AugAssign_SubscriptAny (bL (ho pins s σ H _ I h) λJ s1 ⟨x1,H1,I1,r1,q1⟩=>?_) ha;refine bL (hi pins s1 σ H1 _ I1 q1) λU s2 B=>?_;obtain⟨Z,H2,I2,r2,q2⟩:=B;refine bL (hg pins s2 σ H2 x1 Z J U _ I2 r1 r2 q2) λold s3 B=>?_;obtain⟨x3,H3,I3,r3,q3⟩:=B;refine bL (he pins s3 σ H3 _ I3 q3) λv s4 B=>?_;obtain⟨x4,H4,I4,r4,q4⟩:=B;refine bL (B pins s4 σ H4 x3 x4 old v _ I4 r3 r4 q4) λnew s5 B=>?_;obtain⟨x5,H5,I5,r5,q5⟩:=B;exact bL (hs pins s5 σ H5 x1 Z x5 J U new _ I5 r1 r2 r5 q5) λ_ s6 ⟨H6,I6,q6⟩=>⟨σ,H6,I6,q6⟩
def D9(f:Int->Int->Int):AM:=λx y H Q=>∃i j,x=.int i/\y=.int j/\Q (.int (f i j)) H
theorem uK:DE X .Add (D9 λi j=>i+j):=by intro pins s σ H x y v u Q I J B h;obtain⟨i,j,Y,U,q⟩:=h;subst Y;subst U;obtain⟨t,rfl⟩:=J;obtain⟨t',rfl⟩:=B;exact iadd_int ⟨.int _,H,I.tok _,⟨_,rfl⟩,q⟩
end
section
variable{X:Cx}{pos:Pos}
def yK(c:TT)(tb:TS):TS:=λD σ H=>∃W:Nat->St->Hp->Prop,(∃m,W m σ H)/\∀m σ H,W m σ H->
 c σ H λb H1=>if b=true then ∃N:St->Hp->Prop,(∀σ' H',N σ' H'->∃m',m'<m/\W m' σ' H')/\tb {D with nx:=N,ct:=N,bk:=D.nx} σ H1 else D.nx σ H1
theorem ue{body:List Stmt}{tc:TT}{tb:TS}(hp:PassesOwn (model X.prog X.w) X.A X.env X.xe)(hc:PT X c tc)(hb:PSs X body tb):PS X (.While c body [] pos) (yK tc tb):=by
 intro pins s σ H D I h;obtain⟨W,⟨m0,w0⟩,turn⟩:=h;refine wpAny_While (codeAny_whileLoop (λn s'=>∃σ' H',Inv X pins σ' H' s'/\W n σ' H') ?_ m0 ⟨σ,H,I,w0⟩);rintro n s1 ⟨σ1,H1,I1,w1⟩;refine wpAny_passesOwn hp (bL (hc pins s1 σ1 H1 _ I1 (turn n σ1 H1 w1)) λb s2 ⟨H2,I2,q2⟩=>?_);cases b with
 |true=>
  obtain⟨N,hN,q2⟩:=q2;rw[if_pos rfl];refine wpAny_passesOwn hp (bL (hb pins s2 σ1 H2 _ I2 q2) λf s3 J=>?_);cases f with
  |next=>obtain⟨σ3,B,I3,Y⟩:=J;obtain⟨m',Z,U⟩:=hN σ3 B Y;exact⟨m',Z,σ3,B,I3,U⟩
  |cont=>obtain⟨σ3,B,I3,Y⟩:=J;obtain⟨m',Z,U⟩:=hN σ3 B Y;exact⟨m',Z,σ3,B,I3,U⟩
  |brk=>exact J
  |ret v=>exact J
 |false=>rw[if_neg aP];exact wpAny_execs_nil ⟨σ1,H2,I2,q2⟩
end
structure It where
 go:Nat->Hp->Prop
 yld:Nat->Hp->V->Hp->Prop
 stop:Nat->Hp->Prop
def iJ(X:Cx)(pins:List (Addr×Obj))(H:Hp)(b:Addr):Prop:=
 H b=none/\b≠X.env.locals/\b∉X.fs/\(b∈X.ex∨X.s₀.heap.objs.size<=b)/\(∀x c,X.env.cells.lookup x=some c->c≠b)/\∀p∈X.pn++pins,p.1≠b
theorem Inv.fpOk{X:Cx}{σ:St}{H H':Hp}(I:Inv X pins σ H s)(B:s.heap.objs.size<=b)(U:H' b=none):iJ X pins H' b:=by
 refine⟨U,bq (aA I.lt B),I.nofs B,.inr (aB I.sz B),λx c e z=>?_,λp J z=>?_⟩
 ·obtain⟨v,q⟩:=I.cell x c e;exact absurd (aA q.lt (by rw[z];exact B)) (a9 _)
 ·exact absurd (aA (am (I.pin p J).1) (by rw[z];exact B)) (a9 _)
structure Turn(P:Program)(w:World)(K:aD)(tg:Expr)(J:It)(fp:List Addr)(it:Addr)(tn:Nat->Heap->Prop):Prop where
 mem:it∈fp
 obj:∀i h,tn i h->∀b∈fp,∃o,h.get? b=some o/\∀v,o.data≠ .cell v
 keep:∀i h h',tn i h->(∀b∈fp,∀o,h.get? b=some o->h'.get? b=some o)->tn i h'
 item:∀(X:Cx),X.prog=P->X.w=w->X.K=K->X.calm=true->∀(i:Nat)(pins:List (Addr×Obj))(s:Shared)(σ:St)(H:Hp)(E:Value->Shared->Prop),Inv X pins σ H s->(∀b∈fp,iJ X pins H b)->tn i s.heap->J.go i H->
  wpAny (model P w) X.A (pyNext (.ref it)) (λr s1=>∃u,r=some u/\
   wpAny (model P w) X.A (letOwnedTupleGo tg (.ref it) u) (λ_ s2=>∃x H',Inv X pins σ H' s2/\RelV x u/\J.yld i H x H'/\tn (i+1) s2.heap/\∀b∈fp,H' b=none) E s1) E s
 done:∀(X:Cx),X.prog=P->X.w=w->X.K=K->X.calm=true->∀(i:Nat)(pins:List (Addr×Obj))(s:Shared)(σ:St)(H:Hp)(E:Value->Shared->Prop),Inv X pins σ H s->(∀b∈fp,iJ X pins H b)->tn i s.heap->J.stop i H->
  wpAny (model P w) X.A (pyNext (.ref it)) (λr s1=>r=none/\Inv X pins σ H s1) E s
 self:∀(A:Around)(i:Nat)(s:Shared)(Q:Value->Shared->Prop)(E:Value->Shared->Prop),tn i s.heap->Q (.ref it) s->wpAny (model P w) A (pyIter (.ref it)) Q E s
abbrev TI:=St->Hp->(It->Hp->Prop)->Prop
def DR(X:Cx)(pins:List (Addr×Obj))(σ:St)(tg:Expr)(R:It->Hp->Prop)(itv:Value)(s2:Shared):Prop:=
 ∃(it:Addr)(fp:List Addr)(tn:Nat->Heap->Prop)(J:It)(H':Hp),itv=.ref it/\Inv X pins σ H' s2/\Turn X.prog X.w X.K tg J fp it tn/\tn 0 s2.heap/\(∀b∈fp,iJ X pins H' b)/\R J H'
def PI(X:Cx)(tg iter:Expr)(wi:TI):Prop:=
 ∀(pins:List (Addr×Obj))(s:Shared)(σ:St)(H:Hp)(R:It->Hp->Prop),Inv X pins σ H s->wi σ H R->
  wpAny (model X.prog X.w) X.A (eval iter X.env) (λv s1=>wpAny (model X.prog X.w) X.A (pyIter v) (DR X pins σ tg R) X.xe s1) X.xe s
theorem nS{M:Model}{n:String}{vs:Array Value}{Q:Unit->Shared->Prop}(ho:s.heap.get? it=some o)(J:o.cls=.type n)(hd:o.data=.fields vs)
  (I:["enumerate","zip","dict_itemiterator","dict_reverseitemiterator","odict_iterator","itertools.zip_longest","itertools.pairwise"].contains n=false) (B:Q () s):wpAny M A (letOwnedTupleGo tg (.ref it) u) Q E s:=by
 unfold letOwnedTupleGo
 cases tg<;>first
  |exact af B
  |(cases u<;>first
    |exact af B
    |(refine aa (wpAny_load ho ?_)
      rw[J,hd];show wpAny M A (if(["enumerate","zip","dict_itemiterator","dict_reverseitemiterator","odict_iterator","itertools.zip_longest","itertools.pairwise"].contains n&&vs[0]? ==some (rawInt _))=true then _ else _) Q E s
      rw[if_neg (by intro h;rw[I,Bool.false_and] at h;cases h)]
      exact af B))
def CI(K:aD)(a:Addr):It:=
 ⟨λi H=>∃xs x,c8 K H a xs/\xs[i]? =some x,λi H x H'=>H'=H/\∀xs,c8 K H a xs->xs[i]? =some x,λi H=>∃xs,c8 K H a xs/\xs.length<=i⟩
def DG(K:aD)(a:Addr):It:=
 ⟨λi H=>∃xs x,fV K H a xs/\xs[i]? =some x,λi H x H'=>H'=H/\∀xs,fV K H a xs->xs[i]? =some x,λi H=>∃xs,fV K H a xs/\xs.length<=i⟩
noncomputable def CH(lo:Int)(n:Nat):It:=⟨λi _=>i<n,λi H x H'=>H'=H/\x=.int (lo+i),λi _=>n<=i⟩
theorem rf{K:aD}(a it:Addr):Turn P w K tg (CI K a) [it] it (λi h=>h.IsListIter it a i) where
 mem:=by simp
 obj:=λi h st b B=>by
  have e:b=it:=by simpa using B
  subst e;obtain⟨o,e,c,d⟩:=st;exact⟨o,e,λv z=>by rw[d] at z;cases z⟩
 keep:=λi h h' st k=>st.at λo e=>k it (by simp) o e
 item:=by
  intro X hP Z hK hc i pins s σ H E I U st hg;subst hP Z hK;obtain⟨xs,x,J,Y⟩:=hg;obtain⟨its,rv,p,hz⟩:=I.list J;obtain⟨u,hu,ru⟩:=rv.get Y;obtain⟨f0,f1,f2,f3,f4,f5⟩:=U it (by simp)
  refine wpAny_pyNext_list_item st p.isList (x:=u) (by simpa using hu) λh' st' sb=>?_
  have I1:Inv X pins σ H {s with heap:=h'}:=I.turned (t':=s.toks) (λb o B e=>(sb.2 b B).trans e) f0 f1 f3 f4 f5;obtain⟨o,e,c,d⟩:=id st';exact⟨u,rfl,nS (s:={s with heap:=h'}) e c d (by decide) ⟨x,H,I1,ru,⟨rfl,λys hy=>by rw[I.list_inj hy J];exact Y⟩,st',λb B=>(U b B).1⟩⟩
 done:=by
  intro X hP Z hK hc i pins s σ H E I U st hg;subst hP Z hK;obtain⟨xs,J,Y⟩:=hg;obtain⟨its,rv,p,hz⟩:=I.list J;obtain⟨f0,f1,f2,f3,f4,f5⟩:=U it (by simp)
  have hl:=rv.length;exact wpAny_pyNext_list_end (I.ok.hd hc) st p.isList (by simp;omega) λh' eb=>⟨rfl,I.turned (t':=s.toks) (λb o B e=>eb b o B e) f0 f1 f3 f4 f5⟩
 self:=λ_ _ _ _ _ st h=>wpAny_pyIter_listiter st h
theorem oB{K:aD}(a it:Addr):Turn P w K tg (DG K a) [it] it (λi h=>h.IsTupleIter it a i) where
 mem:=by simp
 obj:=λi h st b B=>by
  have e:b=it:=by simpa using B
  subst e;obtain⟨o,e,c,d⟩:=st;exact⟨o,e,λv z=>by rw[d] at z;cases z⟩
 keep:=λi h h' st k=>st.at λo e=>k it (by simp) o e
 item:=by
  intro X hP Z hK hc i pins s σ H E I U st hg;subst hP Z hK;obtain⟨xs,x,J,Y⟩:=hg;obtain⟨its,rv,p,hz⟩:=I.tuple J;obtain⟨u,hu,ru⟩:=rv.get Y;obtain⟨f0,f1,f2,f3,f4,f5⟩:=U it (by simp)
  refine wpAny_pyNext_tuple_item st (show s.heap.IsTuple a its.toArray from p) (x:=u) (by simpa using hu) λh' st' sb=>?_
  have I1:Inv X pins σ H {s with heap:=h'}:=I.turned (t':=s.toks) (λb o B e=>(sb.2 b B).trans e) f0 f1 f3 f4 f5;obtain⟨o,e,c,d⟩:=id st';exact⟨u,rfl,nS (s:={s with heap:=h'}) e c d (by decide) ⟨x,H,I1,ru,⟨rfl,λys hy=>by rw[I.tuple_inj hy J];exact Y⟩,st',λb B=>(U b B).1⟩⟩
 done:=by
  intro X hP Z hK hc i pins s σ H E I U st hg;subst hP Z hK;obtain⟨xs,J,Y⟩:=hg;obtain⟨its,rv,p,hz⟩:=I.tuple J;obtain⟨f0,f1,f2,f3,f4,f5⟩:=U it (by simp)
  have hl:=rv.length;exact wpAny_pyNext_tuple_end (I.ok.hd hc) st (show s.heap.IsTuple a its.toArray from p) (by simp;omega) λh' eb=>⟨rfl,I.turned (t':=s.toks) (λb o B e=>eb b o B e) f0 f1 f3 f4 f5⟩
 self:=λ_ _ _ _ _ st h=>wpAny_pyIter_tupleiter st h
theorem oC{K:aD}(it:Addr)(lo:Int)(n:Nat):Turn P w K tg (CH lo n) [it] it (λi h=>IsRangeIter h it (lo+(i:Nat)*1) ((n:Int) - (i:Nat)) 1) where
 mem:=by simp
 obj:=λi h st b B=>by
  have e:b=it:=by simpa using B
  subst e
  exact⟨_,st,λv z=>by have z':Data.fields _=Data.cell v:=z;cases z'⟩
 keep:=λi h h' st k=>k it (by simp) _ st
 item:=by
  intro X hP U hK Z i pins s σ H E I J st Y;subst hP U hK;obtain⟨f0,f1,f2,f3,f4,f5⟩:=J it (by simp)
  have W:=Walks.range (prog:=X.prog) (w:=X.w) (I.ok.hd Z) it lo 1 n;refine W.item i s _ _ Y st λv h' tk hv st' kk=>?_;obtain⟨t,rfl⟩:=hv;have I1:Inv X pins σ H {s with heap:=h',toks:=tk}:=I.turned (λb o B e=>kk b o (by simpa using B) e) f0 f1 f3 f4 f5
  refine⟨_,rfl,nS (s:={s with heap:=h',toks:=tk}) (n:= "range_iterator") st' rfl rfl (by decide) ⟨.int (lo+i),H,I1,⟨t,?_⟩,⟨rfl,rfl⟩,st',λb B=>(J b B).1⟩⟩
  rw[Int.mul_one]
 done:=by
  intro X hP U hK Z i pins s σ H E I J st Y;subst hP U hK;obtain⟨f0,f1,f2,f3,f4,f5⟩:=J it (by simp)
  exact wpAny_pyNext_range_end (I.ok.hd Z) st (by have:n<=i:=Y;omega) λh' eb=>⟨rfl,I.turned (t':=s.toks) (λb o B e=>eb b o B e) f0 f1 f3 f4 f5⟩
 self:=λ_ _ _ _ _ st h=>wpAny_pyIter_rangeiter st h
section
variable{X:Cx}{tg:Expr}
theorem t8{σ:St}{H:Hp}{R:It->Hp->Prop}{lo hi:Int}{t u v:Tok}{tk:Nat}(I:Inv X pins σ H s)(h1: -(2^62)<=lo)(Z:lo<2^62)(Y: -(2^62)<=hi)(U:hi<2^62)
  (q:R (CH lo (hi - lo).toNat) H):wpAny (model X.prog X.w) X.A (pyIter (.ref s.heap.objs.size)) (DR X pins σ tg R) E {s with heap:=s.heap.push {cls:= .type "range",data:= .fields #[.int lo t,.int hi u,.int 1 v]},toks:=tk}:=by
 refine wpAny_pyIter_range (IsRange.new ..) (small_one h1 Z Y U) ?_;have B:Inv X pins σ H {s with heap:=s.heap.push {cls:= .type "range",data:= .fields #[.int lo t,.int hi u,.int 1 v]},toks:=tk}:=I.kept λb o e=>ah _ e
 refine⟨(s.heap.push {cls:= .type "range",data:= .fields #[.int lo t,.int hi u,.int 1 v]}).objs.size,[(s.heap.push {cls:= .type "range",data:= .fields #[.int lo t,.int hi u,.int 1 v]}).objs.size],_,_,H,rfl,
  B.kept (t':=tk) λb o e=>ah _ e,oC _ lo (hi - lo).toNat,?_,λb J=>?_,q⟩
 ·have e1:lo+((0:Nat):Int)*1=lo:=by simp
  have e2:(((hi - lo).toNat:Nat):Int) - ((0:Nat):Int)=Builtin.Range.rangeSize lo hi 1:=by rw[rangeSize_one];split<;>omega
  show IsRangeIter _ _ (lo+((0:Nat):Int)*1) ((((hi - lo).toNat:Nat):Int) - ((0:Nat):Int)) 1;rw[e1,e2];exact aw _ rfl
 ·have e:b=(s.heap.push {cls:= .type "range",data:= .fields #[.int lo t,.int hi u,.int 1 v]}).objs.size:=by simpa using J
  subst e;exact B.fpOk (ac _) (B.hok.fresh (ac _))
def yg(ta:TA):TI:=λσ H R=>ta σ H λvs H1=>∃j:Int,vs=[.int j]/\ -(2^62)<=j/\j<2^62/\R (CH 0 j.toNat) H1
theorem kZ{a:Expr}{ta:TA}{p:Pos}(J:Gl X "range")(B:X.mg "range"=none)(U:PA X [a] ta)(hs:starEach [a] X.env=[(false,eval a X.env)]:=by rfl):PI X tg (.Call (.Name "range" p) [a] [] pos) (yg ta):=by
 intro pins s σ H R I h;refine Call_ (ez I J B boot_range (a_ (bL (U pos pins s σ H _ I h) λus Y ⟨vs,H1,I1,r1,q1⟩=>?_) hs rfl));obtain⟨j,e,q1,q2,q⟩:=q1;subst e;cases r1 with
 |cons r rr=>
  cases rr;obtain⟨t,rfl⟩:=r;exact call_range_1 (t8 I1 (by omega) (by omega) q1 q2 (by simpa using q))
def C3(wi:TI)(g:TG)(tb:TS):TS:=λD σ H=>wi σ H λJ H1=>∃W:Nat->Nat->St->Hp->Prop,(∃m,W 0 m σ H1)/\∀i m σ H,W i m σ H->
 (J.stop i H/\D.nx σ H)∨(J.go i H/\∃N:St->Hp->Prop,(∀σ' H',N σ' H'->∃m',m'<m/\W (i+1) m' σ' H')/\∀x H',J.yld i H x H'->g x σ H' λσ2 H2=>tb {D with nx:=N,ct:=N,bk:=D.nx} σ2 H2)
noncomputable def jC(fp:List Addr)(h:Heap):List (Addr×Obj):=fp.filterMap λb=>(h.get? b).map λo=>(b,o)
theorem eu(B:b∈fp)(e:h.get? b=some o):(b,o)∈jC fp h:=List.mem_filterMap.mpr ⟨b,B,by rw[e];rfl⟩
theorem rW{p:Addr×Obj}(B:p∈jC fp h):p.1∈fp/\h.get? p.1=some p.2:=by
 obtain⟨b,I,e⟩:=List.mem_filterMap.mp B;cases q:h.get? b with
 |none=>rw[q] at e;cases e
 |some o=>rw[q] at e;have e':(b,o)=p:=ag e;subst e';exact⟨I,q⟩
theorem Inv.pinned{σ:St}{H:Hp}(I:Inv X pins σ H s)(U:∀b∈fp,iJ X pins H b)(ho:∀b∈fp,∃o,s.heap.get? b=some o/\∀v,o.data≠ .cell v):Inv X (pins++jC fp s.heap) σ H s:=
 I.pins_of λp J=>(List.mem_append.mp J).elim (λz=>I.pin p (aS _ z)) λz=>by obtain⟨B,e⟩:=rW z;obtain⟨f0,Z,Y,_⟩:=U p.1 B;obtain⟨o,e',d⟩:=ho p.1 B;rw[e] at e';cases e';exact⟨e,f0,Z,Y,d⟩
theorem Inv.unpinned{B:List (Addr×Obj)}{σ:St}{H:Hp}(I:Inv X (pins++B) σ H s):Inv X pins σ H s:=I.pins_of λp J=>I.pin p (aS _ (aJ _ J))
theorem gd{iter:Expr}{body:List Stmt}{wi:TI}{g:TG}{tb:TS}(B:PassesOwn (model X.prog X.w) X.A X.env X.xe)(hc:X.calm=true)(hi:PI X tg iter wi)(hg:PG X tg g)(U:PSs X body tb)
  (hs:∀x,foldedSetIterable iter X.env x=pure x:=by intro _;rfl):PS X (.For tg iter body [] pos) (C3 wi g tb):=by
 intro pins s σ H D I h;refine wpAny_For (bL (hi pins s σ H _ I h) λv s1 h1=>bL h1 λitv s2 h2=>?_) hs;obtain⟨it,fp,tn,J,H2,e,I2,T,st2,f2,W,⟨m0,w0⟩,turn⟩:=h2;subst e;have stat:∀{H':Hp},(∀b∈fp,H' b=none)->∀b∈fp,iJ X pins H' b:=λhn b U=>⟨hn b U,(f2 b U).2⟩;refine codeAny_forLoop_any (λn s'=>∃i σ' H',Inv X pins σ' H' s'/\tn i s'.heap/\(∀b∈fp,H' b=none)/\W i n σ' H') ?_ m0 ⟨0,σ,H2,I2,st2,λb U=>(f2 b U).1,w0⟩;rintro n s3 ⟨i,σ3,H3,I3,st3,fr3,w3⟩;rcases turn i n σ3 H3 w3 with⟨stop,qn⟩|⟨go,N,hN,step⟩
 ·refine wpAny_passesOwn B (bL (T.done X rfl rfl rfl hc i pins s3 σ3 H3 X.xe I3 (stat fr3) st3 stop) λr s4 ⟨hr,I4⟩=>?_);subst hr;exact wpAny_execs_nil ⟨σ3,H3,I4,qn⟩
 ·refine wpAny_passesOwn B (bL (T.item X rfl rfl rfl hc i pins s3 σ3 H3 X.xe I3 (stat fr3) st3 go) λr s4 B=>?_);obtain⟨u,hr,h4⟩:=B;subst hr;refine wpAny_passesOwn B (bL h4 λ_ s5 B=>?_);obtain⟨x,H5,I5,r5,y5,st5,fr5⟩:=B;have I5':=I5.pinned (stat fr5) (T.obj _ _ st5);refine wpAny_passesOwn B (bL (hg _ s5 σ3 H5 x u _ I5' r5 (step x H5 y5)) λ_ s6 B=>?_);obtain⟨σ6,H6,I6,q6⟩:=B;refine wpAny_passesOwn B (bL (U _ s6 σ6 H6 _ I6 q6) λf s7 q7=>?_)
  have again:∀{σ7:St}{Z:Hp},Inv X (pins++jC fp s5.heap) σ7 Z s7->N σ7 Z->∃m,m<n/\∃i σ' H',Inv X pins σ' H' s7/\tn i s7.heap/\(∀b∈fp,H' b=none)/\W i m σ' H':=λ{σ7 Z} Y n7=>by obtain⟨m',hm,w7⟩:=hN σ7 Z n7;refine⟨m',hm,i+1,σ7,Z,Y.unpinned,T.keep _ _ _ st5 λb U o e=>(Y.pin (b,o) (aS _ (aS _ (eu U e)))).1,λb U=>?_,w7⟩;obtain⟨o,e,d⟩:=T.obj _ _ st5 b U;exact(Y.pin (b,o) (aS _ (aS _ (eu U e)))).2.1
  cases f with
  |next=>obtain⟨σ7,Z,Y,n7⟩:=q7;exact again Y n7
  |cont=>obtain⟨σ7,Z,Y,n7⟩:=q7;exact again Y n7
  |brk=>obtain⟨σ7,Z,Y,q7⟩:=q7;exact⟨σ7,Z,Y.unpinned,q7⟩
  |ret v=>obtain⟨x7,σ7,Z,Y,r7,q7⟩:=q7;exact⟨x7,σ7,Z,Y.unpinned,r7,q7⟩
end
abbrev R2:=V->V->Hp->VK->Prop
noncomputable def kA(X:Cx)(f:Value->Value->Sem Value)(r:R2):Prop:=
 ∀(pins:List (Addr×Obj))(s:Shared)(σ:St)(H:Hp)(x y:V)(v u:Value)(Q:VK),Inv X pins σ H s->RelV x v->RelV y u->r x y H Q->
  wpAny (model X.prog X.w) X.A (f v u) (EP X pins σ Q) X.xe s
def DB(X:Cx)(f:Value->Sem Value)(r:V->Hp->VK->Prop):Prop:=
 ∀(pins:List (Addr×Obj))(s:Shared)(σ:St)(H:Hp)(x:V)(v:Value)(Q:VK),Inv X pins σ H s->RelV x v->r x H Q->
  wpAny (model X.prog X.w) X.A (f v) (EP X pins σ Q) X.xe s
def fP(X:Cx)(f:Value)(r:List V->Hp->VK->Prop):Prop:=
 ∀(pins:List (Addr×Obj))(s:Shared)(σ:St)(H:Hp)(xs:List V) (us:List Value)(Q:VK),Inv X pins σ H s->bh xs us->r xs H Q->
  wpAny (model X.prog X.w) X.A (call f us) (EP X pins σ Q) X.xe s
def A6(r:R2)(ta tb:TE):TE:=λσ H Q=>ta σ H λx H1=>tb σ H1 λy H2=>r x y H2 Q
def DW(r:V->Hp->VK->Prop)(ta:TE):TE:=λσ H Q=>ta σ H λx H1=>r x H1 Q
def rI(C:Int->Int->Prop)(g:Int->Int->V):R2:=λx y H Q=>∃i j,x=.int i/\y=.int j/\C i j/\Q (g i j) H
def zh(g:Int->Int->V):R2:=λx y H Q=>∃i j,x=.int i/\y=.int j/\Q (g i j) H
def rU(g:Int->V):V->Hp->VK->Prop:=λx H Q=>∃i,x=.int i/\Q (g i) H
section
variable{X:Cx}{a b:Expr}{ta tb:TE}{pos:Pos}
theorem AB(ha:PE X a ta)(hb:PE X b tb){σ:St}{H:Hp}{R:V->V->Hp->Prop}(I:Inv X pins σ H s)
  (h:ta σ H λx H1=>tb σ H1 λy B=>R x y B)
  (hf:∀v u J x y B,Inv X pins σ B J->RelV x v->RelV y u->R x y B->wpAny (model X.prog X.w) X.A (f v u) Q X.xe J):
  wpAny (model X.prog X.w) X.A (eval a X.env) (λv s₁=>wpAny (model X.prog X.w) X.A (eval b X.env) (λu s₂=>wpAny (model X.prog X.w) X.A (f v u) Q X.xe s₂) X.xe s₁) X.xe s:=by
 refine bL (ha pins s σ H _ I h) λv Y U=>?_;obtain⟨x,H1,I1,r1,q1⟩:=U;refine bL (hb pins Y σ H1 _ I1 q1) λu J U=>?_;obtain⟨y,B,I2,Z,q2⟩:=U;exact hf v u J x y B I2 r1 Z q2
theorem BF{op:Operator}{r:R2}(ho:kA X (binaryOp op) r)(Z:PE X a ta)(Y:PE X b tb):PE X (.BinOp a op b pos) (A6 r ta tb):=by intro pins s σ H Q I h;exact wpAny_BinOp (AB Z Y I h λv u B x y H2 I2 U J q=>ho pins B σ H2 x y v u Q I2 U J q)
theorem xV{op:UnaryOp}{r:V->Hp->VK->Prop}(ho:DB X (unaryOp op) r)(J:PE X a ta):PE X (.UnaryOp op a pos) (DW r ta):=by intro pins s σ H Q I h;exact UnaryOp_ (bL (J pins s σ H _ I h) λv B ⟨x,H1,I1,r1,q1⟩=>ho pins B σ H1 x v Q I1 r1 q1)
theorem Cz{C:Int->Int->Prop}{g:Int->Int->Int}
  (rule:∀(i j:Int)(t u:Tok)(s:Shared)(Q:Value->Shared->Prop)(E:Value->Shared->Prop),C i j->Q (.int (g i j) s.toks) {s with toks:=s.toks+1}->wpAny (model X.prog X.w) X.A (f (.int i t) (.int j u)) Q E s):
  kA X f (rI C λi j=>.int (g i j)):=by
 intro pins s σ H x y v u Q I J B h;obtain⟨i,j,rfl,rfl,U,q⟩:=h;obtain⟨t,rfl⟩:=J;obtain⟨t',rfl⟩:=B;exact rule i j t t' s _ _ U ⟨.int (g i j),H,I.tok _,⟨_,rfl⟩,q⟩
theorem BL{g:Int->Int->Int}
  (rule:∀(i j:Int)(t u:Tok)(s:Shared)(Q:Value->Shared->Prop)(E:Value->Shared->Prop),Q (.int (g i j) s.toks) {s with toks:=s.toks+1}->wpAny (model X.prog X.w) X.A (f (.int i t) (.int j u)) Q E s):
  kA X f (zh λi j=>.int (g i j)):=by
 intro pins s σ H x y v u Q I J B h;obtain⟨i,j,rfl,rfl,q⟩:=h;obtain⟨t,rfl⟩:=J;obtain⟨t',rfl⟩:=B;exact rule i j t t' s _ _ ⟨.int (g i j),H,I.tok _,⟨_,rfl⟩,q⟩
theorem zP{g:Int->Int->Bool}
  (rule:∀(i j:Int)(t u:Tok)(s:Shared)(Q:Value->Shared->Prop)(E:Value->Shared->Prop),Q (.bool (g i j)) s->wpAny (model X.prog X.w) X.A (f (.int i t) (.int j u)) Q E s):
  kA X f (zh λi j=>.bl (g i j)):=by
 intro pins s σ H x y v u Q I J B h;obtain⟨i,j,rfl,rfl,q⟩:=h;obtain⟨t,rfl⟩:=J;obtain⟨t',rfl⟩:=B;exact rule i j t t' s _ _ ⟨.bl (g i j),H,I,rfl,q⟩
noncomputable def DL(i j:Int):Prop:=0<=j/\j<=1000000/\i.natAbs<2^64
noncomputable def AI(i j:Int):Prop:=(-(2^64)<i/\i<2^64)∨(-(2^64)<j/\j<2^64)
theorem AI.ok{i j:Int}(h:AI i j):IntMulOk i j:=by
 rcases h with⟨h1,h2⟩|⟨h1,h2⟩
 ·exact .of_left (intBits_le_64 h1 h2)
 ·exact .of_right (intBits_le_64 h1 h2)
theorem zO:kA X (binaryOp .Add) (zh λi j=>.int (i+j)):=BL λ_ _ _ _ _ _ _ q=>add_int q
theorem zK:kA X (binaryOp .Sub) (zh λi j=>.int (i - j)):=BL λ_ _ _ _ _ _ _ q=>sub_int q
theorem wX:kA X (binaryOp .Mod) (rI (λ_ j=>j≠0) λi j=>.int (i.fmod j)):=Cz λ_ _ _ _ _ _ _ B q=>mod_int' B q
theorem zL:kA X (binaryOp .Pow) (rI DL λi j=>.int (i^j.toNat)):=Cz λ_ _ _ _ _ _ _ B q=>pow_int_small B.1 B.2.1 B.2.2 q
theorem DT{f:Value->Sem Value}{g:Int->Int}
  (rule:∀(i:Int)(t:Tok)(s:Shared)(Q:Value->Shared->Prop)(E:Value->Shared->Prop),Q (.int (g i) s.toks) {s with toks:=s.toks+1}->wpAny (model X.prog X.w) X.A (f (.int i t)) Q E s):
  DB X f (rU λi=>.int (g i)):=by
 intro pins s σ H x v Q I B h;obtain⟨i,rfl,q⟩:=h;obtain⟨t,rfl⟩:=B;exact rule i t s _ _ ⟨.int (g i),H,I.tok _,⟨_,rfl⟩,q⟩
theorem tf:DB X (unaryOp .USub) (rU λi=>.int (-i)):=DT λ_ _ _ _ _ q=>neg_int q
end
section
variable{X:Cx}{a b c:Expr}{ta tb tc:TE}{pos:Pos}
theorem BI:kA X (compareOp .Lt) (zh λi j=>.bl (decide (i<j))):=zP λ_ _ _ _ _ _ _ q=>lt_int q
theorem BJ:kA X (compareOp .LtE) (zh λi j=>.bl (decide (i<=j))):=zP λ_ _ _ _ _ _ _ q=>le_int q
theorem BK:kA X (compareOp .Gt) (zh λi j=>.bl (decide (j<i))):=zP λ_ _ _ _ _ _ _ q=>gt_int q
theorem wT{op:CmpOp}{r:R2}(ho:kA X (compareOp op) r)(ha:PE X a ta)(Z:PE X b tb)(Y:behindInMarks op b=false):PE X (.Compare a [op] [b] pos) (A6 r ta tb):=by intro pins s σ H Q I h;exact wpAny_Compare1 (AB ha Z I h λv u B x y H2 I2 U J q=>ho pins B σ H2 x y v u Q I2 U J q) Y
def tq(t:TE):TT:=λσ H Q=>t σ H λx H'=>∃k,x=.bl k/\Q k H'
theorem wH{op:CmpOp}{r:R2}(ho:kA X (compareOp op) r)(Z:PE X a ta)(Y:PE X b tb)(U:behindInMarks op b=false):PT X (.Compare a [op] [b] pos) (tq (A6 r ta tb)):=by
 intro pins s σ H Q I h
 refine wpAny_isTrue_Compare1 (bL (Z pins s σ H _ I h) λv J ⟨x,H1,I1,r1,q1⟩=>bL (Y pins J σ H1 _ I1 q1) λu B ⟨y,H2,I2,r2,q2⟩=>
  bL (ho pins B σ H2 x y v u _ I2 r1 r2 q2) λc s3 ⟨z,H3,I3,r3,k,e,q3⟩=>?_) U
 subst e;cases r3;exact wpAny_truthy_bool ⟨H3,I3,q3⟩
def oG(r r':R2)(ta tb tc:TE):TE:=λσ H Q=>ta σ H λx H1=>tb σ H1 λy H2=>r x y H2 λz H3=>∃k,z=.bl k/\
 (if k=true then tc σ H3 λw' H4=>r' y w' H4 Q else Q (.bl false) H3)
theorem uq{op B:CmpOp}{r U:R2}(ho:kA X (compareOp op) r)(J:kA X (compareOp B) U)(ha:PE X a ta)(hb:PE X b tb)(hc:PE X c tc)
  (hm:lastMarks [op,B] [b,c]=false:=by with_unfolding_all rfl):PE X (.Compare a [op,B] [b,c] pos) (oG r U ta tb tc):=by
 intro pins s σ H Q I h
 refine Compare_chain (bL (ha pins s σ H _ I h) λv s1 ⟨x,H1,I1,r1,q1⟩=>chain_link (bL (hb pins s1 σ H1 _ I1 q1) λu s2 ⟨y,H2,I2,r2,q2⟩=>
  bL (ho pins s2 σ H2 x y v u _ I2 r1 r2 q2) λd s3 ⟨z,H3,I3,r3,k,e,q3⟩=>?_)) hm
 subst e;cases r3;refine wpAny_truthy_bool ?_;cases k with
 |false=>exact ite_ff ⟨.bl false,H3,I3,rfl,q3⟩
 |true=>exact ite_tt (chain_last (bL (hc pins s3 σ H3 _ I3 q3) λZ s4 ⟨Y,H4,I4,r4,q4⟩=>J pins s4 σ H4 y Y u Z Q I4 r2 r4 q4))
theorem uc{op B:CmpOp}{r U:R2}(ho:kA X (compareOp op) r)(J:kA X (compareOp B) U)(ha:PE X a ta)(hb:PE X b tb)(hc:PE X c tc)
  (hm:lastMarks [op,B] [b,c]=false:=by with_unfolding_all rfl):PT X (.Compare a [op,B] [b,c] pos) (tq (oG r U ta tb tc)):=by
 intro pins s σ H Q I h
 refine isTrue_chain (bL (ha pins s σ H _ I h) λv s1 ⟨x,H1,I1,r1,q1⟩=>test_link (bL (hb pins s1 σ H1 _ I1 q1) λu s2 ⟨y,H2,I2,r2,q2⟩=>
  bL (ho pins s2 σ H2 x y v u _ I2 r1 r2 q2) λd s3 ⟨z,H3,I3,r3,k,e,q3⟩=>?_)) hm
 subst e;cases r3;refine wpAny_truthy_bool ?_;cases k with
 |false=>obtain⟨k',e',q'⟩:=q3;cases e';exact ite_ff ⟨H3,I3,q'⟩
 |true=>refine ite_tt (test_last (bL (hc pins s3 σ H3 _ I3 q3) λZ s4 ⟨Y,H4,I4,r4,q4⟩=>bL (J pins s4 σ H4 y Y u Z _ I4 r2 r4 q4) λd' s5 hp=>?_));obtain⟨z2,H5,I5,r5,k2,e2,q5⟩:=hp;subst e2;cases r5;exact wpAny_truthy_bool ⟨H5,I5,q5⟩
theorem jK:(sizeLine:Nat)<2^63:=by rw[sizeLine_eq];decide
theorem vals1{x:V}(r:bh [x] us):∃u,us=[u]/\RelV x u:=by
 cases r with
 |cons r1 r2=>cases r2;exact⟨_,rfl,r1⟩
end
structure ObjM(h:Heap)(x dx C:Addr)(mA:Str->Option Value):Prop where
 obj:h.get? x=some (PySem.W.instObj C dx)
 ns:h.Ns1 dx mA
 ne:dx≠x
theorem rZ(n:h.Ns1 dx mA):∃I,h.get? dx=some I/\∀name,PySem.W.lookIn name I=some (mA name):=by
 obtain⟨o,es,ep,ho,hd,Y,_,U⟩:=n;refine⟨o,ho,λname=>?_⟩;have e:=U name;unfold nsFind findBy at e;rw[<-Array.find?_toList] at e;unfold PySem.W.lookIn;rw[hd];dsimp only;split
 ·rename_i y q;rw[q] at e;exact congrArg some e
 ·rename_i q;rw[q] at e
  have a:es.toList.any (·.refKey)=false:=by rw[List.any_eq_false];intro y J;obtain⟨z,t,B⟩:=Y y (Array.mem_toList_iff.mp J);simp[DictEntry.refKey,B]
  have a':¬es.toList.any (·.refKey)=true:=by rw[a];exact aP
  rw[if_neg a'];exact congrArg some e
theorem ObjM.look{x:Addr}(I:ObjM h x dx C mA):∃B,PySem.W.InstAt h x (PySem.W.instObj C dx) C (some B)/\∀name,PySem.W.lookIn name B=some (mA name):=
 let⟨B,ho,hl⟩:=rZ I.ns
 ⟨B,⟨I.obj,rfl,rfl,ho⟩,hl⟩
section
variable{prog:Program}{w:World}{A:Around}{E:Value->Shared->Prop}{s:Shared}{K:aD}{x dx C f:Addr}{mA:Str->Option Value}{name:Str}{v:Value}
theorem xo{expr:Bool}(X:K.In s.heap)(I:ObjM s.heap x dx C mA)(hg:PySem.W.plainGet K C name=true)(Z:PySem.W.hasDictIn K C=true)
  (ha:PySem.W.findIn K (.ref C) name=some none)(U:mA name=some v)(B:PySem.W.handedIn v=true)(h:Q v {s with toks:=s.toks+1}):
  wpAny (model prog w) A (getAttr (.ref x) name expr) Q E s:=by
 obtain⟨od,J,Y⟩:=I.look;exact PySem.W.get_value X J (PySem.W.plainGet_of hg).1 (PySem.W.findObj_own Z ha rfl (by rw[Y,U])) B h
theorem uW{U:Sem Bool}{Q:Value×List Value->Shared->Prop}(X:K.In s.heap)(I:ObjM s.heap x dx C mA)(B:PySem.W.plainGet K C name=true)
  (hf:PySem.W.findIn K (.ref C) name=some (some (.ref f)))(ht:PySem.W.isFn K (.ref f)=true)(Z:mA name=none)(h:Q (.ref f,[.ref x]) s):
  wpAny (model prog w) A (getMethod (.ref x) name U) Q E s:=by
 obtain⟨Y,J,hl⟩:=I.look;exact PySem.W.method_fn X J (PySem.W.plainGet_of B).1 (PySem.W.plainGet_of B).2 hf (beq_iff_eq.mp ht) (by show(PySem.W.lookIn name Y).map (·.isSome)=some false;rw[hl,Z];rfl) h
theorem wl{ns:List Str}{Q:Unit->Shared->Prop}(X:K.In s.heap)(I:ObjM s.heap x dx C mA)
  (hs:PySem.W.findIn K (.ref C) "__setattr__"=some (some (.builtin "object.__setattr__"))) (hp:PySem.W.plainOver K C=true)(ht:PySem.W.takerIn K C name=some none)(hh:PySem.W.hasDictIn K C=true)
  (hw:PySem.Within mA ns)(hsz:ns.length<=sizeLine)
  (h:∀h',ObjM h' x dx C (λy=>if y=name then some v else mA y)->Heap.SameBut dx s.heap h'->Q () {s with heap:=h',toks:=s.toks+2}):
  wpAny (model prog w) A (setAttr (.ref x) name v) Q E s:=by
 obtain⟨od,J,hl⟩:=I.look;refine PySem.W.set_plain X J hs (PySem.W.osa_open (s:={s with toks:=s.toks+1}) (r:=none) X J hp ht λb=>?_);obtain⟨cd,hc,hd'⟩:=PySem.W.any_some hh;have hx:s.heap.get? x=some ⟨.ref C,some dx,.plain,#[]⟩:=I.obj;refine aa (af (aa (aa (wpAny_loadPart hx (aa (PySem.W.Looks.here (s:={s with toks:=s.toks+1}) (PySem.W.looks_clsIn X hc) ?_))))));rw[hd'];refine af (a:=some dx) (aa (af (aa ?_)));refine wpAny_nsSet1 (s:={s with toks:=s.toks+1}) I.ns λh' U B=>?_;obtain⟨oD,esD,epD,Y,Z,hcD⟩:=U.count (PySem.Within.cons name v hw);refine aa (wpAny_lookBehind Y (by rw[Z];exact pastItsLine_dict (aB hcD (by rw[List.length_cons];omega))) ?_)
 exact af (h _ ⟨(B.2 _ (Ne.symm I.ne)).trans I.obj,U,I.ne⟩ B)
theorem uE{R:Result->Shared->Prop}{vs:List Value}(X:K.In s.heap)(B:PySem.W.makesIn K C=true)
  (hi:PySem.W.findIn K (.ref C) "__init__"=some (some (.ref f))) (I:PySem.W.typeIn K (.ref f)=some (.type "function"))
  (h:codeAny (model prog w) (A.under (.builtin "type.__call__" ⟨.ref C::vs,kw⟩)) (.call (.ref f) ⟨.ref (s.heap.objs.size+1)::vs,kw⟩) (PySem.W.InitBack (s.heap.objs.size+1) R)
   {s with heap:=(s.heap.push PySem.W.emptyDict).push (PySem.W.instObj C s.heap.objs.size)}):
  codeAny (model prog w) A (.call (.ref C) ⟨vs,kw⟩) R s:=by
 obtain⟨J,g,d,t,os⟩:=s;exact PySem.W.make_core (PySem.W.makes_of X B) (PySem.W.looks_findIn X hi) (λself=>PySem.W.bind_fn X self I) (.inl rfl) h
end
noncomputable def dk(f:Str)(v:V):List (Str×V)->List (Str×V)
 |[]=>[(f,v)]
 |(g,x)::r=>if g=f then(g,v)::r else(g,x)::dk f v r
theorem iM(f g:Str)(v:V):∀fs:List (Str×V),(dk f v fs).lookup g=if g=f then some v else fs.lookup g
 |[]=>by
  show List.lookup g [(f,v)]=_;by_cases h:g=f
  ·have B:(g==f)=true:=beq_iff_eq.mpr h;simp only[List.lookup,B,if_pos h]
  ·have B:(g==f)=false:=beq_eq_false_iff_ne.mpr h;simp only[List.lookup,B,if_neg h]
 |(k,x)::r=>by
  have I:=iM f g v r;rw[show dk f v ((k,x)::r)=(if k=f then(k,v)::r else(k,x)::dk f v r) from rfl]
  by_cases hk:k=f
  ·rw[if_pos hk];by_cases h:g=k
   ·have B:(g==k)=true:=beq_iff_eq.mpr h;simp only[List.lookup,B,if_pos (h.trans hk)]
   ·have B:(g==k)=false:=beq_eq_false_iff_ne.mpr h;simp only[List.lookup,B,if_neg (λe:g=f=>h (e.trans hk.symm))]
  ·rw[if_neg hk];by_cases h:g=k
   ·have B:(g==k)=true:=beq_iff_eq.mpr h;simp only[List.lookup,B,if_neg (λe:g=f=>hk (h.symm.trans e))]
   ·have B:(g==k)=false:=beq_eq_false_iff_ne.mpr h;simp only[List.lookup,B];exact I
theorem ip(f:Str)(v:V):∀fs:List (Str×V),f∈(dk f v fs).map (·.1)/\∀g,g∈fs.map (·.1)->g∈(dk f v fs).map (·.1)
 |[]=>⟨by simp[dk],λg h=>by simp at h⟩
 |(k,x)::r=>by
  obtain⟨I,B⟩:=ip f v r;rw[show dk f v ((k,x)::r)=(if k=f then(k,v)::r else(k,x)::dk f v r) from rfl]
  by_cases hk:k=f
  ·rw[if_pos hk];subst hk;exact⟨by simp,λg h=>by simpa using h⟩
  ·rw[if_neg hk];refine⟨?_,λg h=>?_⟩
   ·rw[List.map_cons];exact List.mem_cons_of_mem _ I
   ·rw[List.map_cons] at h ⊢;rcases List.mem_cons.mp h with e|e
    ·exact List.mem_cons.mpr (.inl e)
    ·exact List.mem_cons_of_mem _ (B g e)
theorem fw(f:Str)(v:V):∀fs:List (Str×V),(dk f v fs).length<=fs.length+1
 |[]=>by simp[dk]
 |(k,x)::r=>by
  have B:=fw f v r;rw[show dk f v ((k,x)::r)=(if k=f then(k,v)::r else(k,x)::dk f v r) from rfl]
  by_cases hk:k=f
  ·rw[if_pos hk,List.length_cons,List.length_cons];omega
  ·rw[if_neg hk,List.length_cons,List.length_cons];omega
theorem fc.some_of{v:V}{o:Option Value}(r:fc (some v) o):∃u,o=some u/\RelV v u:=by
 cases o with
 |none=>exact(show False from r).elim
 |some u=>exact⟨u,rfl,r⟩
theorem fc.none_of{o:Option Value}(r:fc none o):o=none:=by
 cases o with
 |none=>rfl
 |some u=>exact(show False from r).elim
theorem so{v:V}(r:RelV v u):PySem.W.handedIn u=true:=by
 cases v with
 |non=>cases(show u=Value.none from r);rfl
 |bl b=>cases(show u=Value.bool b from r);rfl
 |int i=>obtain⟨t,e⟩:=(show ∃t,u=Value.int i t from r);cases e;rfl
 |str x=>obtain⟨t,e⟩:=(show ∃t,u=Value.str x t from r);cases e;rfl
 |byt b=>obtain⟨t,e⟩:=(show ∃t,u=Value.bytes b t from r);cases e;rfl
 |flt b=>obtain⟨t,e⟩:=(show ∃t,u=Value.float b t from r);cases e;rfl
 |ref a=>cases(show u=Value.ref a from r);rfl
 |ty n=>cases(show u=Value.type n from r);rfl
section
variable{P:Program}{w:World}{H:Hp}{h:Heap}{a C dx:Addr}{fs:List (Str×V)}
theorem ml(B:gz P w H h)(e:H a=some (.ins C dx fs)):∃mA,ObjM h a dx C mA/\(∀f,fc (fs.lookup f) (mA f))/\PySem.Within mA (fs.map (·.1))/\fs.length<=1000/\H dx=some (.own a):=by obtain⟨d,z,ne,I,mA,n,r,q⟩:=(show bT P w H h a (.ins C dx fs) from B a _ e);exact⟨mA,⟨I,n,ne⟩,r,q,z,d⟩
end
structure Cls(K:aD)(C:Addr):Prop where
 pg:PySem.W.plainGet K C Str.empty=true
 hd:PySem.W.hasDictIn K C=true
 po:PySem.W.plainOver K C=true
 sa:PySem.W.findIn K (.ref C) "__setattr__"=some (some (.builtin "object.__setattr__"))
theorem Cls.get{K:aD}(c:Cls K C)(f:Str):PySem.W.plainGet K C f=true:=c.pg
def eW(K:aD)(C:Addr)(f:Str):Prop:=PySem.W.findIn K (.ref C) f=some none
theorem eW.taker{K:aD}{f:Str}(n:eW K C f):PySem.W.takerIn K C f=some none:=by unfold PySem.W.takerIn;rw[show PySem.W.findIn K (.ref C) f=some none from n];rfl
structure Meth(K:aD)(C:Addr)(m:Str)(f:Addr):Prop where
 at_:PySem.W.findIn K (.ref C) m=some (some (.ref f))
 fn:PySem.W.isFn K (.ref f)=true
 kp:PySem.W.keepIn K (.ref f)=true
section
variable{X:Cx}{pins:List (Addr×Obj)}{σ:St}{H:Hp}{s:Shared}{a C dx:Addr}{fs:List (Str×V)}{f:Str}{v:V}{A:Around}{E:Value->Shared->Prop}
theorem o_{b:Bool}(I:Inv X pins σ H s)(e:H a=some (.ins C dx fs))(c:Cls X.K C)(n:eW X.K C f)(l:fs.lookup f=some v)
  (h:∀u s',Inv X pins σ H s'->RelV v u->Q u s'):wpAny (model X.prog X.w) A (getAttr (.ref a) f b) Q E s:=by
 obtain⟨mA,O,r,_,_,_⟩:=ml I.hok e;obtain⟨u,J,B⟩:=fc.some_of (v:=v) (o:=mA f) (by rw[<-l];exact r f)
 exact xo I.kIn O (c.get f) c.hd n J (so B) (h u _ (I.tok _) B)
theorem jW{m:Str}{g:Addr}{B:Sem Bool}{Q:Value×List Value->Shared->Prop}(I:Inv X pins σ H s)(e:H a=some (.ins C dx fs))(c:Cls X.K C)(k:Meth X.K C m g)(l:fs.lookup m=none)
  (h:Q (.ref g,[.ref a]) s):wpAny (model X.prog X.w) A (getMethod (.ref a) m B) Q E s:=by
 obtain⟨mA,O,r,_,_,_⟩:=ml I.hok e;have J:mA m=none:=fc.none_of (by rw[<-l];exact r m)
 exact uW I.kIn O (c.get m) k.at_ k.fn J h
theorem oM{y:V}{Q:Unit->Shared->Prop}(I:Inv X pins σ H s)(e:H a=some (.ins C dx fs))(c:Cls X.K C)(n:eW X.K C f)(hl:fs.length<1000)(Y:RelV y u)
  (h:∀s',Inv X pins σ (upd H a (.ins C dx (dk f y fs))) s'->Q () s'):wpAny (model X.prog X.w) A (setAttr (.ref a) f u) Q E s:=by
 obtain⟨mA,O,r,J,_,ho⟩:=ml I.hok e;have Z:(fs.map (·.1)).length<=sizeLine:=by rw[List.length_map,sizeLine_eq];omega
 refine wl I.kIn O c.sa c.po n.taker c.hd J Z λh' B U=>h _ ?_;have hd:∃o,h'.get? dx=some o:=let⟨o,_,_,e',_⟩:=B.ns;⟨o,e'⟩;refine I.write (x:=a) (e:=dx) (by rw[e];exact True.intro) (.inr ho) (λb q hb z=>(U.2 b hb).trans z) hd ?_
 refine⟨by rw[aG O.ne];exact ho,?_,O.ne,B.obj,_,B.ns,λg=>?_,λg hg=>?_⟩
 ·have:=fw f y fs;omega
 ·show fc ((dk f y fs).lookup g) (if g=f then some u else mA g)
  rw[iM];by_cases q:g=f
  ·rw[if_pos q,if_pos q];exact Y
  ·rw[if_neg q,if_neg q];exact r g
 ·by_cases q:g=f
  ·rw[q];exact(ip f y fs).1
  ·refine(ip f y fs).2 g (J g λz=>hg ?_);show(if g=f then some u else mA g)=none
   rw[if_neg q];exact z
theorem Inv.made(I:Inv X pins σ H s):Inv X pins σ (upd (upd H s.heap.objs.size (.own (s.heap.objs.size+1))) (s.heap.objs.size+1) (.ins C s.heap.objs.size []))
  {s with heap:=(s.heap.push PySem.W.emptyDict).push (PySem.W.instObj C s.heap.objs.size)}:=by
 have B:(s.heap.push PySem.W.emptyDict).get? s.heap.objs.size=some PySem.W.emptyDict:=aw s.heap rfl
 have Z:((s.heap.push PySem.W.emptyDict).push (PySem.W.instObj C s.heap.objs.size)).get? (s.heap.objs.size+1)=some (PySem.W.instObj C s.heap.objs.size):=by have:=aw (s.heap.push PySem.W.emptyDict) (o:=PySem.W.instObj C s.heap.objs.size) rfl;rwa [Heap.size_push] at this
 have Y:(s.heap.push PySem.W.emptyDict).Ns s.heap.objs.size (λ_=>none):=⟨PySem.W.emptyDict,#[],_,B,rfl,(λe U=>absurd U (by simp)),λ_=>rfl⟩
 have I1:=I.laid (a:=s.heap.objs.size) (o:= .own (s.heap.objs.size+1)) (h':=s.heap.push PySem.W.emptyDict) (t':=s.toks) (λb u q=>ah _ q) (ac _) ⟨_,B⟩;refine I1.laid (a:=s.heap.objs.size+1) (o:= .ins C s.heap.objs.size []) (t':=s.toks) (λb u q=>ah _ q) (Nat.le_of_eq (Heap.size_push _ _)) ?_;have ne:s.heap.objs.size≠s.heap.objs.size+1:=aC (aO _);refine⟨by rw[aG ne,bf],Nat.zero_le _,ne,Z,λ_=>none,(Heap.Ns1.of_empty Y).at λo q=>ah _ q,λ_=>True.intro,λy J=>absurd rfl J⟩
theorem xF{prog:Program}{env:Env}{f:Str}{s:Shared}(B:attributeBase e f env (eval e env)=eval e env)
  (h:wpAny (model prog w) A (eval e env) (λo s₁=>wpAny (model prog w) A (getAttr o f true) Q E s₁) E s):wpAny (model prog w) A (eval (.Attribute e f pos) env) Q E s:=
 Attribute_any_ h (by rw[arm_eval_Attribute,B])
end
def C4(K:aD)(ta:TE)(f:Str):TE:=λσ H Q=>ta σ H λx H1=>∃a C dx fs v,x=.ref a/\H1 a=some (.ins C dx fs)/\Cls K C/\eW K C f/\fs.lookup f=some v/\Q v H1
def De(K:aD)(ta tv:TE)(f:Str):TS:=λD σ H=>tv σ H λy H1=>ta σ H1 λx H2=>∃a C dx fs,x=.ref a/\H2 a=some (.ins C dx fs)/\Cls K C/\eW K C f/\fs.length<1000/\
 D.nx σ (upd H2 a (.ins C dx (dk f y fs)))
section
variable{X:Cx}{o e value:Expr}{f:Str}{pos pos':Pos}{ta tv:TE}
theorem zH(Y:PE X e ta)(Z:attributeBase e f X.env (eval e X.env)=eval e X.env):PE X (.Attribute e f pos) (C4 X.K ta f):=by intro pins s σ H Q I h;refine xF Z (bL (Y pins s σ H _ I h) λu s1 U=>?_);obtain⟨x,H1,I1,B,a,C,dx,fs,v,ex,ea,c,n,l,q⟩:=U;subst ex;obtain rfl:u=Value.ref a:=B;exact o_ I1 ea c n l λu' s2 I2 J=>⟨v,H1,I2,J,q⟩
theorem zq(Y:PE X o ta)(U:PE X value tv)(hs:swapsWith value (some (.Attribute o f pos')) pos.line X.env=pure false):PS X (.Assign [.Attribute o f pos'] value pos) (De X.K ta tv f):=by intro pins s σ H D I h;refine plainObj_wpAny_Assign_Attribute (bL (U pins s σ H _ I h) λu B ⟨y,H1,I1,ry,q⟩=>bL (Y pins B σ H1 _ I1 q) λJ s2 ⟨x,H2,I2,rx,a,C,dx,fs,ex,ea,c,n,l,q2⟩=>?_) hs;subst ex;obtain rfl:J=Value.ref a:=rx;exact oM I2 ea c n l ry λs3 Z=>⟨σ,_,Z,q2⟩
end
section
end
structure Room(k:Nat)(A:Around):Prop where
 hd:A.handled=none
 dp:A.depth+3*k+5<recursionLimit
 un:A.units+16*k+200<cLine
theorem Room.mono{k:Nat}(r:Room k A)(h:j<=k):Room j A:=⟨r.hd,by have:=r.dp;omega,by have:=r.un;omega⟩
theorem Room.deeper{k:Nat}(r:Room (k+1) A)(env:Env):Room k (A.deeper env):=
 ⟨r.hd,by have:=r.dp;show A.depth+1+3*k+5<_;omega,by have:=r.un;show A.units+3+16*k+200<_;omega⟩
theorem oZ:(A.under (.builtin "type.__call__" ⟨.ref C::us,kw⟩)).depth=A.depth+1:=by
 first|rfl|simp[Around.under,Code.weight,Code.isCreation,Code.isGuard,Code.isCaller,Code.frames,Code.isFrame,guardIds]
theorem oY:(A.under (.builtin "type.__call__" ⟨.ref C::us,kw⟩)).units=A.units+1:=by
 first|rfl|simp[Around.under,Code.cUnits,Code.frames,Code.isFrame]
theorem Room.make{k:Nat}(r:Room (k+1) A)(C:Addr)(us:List Value)(kw:List (Str×Value)):Room k (A.under (.builtin "type.__call__" ⟨.ref C::us,kw⟩)):=
 ⟨r.hd,by have:=r.dp;rw[oZ];omega,by have:=r.un;rw[oY];omega⟩
theorem Room.depth{k:Nat}(r:Room k A):A.depth<recursionLimit:=by have:=r.dp;omega
def v8:TA:=λ_ H Q=>Q [] H
def tz(ta:TE)(tr:TA):TA:=λσ H Q=>ta σ H λx H1=>tr σ H1 λxs H2=>Q (x::xs) H2
section
variable{X:Cx}{e:Expr}{es:List Expr}{te:TE}{t:TA}{pos:Pos}
theorem dM:PA X [] v8:=λ_ _ _ _ H Q I h=>Calls.spliced_nil ⟨[],H,I,.nil,h⟩
theorem cq(Z:PE X e te)(U:PA X es t)(hs:starEach (e::es) X.env=(false,eval e X.env)::starEach es X.env:=by rfl):PA X (e::es) (tz te t):=by intro pos pins s σ H Q I h;rw[hs];show wpAny _ _ (spliced ((false,eval e X.env)::backTo pos (starEach es X.env))) _ _ s;refine Calls.spliced_cons (bL (Z pins s σ H _ I h) λu B Y=>?_);obtain⟨x,H1,I1,J,q1⟩:=Y;exact bL (U pos pins B σ H1 _ I1 q1) λus s2 ⟨xs,H2,I2,r2,q2⟩=>⟨x::xs,H2,I2,.cons J r2,q2⟩
def CS(t:TA):TE:=λσ H Q=>t σ H λxs H1=>xs.length<=sizeLine/\∀p,H1 p=none->Q (.ref p) (upd H1 p (.tup xs))
def CZ(t:TA):TE:=λσ H Q=>t σ H λxs H1=>xs.length<=sizeLine/\∀p,H1 p=none->Q (.ref p) (upd H1 p (.lst xs))
theorem zy{x1}(h:PA X es t):PE X (.Tuple es x1 pos) (CS t):=by
 intro pins s σ H Q I J;refine wpAny_Tuple_spliced (bL (h pos pins s σ H _ I J) λus B ⟨xs,H1,I1,r,z,q⟩=>⟨by rw[<-r.length];exact z,?_⟩)
 have U:H1 B.heap.objs.size=none:=I1.hok.fresh (ac _);refine⟨.ref B.heap.objs.size,upd H1 B.heap.objs.size (.tup xs),I1.laid (t':=B.toks) (λb u e=>ah _ e) (ac _) ?_,rfl,q _ U⟩;exact⟨z,us,r,⟨_,aw _ rfl,⟨rfl,rfl⟩,_,rfl⟩⟩
theorem zG(h:PA X es t):PE X (.List es pos) (CZ t):=by
 intro pins s σ H Q I J;refine wpAny_List_spliced (bL (h pos pins s σ H _ I J) λus B ⟨xs,H1,I1,r,z,q⟩=>⟨by rw[<-r.length];exact z,?_⟩)
 have U:H1 B.heap.objs.size=none:=I1.hok.fresh (ac _);refine⟨.ref B.heap.objs.size,upd H1 B.heap.objs.size (.lst xs),I1.laid (t':=B.toks) (λb u e=>ah _ e) (ac _) ?_,rfl,q _ U⟩;exact⟨z,us,0,r,aw _ rfl⟩
end
abbrev Sp:=List V->Hp->VK->XK->Prop
abbrev vK:=List Env->Hp->Shared->XK->Value->Shared->Prop
structure Env0(P:Program)(w:World)(K:aD)(mg:Str->Option Value)(base:Heap)(A:Around)(outer:List Env)(s:Shared)(H:Hp):Prop where
 frames:A.frames=some outer
 mod:Mod K mg base
 bs:∀b o,base.get? b=some o->s.heap.get? b=some o/\H b=none
 bsz:base.objs.size<=s.heap.objs.size
 funs:s.heap.FunFrames base outer
 frf:∀b∈sK outer,H b=none
 hok:gz P w H s.heap
 bare:AllBare s.gens
def CE(outer:List Env)(P:Program)(w:World)(H:Hp)(s:Shared)(Q:VK)(u:Value)(s':Shared):Prop:=
 ∃v H',s'.os=s.os/\AllBare s'.gens/\Un (sK outer) [] H H' s.heap s'.heap/\gz P w H' s'.heap/\RelV v u/\Q v H'
def CR(CX:vK)(outer:List Env)(P:Program)(w:World)(H:Hp)(s:Shared)(Q:VK)(E:XK)(r:Result)(s':Shared):Prop:=
 match r with
 | .ok (.ret u)=>CE outer P w H s Q u s'
 | .ok _=>False
 | .error e=>CX outer H s E e s'
structure FnOk(P:Program)(w:World)(K:aD)(mg:Str->Option Value)(base:Heap)(CX:vK)(k:Nat)(f:Addr)(fd:FuncData)(ps:List Str)(sp:Sp):Prop where
 len:∀vs H Q E,sp vs H Q E->vs.length=ps.length
 run:∀(A:Around)(outer:List Env)(s:Shared)(H:Hp)(args:Args)(us:List Value) (vs:List V)(Q:VK)(E:XK),Room k A->Env0 P w K mg base A outer s H->BindsTo s fd args (ps.zip us)->bh vs us->sp vs H Q E->
  codeAny (model P w) A (.call (.ref f) args) (CR CX outer P w H s Q E) s
theorem FnOk.imp{K:aD}{CX:vK}{k:Nat}{f:Addr}{fd:FuncData}{ps:List Str}{sp B:Sp}(F:FnOk P w K mg base CX k f fd ps sp)
  (h:∀vs H Q E,B vs H Q E->sp vs H Q E):FnOk P w K mg base CX k f fd ps B:=
 ⟨λvs H Q E q=>F.len vs H Q E (h _ _ _ _ q),λA outer s H args us vs Q E J U Y I hs=>F.run A outer s H args us vs Q E J U Y I (h _ _ _ _ hs)⟩
theorem Env0.make{K:aD}{outer:List Env}{H:Hp}(e:Env0 P w K mg base A outer s H)(C:Addr)(us:List Value)(kw:List (Str×Value)):
  Env0 P w K mg base (A.under (.builtin "type.__call__" ⟨.ref C::us,kw⟩)) outer s H:=⟨by first|exact e.frames|(simpa[Around.under,Code.envs,Code.isFrame,pushEnvs] using e.frames),e.mod,e.bs,e.bsz,e.funs,e.frf,e.hok,e.bare⟩
section
variable{X:Cx}{pins:List (Addr×Obj)}{σ:St}{H:Hp}{s s':Shared}
theorem Inv.env0(I:Inv X pins σ H s):Env0 X.prog X.w X.K X.mg X.base X.A X.stack s H:=
 ⟨I.ok.frames,I.ok.mod,I.bs,aB I.ok.bsz I.sz,I.stack,I.stkFree,I.hok,I.bare⟩
theorem Inv.after{Q:VK}(I:Inv X pins σ H s)(h:CE X.stack X.prog X.w H s Q u s'):EP X pins σ Q u s':=by
 obtain⟨v,H',os,bare,un,J,r,q⟩:=h;obtain⟨U,g,d,t,B⟩:=s';obtain rfl:B=s.os:=os;exact⟨v,H',I.call (h':=U) (g':=g) (d':=d) (t':=t) (ch:=[]) un J bare (λb z=>absurd z (by simp)),r,q⟩
end
def Bc(sp:Sp)(dvs:List V)(E:XK)(t:TA):TE:=λσ H Q=>t σ H λvs H1=>sp (vs++dvs) H1 Q E
def A9(C:Addr)(sp:Sp)(dvs:List V)(E:XK)(t:TA):TE:=λσ H Q=>t σ H λvs H1=>∀x dx,H1 x=none->H1 dx=none->dx≠x->
 sp (.ref x::(vs++dvs)) (upd (upd H1 dx (.own x)) x (.ins C dx [])) (λv H2=>v=.non/\Q (.ref x) H2) E
def Binds(K:aD)(fd:FuncData)(ps:List Str)(ds:List Value):Prop:=
 ∀(s:Shared)(us:List Value),K.In s.heap->(us++ds).length=ps.length->BindsTo s fd ⟨us,[]⟩ (ps.zip (us++ds))
theorem Binds.all{K:aD}{fd:FuncData}{ps:List Str}(h:∀us:List Value,us.length=ps.length->bindArgs fd ⟨us,[]⟩=pure (ps.zip us)):Binds K fd ps []:=λs us _ B=>by rw[List.append_nil] at B ⊢;exact .of_eq (h us B)
def ku(CX:vK)(X:Cx)(E:XK):Prop:=∀(pins:List (Addr×Obj))(σ:St)(H:Hp)(s:Shared)(e:Value)(s':Shared),Inv X pins σ H s->CX X.stack H s E e s'->X.xe e s'
section
variable{X:Cx}{CX:vK}{k:Nat}{f C:Addr}{fd:FuncData}{ps:List Str}{sp:Sp}{dvs:List V}{ds:List Value}{E:XK}{x:Str}{p pos:Pos}{e:Expr}{es:List Expr}{t:TA}
theorem y_{σ:St}{H:Hp}{Q:VK}{vs:List V}(F:FnOk X.prog X.w X.K X.mg X.base CX k f fd ps sp)(Y:Room k X.A)(hb:Binds X.K fd ps ds)(hd:bh dvs ds)(U:ku CX X E)
  (I:Inv X pins σ H s)(r:bh vs us)(h:sp (vs++dvs) H Q E):wpAny (model X.prog X.w) X.A (call (.ref f) us) (EP X pins σ Q) X.xe s:=by
 have J:bh (vs++dvs) (us++ds):=r.append hd;have Z:(us++ds).length=ps.length:=by rw[<-J.length];exact F.len _ _ _ _ h
 refine wpAny_call (codeAny_mono (F.run X.A X.stack s H ⟨us,[]⟩ (us++ds) (vs++dvs) Q E Y I.env0 (hb s us I.kIn Z) J h) λr s' B=>?_);cases r with
 |error e=>exact U pins σ H s e s' I B
 |ok fl=>
  cases fl with
  |ret u=>exact I.after B
  |next=>exact False.elim B
  |brk=>exact False.elim B
  |cont=>exact False.elim B
theorem wU(F:FnOk X.prog X.w X.K X.mg X.base CX k f fd ps sp)(U:Room k X.A)(hg:Gl X x)(Y:X.mg x=some (.ref f))(Z:PySem.W.keepIn X.K (.ref f)=true)(hb:Binds X.K fd ps ds)(hd:bh dvs ds)(J:ku CX X E)
  (ha:PA X (e::es) t)(B:(x==("__debug__":Str))=false:=by decide) (he:starEach (e::es) X.env=(false,eval e X.env)::starEach es X.env:=by rfl)(hpl:(backTo pos (starEach es X.env)).any (·.1)=false:=by rfl):
  PE X (.Call (.Name x p) (e::es) [] pos) (Bc sp dvs E t):=by
 intro pins s σ H Q I h;refine wpAny_Call_Name_kw (mh I hg Y ?_ B);refine PySem.W.callWith_K (h₀:=X.base) I.ok.mod.kin Z (bL (ha pos pins s σ H _ I h) λus s1 ⟨vs,H1,I1,r,q⟩=>⟨I1.kIn,?_⟩) he hpl;exact y_ F U hb hd J I1 r q
structure Mk(K:aD)(C f:Addr):Prop where
 makes:PySem.W.makesIn K C=true
 init:PySem.W.findIn K (.ref C) "__init__"=some (some (.ref f))
 fn:PySem.W.isFn K (.ref f)=true
 kp:PySem.W.keepIn K (.ref C)=true
theorem t3{σ:St}{H:Hp}{Q:VK}{vs:List V}(M:Mk X.K C f)(F:FnOk X.prog X.w X.K X.mg X.base CX k f fd ps sp)(hr:Room (k+1) X.A)(hb:Binds X.K fd ps ds)(hd:bh dvs ds)
  (hx:ku CX X E)(I:Inv X pins σ H s)(r:bh vs us)
  (h:∀x dx,H x=none->H dx=none->dx≠x->sp (.ref x::(vs++dvs)) (upd (upd H dx (.own x)) x (.ins C dx [])) (λv H2=>v=.non/\Q (.ref x) H2) E):
  wpAny (model X.prog X.w) X.A (call (.ref C) us) (EP X pins σ Q) X.xe s:=by
 have Y:=h (s.heap.objs.size+1) s.heap.objs.size (I.hok.fresh (Nat.le_succ _)) (I.hok.fresh (ac _)) (aC (aO _));have J:=Inv.made (C:=C) I;have U:bh (V.ref (s.heap.objs.size+1)::(vs++dvs)) (Value.ref (s.heap.objs.size+1)::(us++ds)):= .cons rfl (r.append hd)
 have hl:(Value.ref (s.heap.objs.size+1)::us++ds).length=ps.length:=by have e:=U.length;rw[F.len _ _ _ _ Y] at e;exact e.symm
 refine wpAny_call (uE (f:=f) I.kIn M.makes M.init (beq_iff_eq.mp M.fn) (codeAny_mono (F.run _ X.stack _ _ ⟨Value.ref (s.heap.objs.size+1)::us,[]⟩ (Value.ref (s.heap.objs.size+1)::(us++ds)) _ _ E (hr.make C us [])
  (J.env0.make C us []) (hb _ (Value.ref (s.heap.objs.size+1)::us) J.kIn hl) U Y) λr s' B=>?_))
 cases r with
 |error e=>exact hx pins σ _ _ e s' J B
 |ok fl=>
  cases fl with
  |ret u=>obtain⟨v,H',I3,rv,ev,Z⟩:=J.after B;subst ev;exact⟨rv,⟨V.ref (s.heap.objs.size+1),H',I3,rfl,Z⟩⟩
  |next=>exact False.elim B
  |brk=>exact False.elim B
  |cont=>exact False.elim B
theorem wQ(M:Mk X.K C f)(F:FnOk X.prog X.w X.K X.mg X.base CX k f fd ps sp)(U:Room (k+1) X.A)(Z:Gl X x)(Y:X.mg x=some (.ref C))(hb:Binds X.K fd ps ds)(hd:bh dvs ds)(J:ku CX X E)
  (ha:PA X (e::es) t)(B:(x==("__debug__":Str))=false:=by decide) (he:starEach (e::es) X.env=(false,eval e X.env)::starEach es X.env:=by rfl)(hpl:(backTo pos (starEach es X.env)).any (·.1)=false:=by rfl):
  PE X (.Call (.Name x p) (e::es) [] pos) (A9 C sp dvs E t):=by
 intro pins s σ H Q I h;refine wpAny_Call_Name_kw (mh I Z Y ?_ B);refine PySem.W.callWith_K (h₀:=X.base) I.ok.mod.kin M.kp (bL (ha pos pins s σ H _ I h) λus s1 ⟨vs,H1,I1,r,q⟩=>⟨I1.kIn,?_⟩) he hpl;exact t3 M F U hb hd J I1 r q
end
section
end
structure FnScope(N P:List Str)(sc:Scope):Prop where
 kind:sc.kind=.function
 co:sc.isCoroutine=false
 gen:sc.isGenerator=false
 nd:N.Nodup
 pre:N.take P.length=P
 par:∀x∈P,sc.names.lookup x=some .local∨sc.names.lookup x=some .cell
 nofree:∀y∈sc.names,y.2≠ .free
theorem lx{kindOf:Str->Option NameKind}{x:Str}:∀{binds:List (Str×Value)}{m:Str->Option Value},(∀v,(x,v)∉binds)->bindL kindOf binds m x=m x
 |[],_,_=>rfl
 |(n,v)::r,m,h=>by
  unfold bindL;rw[lx λw B=>h w (List.mem_cons_of_mem _ B)];split
  ·have:x≠n:=by rintro rfl;exact h v List.mem_cons_self
   simp[this]
  ·rfl
theorem lA{kindOf:Str->Option NameKind}{x:Str}:∀{binds:List (Str×Value)}{m:Str->Option Value},(∀v,(x,v)∉binds)->bindC kindOf binds m x=m x
 |[],_,_=>rfl
 |(n,v)::r,m,h=>by
  unfold bindC;rw[lA λw B=>h w (List.mem_cons_of_mem _ B)];split
  ·rfl
  ·have:x≠n:=by rintro rfl;exact h v List.mem_cons_self
   simp[this]
theorem ly{kindOf:Str->Option NameKind}{x:Str}{v:Value}:∀{P:List Str}{vs:List Value}{i:Nat}{m:Str->Option Value},P.Nodup->P[i]? =some x->vs[i]? =some v->kindOf x=some .local->
  bindL kindOf (P.zip vs) m x=some v
 |[],_,_,_,_,h,_,_=>by simp at h
 |_::_,[],_,_,_,_,h,_=>by simp at h
 |p::P,w::vs,0,m,nd,h1,h2,hk=>by simp at h1 h2;subst h1;subst h2;show bindL kindOf ((p,w)::P.zip vs) m p=_;unfold bindL;rw[lx λv B=>(List.nodup_cons.mp nd).1 (List.of_mem_zip B).1,if_pos hk];simp
 |p::P,w::vs,i+1,m,nd,h1,h2,hk=>by
  show bindL kindOf ((p,w)::P.zip vs) m x=_;unfold bindL;exact ly (i:=i) (List.nodup_cons.mp nd).2 (by simpa using h1) (by simpa using h2) hk
theorem lB{kindOf:Str->Option NameKind}{x:Str}{v:Value}:∀{P:List Str}{vs:List Value}{i:Nat}{m:Str->Option Value},P.Nodup->P[i]? =some x->vs[i]? =some v->kindOf x≠some .local->
  bindC kindOf (P.zip vs) m x=some v
 |[],_,_,_,_,h,_,_=>by simp at h
 |_::_,[],_,_,_,_,h,_=>by simp at h
 |p::P,w::vs,0,m,nd,h1,h2,hk=>by simp at h1 h2;subst h1;subst h2;show bindC kindOf ((p,w)::P.zip vs) m p=_;unfold bindC;rw[lA λv B=>(List.nodup_cons.mp nd).1 (List.of_mem_zip B).1,if_neg hk];simp
 |p::P,w::vs,i+1,m,nd,h1,h2,hk=>by
  show bindC kindOf ((p,w)::P.zip vs) m x=_;unfold bindC;exact lB (i:=i) (List.nodup_cons.mp nd).2 (by simpa using h1) (by simpa using h2) hk
noncomputable def start(N:List Str)(vs:List V):St:=vs.map some++List.replicate (N.length - vs.length) none
def pw(CX:vK)(P:Program)(w:World)(K:aD)(mg:Str->Option Value)(base:Heap)(N:List Str)(qual:Str)(scope:Scope)(f:Addr)(cd:Value)(A:Around)(outer:List Env)(s:Shared)(H:Hp)(E:XK):Cx where
 prog:=P
 w:=w
 K:=K
 mg:=mg
 base:=base
 A:=A.deeper (envOfC qual scope s.heap.objs.size f cd)
 N:=N
 s₀:=s
 H₀:=H
 env:=envOfC qual scope s.heap.objs.size f cd
 outer:=outer
 stack:=envOfC qual scope s.heap.objs.size f cd::outer
 ex:=[]
 calm:=true
 fn:=λ_=>true
 pn:=[]
 xe:=λe s'=>wpAny (model P w) (A.deeper (envOfC qual scope s.heap.objs.size f cd)) (leaving (envOfC qual scope s.heap.objs.size f cd) e) (λ_ s''=>CX outer H s E e s'') (λe' s''=>CX outer H s E e' s'') s'
theorem n6{sc:Scope}(h:sc.names.lookup x=some .cell):∃c,(cellsFrom n sc.names []).lookup x=some c:=by have q:=PySem.W.cellsFrom_some sc.names n [] (.inl h);exact Option.isSome_iff_exists.mp q
theorem iq{CX:vK}{K:aD}{N ps:List Str}{scope:Scope}{f:Addr}{cd:Value}{outer:List Env}{s1:Shared}{H:Hp}{E:XK}{vs:List V}
  (S:FnScope N ps scope)(hd:A.handled=none)(I:Env0 P w K mg base A outer s H)(hl:vs.length=ps.length)(r:bh vs us)
  (x:InCallC s s.heap.objs.size (bindL (envOfC qual scope s.heap.objs.size f cd).kindOf (ps.zip us) λ_=>none) (cellsFrom (s.heap.objs.size+1) scope.names []) (bindC (envOfC qual scope s.heap.objs.size f cd).kindOf (ps.zip us) λ_=>none) s1):
  Inv (pw CX P w K mg base N qual scope f cd A outer s H E) [] (start N vs) H s1:=by
 have hpl:ps.length<=N.length:=by have:=congrArg List.length S.pre;rw[List.length_take] at this;omega
 obtain⟨h1,tk,rfl,hk⟩:=x.done;have J:∀b:Addr,b∉(pw CX P w K mg base N qual scope f cd A outer s H E).ex:=λb z=>absurd (show b∈([]:List Addr) from z) (by simp)
 refine⟨⟨I.mod,S.kind,rfl,rfl,ac _,λy z c h1 B=>?_,λy U=>?_,λy c _ h=>?_,λ_=>hd,Around.frames_deeper I.frames,.inr ⟨rfl,rfl⟩,λb z=>absurd z (J b),I.bs,I.bsz,λb _ _=>J b,λb z=>absurd z (J b),I.funs,I.frf⟩,
  rfl,I.bare,Un.kept hk,⟨_,x.toInCall.ns,λi y v h1 B h3=>?_⟩,λy c h=>⟨_,x.cell y c h⟩,I.hok.fresh (ac _),λy c h=>?_,λp Z=>absurd (show p∈([]:List (Addr×Obj)) from Z) (by simp),I.hok.kept hk,?_⟩
 ·exact name_of_addr x.apart (aQ h1) (aQ B)
 ·have U:scope.names.lookup y=some .cell∨scope.names.lookup y=some .free:=U;rcases U with U|U
  ·exact n6 U
  ·exact absurd rfl (S.nofree _ (aQ U))
 ·exact Nat.le_of_lt (x.above y c (aQ h))
 ·have hi:i<vs.length:=by
   unfold start at B;by_cases hi:i<vs.length
   ·exact hi
   ·rw[aE (by simpa using hi)] at B
    rw[List.getElem?_replicate] at B;split at B<;>cases B
  have ha:vs[i]? =some v:=by
   unfold start at B;rw[ao (by simpa using hi),aq] at B
   cases e:vs[i]? with
   |none=>rw[e] at B;cases B
   |some a=>rw[e] at B;cases B;rfl
  obtain⟨u,hu,rv⟩:=r.get ha
  have Z:ps[i]? =some y:=by
   rw[<-S.pre,List.getElem?_take_of_lt (by omega)];exact h1
  have Y:ps.Nodup:=by rw[<-S.pre];exact S.nd.sublist (List.take_sublist _ _)
  refine⟨u,rv,?_⟩;rcases S.par y (aj Z) with k|k
  ·exact .inl ⟨k,ly Y Z hu k⟩
  ·obtain⟨c,e⟩:=n6 (n:=s.heap.objs.size+1) k;refine .inr ⟨.inl k,c,e,?_⟩;have q:=x.cell y c e;rw[lB Y Z hu (by show scope.names.lookup y≠_;rw[k];decide)] at q
   exact q
 ·exact I.hok.fresh (Nat.le_of_lt (x.above y c (aQ h)))
 ·unfold start;show _=N.length;rw[ai,List.length_map,List.length_replicate];omega
theorem B2{CX:vK}{K:aD}{k:Nat}{f:Addr}{name:Str}{params:Arguments}{body:List Stmt}{scope:Scope}{dV kV doc pm B ct oc:Value}{an od:Option Addr}
  {osl:Array (Option Value)}{N ps:List Str}{sp:Sp}(lk:K.lookup f=some ⟨oc,od,.func (PySem.W.fnOf name qual params body scope dV kV doc pm an B ct),osl⟩)(hcd:PySem.W.codeIn K B qual=true)(S:FnScope N ps scope)
  (len:∀vs H Q E,sp vs H Q E->vs.length=ps.length)
  (Y:∀(A:Around)(outer:List Env)(s:Shared)(H:Hp)(vs:List V)(Q:VK)(E:XK),Room k (A.deeper (envOfC qual scope s.heap.objs.size f B))->sp vs H Q E->
   ∃t,PSs (pw CX P w K mg base N qual scope f B A outer s H E) body t/\t {nx:=λ_ H'=>Q .non H',rt:=Q} (start N vs) H):
  FnOk P w K mg base CX (k+1) f (PySem.W.fnOf name qual params body scope dV kV doc pm an B ct) ps sp:=by
 refine⟨len,λA outer s H args us vs Q E hr e0 hb r Z=>?_⟩;have hl:=len _ _ _ _ Z;have KX:K.In s.heap:=e0.mod.kin.keeps λb o e=>(e0.bs b o e).1;have lim:s.heap.NoLimit:=e0.mod.nolimit.keeps λb o e=>(e0.bs b o e).1
 have U:∀y∈ps.zip us,scope.names.lookup y.1=some .local∨(scope.names.lookup y.1=some .cell/\((cellsFrom (s.heap.objs.size+1) scope.names []).lookup y.1).isSome=true):=λ⟨n,v⟩ hy=>by
  rcases S.par n (List.of_mem_zip hy).1 with q|q
  ·exact .inl q
  ·exact .inr ⟨q,PySem.W.cellsFrom_some _ _ _ (.inl q)⟩
 refine codeAny_call_function hr.depth (KX _ _ lk) rfl S.co S.gen rfl (PySem.W.codeRec_of KX hcd) (hb _ _ _ _ ?_);refine wpAny_newFunctionEnv_cells S.kind U λenv he s1 x=>?_;subst he;refine⟨lim.keeps x.toInCall.keep,codeAny_func ?_⟩;obtain⟨t,ht,hq⟩:=Y A outer s H vs Q E (hr.deeper _) Z;have I:Inv (pw CX P w K mg base N qual scope f B A outer s H E) [] (start N vs) H s1:=iq S hr.hd e0 hl r x;refine aY (ht [] s1 (start N vs) H _ I hq) (λfl s' hs=>?_) λe s' hs=>hs
 have fin:∀{σ':St}{H':Hp}{v:V}{u:Value},Inv (pw CX P w K mg base N qual scope f B A outer s H E) [] σ' H' s'->RelV v u->Q v H'->CE outer P w H s Q u s':=
  λ{σ' H' v u} J rv q=>⟨v,H',J.os,J.bare,J.base,J.hok,rv,q⟩
 cases fl with
 |ret u=>obtain⟨v,σ',H',J,rv,q⟩:=hs;exact fin J rv q
 |next=>obtain⟨σ',H',J,q⟩:=hs;exact fin (v:=V.non) (u:=Value.none) J rfl q
 |brk=>obtain⟨_,_,_,q⟩:=hs;exact False.elim q
 |cont=>obtain⟨_,_,_,q⟩:=hs;exact False.elim q
section
variable{X:Cx}{x:Str}{p pos:Pos}{e:Expr}{es:List Expr}{t:TA}{id T:String}{r:List V->Hp->VK->Prop}
def C6(r:List V->Hp->VK->Prop)(t:TA):TE:=λσ H Q=>t σ H λvs H1=>r vs H1 Q
theorem jE(hc:fP X (.builtin id) r)(Z:Gl X x)(Y:X.mg x=none)(J:bootBuiltins x=some (.builtin id))(ha:PA X (e::es) t)(U:x≠ "__name__":=by decide)(hdb:(x==("__debug__":Str))=false:=by decide)
  (he:starEach (e::es) X.env=(false,eval e X.env)::starEach es X.env:=by rfl)(hpl:(backTo pos (starEach es X.env)).any (·.1)=false:=by rfl):PE X (.Call (.Name x p) (e::es) [] pos) (C6 r t):=by
 intro pins s σ H Q I h;refine wpAny_Call_Name_kw (ez I Z Y J ?_ U hdb);exact PyProof.Rows.callWith_builtin1 (bL (ha pos pins s σ H _ I h) λus B ⟨vs,H1,I1,r1,q1⟩=>hc pins B σ H1 vs us Q I1 r1 q1) he hpl
theorem rR(hc:fP X (.type T) r)(Z:Gl X x)(Y:X.mg x=none)(J:bootBuiltins x=some (.type T))(ha:PA X (e::es) t)(U:x≠ "__name__":=by decide)(hdb:(x==("__debug__":Str))=false:=by decide)
  (he:starEach (e::es) X.env=(false,eval e X.env)::starEach es X.env:=by rfl)(hpl:(backTo pos (starEach es X.env)).any (·.1)=false:=by rfl):PE X (.Call (.Name x p) (e::es) [] pos) (C6 r t):=by
 intro pins s σ H Q I h;refine wpAny_Call_Name_kw (ez I Z Y J ?_ U hdb);exact a_ (bL (ha pos pins s σ H _ I h) λus B ⟨vs,H1,I1,r1,q1⟩=>hc pins B σ H1 vs us Q I1 r1 q1) he hpl
end
end L2
namespace HT
open PySem PyProof.Rows
variable{hi lo:Option Int}{vl vu:Value}
section
open PySem.SeqAt
open PySem.AutoSeq1 (wpAny_loadPart')
open PySem.MeetsSeq PySem.MeetsSeq2 PySem.MeetsSeq3
end
section
variable{prog:Program}{w:World}{A:Around}{E:Value->Shared->Prop}{s:Shared}
noncomputable def cC(n d:Nat):Option Int->Nat
 |none=>d
 |some v=>if v<0 then(v+(n:Int)).toNat else min v.toNat n
theorem y8(n d:Nat)(hd:d<=n)(o:Option Int):cC n d o<=n:=by
 cases o with
 |none=>exact hd
 |some v=>
  show(if v<0 then(v+(n:Int)).toNat else min v.toNat n)<=n
  by_cases hv:v<0
  ·rw[if_pos hv];omega
  ·rw[if_neg hv];exact Nat.min_le_right _ _
theorem qV(v:Int)(n d:Nat):(if v<0 then max (v+(n:Int)) 0 else min v (n:Int))=((cC n d (some v):Nat):Int):=by
 show(if v<0 then max (v+(n:Int)) 0 else min v (n:Int))=(((if v<0 then(v+(n:Int)).toNat else min v.toNat n):Nat):Int)
 by_cases hv:v<0
 ·simp only[if_pos hv];omega
 ·simp only[if_neg hv];omega
theorem pI(lo hi:Option Int)(n:Nat):Builtin.Slice.sliceAdjust lo hi 1 (n:Int)=(((cC n 0 lo:Nat):Int),((cC n n hi:Nat):Int)):=by
 have h1:¬((1:Int)<0):=by omega
 unfold Builtin.Slice.sliceAdjust;simp only[h1,if_false];refine Prod.ext ?_ ?_
 ·cases lo with
  |none=>rfl
  |some v=>exact qV v n 0
 ·cases hi with
  |none=>rfl
  |some v=>exact qV v n n
theorem oU(i j:Nat):Builtin.Slice.slicePlaces (i:Int) (j:Int) 1=j - i:=by
 unfold Builtin.Slice.slicePlaces;have h1:(1:Int)>0:=by omega
 simp only[h1,if_true,Int.ediv_one];split<;>omega
theorem jt{v:Value}{o:Option Int}{Q:Option Int->Shared->Prop}(p:IsPart v o)(h:Q o s):wpAny (model prog w) A (Builtin.Slice.slicePartIndex v) Q E s:=by
 cases p with
 |none=>exact slicePart_none h
 |int i t=>exact slicePart_int h
theorem ia{sl:Addr}{n:Nat}{Q:Int×Int×Nat->Shared->Prop}(hs:s.heap.IsSliceOf sl vl vu .none)(U:IsPart vl lo)(J:IsPart vu hi)
  (h:Q (((cC n 0 lo:Nat):Int),1,cC n n hi - cC n 0 lo) s):wpAny (model prog w) A (Builtin.Slice.sliceApplied (.ref sl) (pure (n:Int))) Q E s:=by
 obtain⟨os,B,Y,I⟩:=id hs;unfold Builtin.Slice.sliceApplied Builtin.Slice.sliceFields;refine aa (aa (wpAny_field B I (x:=vl) rfl (aa (wpAny_field B I (x:=vu) rfl (aa (wpAny_field B I (x:= .none) rfl (af ?_)))))));refine aa (slicePart_none ?_);show wpAny _ _ (if((1:Int)==0)=true then _ else _) _ _ s
 rw[if_neg (by decide)]
 refine aa (jt U (aa (jt J (aa (af ?_)))));show wpAny _ _ (match Builtin.Slice.sliceAdjust lo hi 1 (n:Int) with|(lo,hi)=>pure (lo,(1:Int),Builtin.Slice.slicePlaces lo hi 1)) _ _ s
 rw[pI lo hi n];show wpAny _ _ (pure (((cC n 0 lo:Nat):Int),(1:Int),Builtin.Slice.slicePlaces ((cC n 0 lo:Nat):Int) ((cC n n hi:Nat):Int) 1)) _ _ s;rw[oU];exact af h
theorem ui(xs:Array Value)(i k:Nat):((List.range k).filterMap λ(m:Nat)=>xs[((i:Int)+(m:Int)*1).toNat]?).toArray=((xs.toList.drop i).take k).toArray:=by
 have e:(λ(m:Nat)=>xs[((i:Int)+(m:Int)*1).toNat]?)=λm=>xs[i+m]?:=by
  funext m;have:((i:Int)+(m:Int)*1).toNat=i+m:=by omega
  rw[this]
 rw[e];have:=pick_run xs i k;rw[List.filterMap_map] at this;have B:((λx=>xs[x]?) ∘ λx=>i+x)=λm=>xs[i+m]?:=rfl;rw[B] at this;rw[this]
theorem gT{t sl:Addr}{items:Array Value}{Q:Value->Shared->Prop}(ht:IsTup s.heap t items)(hs:s.heap.IsSliceOf sl vl vu .none)(pl:IsPart vl lo)(Z:IsPart vu hi)
  (hw:¬(cC items.size 0 lo=0/\cC items.size items.size hi=items.size))
  (h:Q (.ref s.heap.objs.size) {s with heap:=s.heap.push {cls:= .type "tuple",data:= .seq ((items.toList.drop (cC items.size 0 lo)).take (cC items.size items.size hi - cC items.size 0 lo)).toArray}})
  (hsz:items.size<=sizeLine):wpAny (model prog w) A (getItem (.ref t) (.ref sl)) Q E s:=by
 have B:sizeOk (.seq ((items.toList.drop (cC items.size 0 lo)).take (cC items.size items.size hi - cC items.size 0 lo)).toArray):=by show((items.toList.drop (cC items.size 0 lo)).take (cC items.size items.size hi - cC items.size 0 lo)).toArray.size<=sizeLine;rw[List.size_toArray,List.length_take,List.length_drop,Array.length_toList];omega
 have hj:cC items.size items.size hi<=items.size:=y8 _ _ (ac _) hi;obtain⟨os,I,U,hds⟩:=id hs;have Y:s.TypeIs (.ref sl) "slice":=⟨os,I,U⟩;unfold getItem
 try with_reducible refine wpAny_holding ?_
 first|refine aa (af ?_)|skip
 refine aa (wpAny_sequenceKey ht.typeIs (by decide) ?_)
 refine aa (wpAny_callSpecial?_slot (name:=Str.ofString "__getitem__") ht.typeIs PyProof.Rows.slot_tuple_getitem
  (wpAny_call_entry PyProof.Rows.slot_tuple_getitem ht.typeIs entry_tuple_getitem ?_ (args_tuple_getitem _ _)))
 show wpAny _ _ (Builtin.Tuple.tupleItemsOf (.ref t)>>=_) _ _ s;refine aa (tupleItemsOf_ ht ?_);refine aa (wpAny_typeOf Y ?_);rw[if_pos (by decide)]
 refine aa (ia hs pl Z ?_)
 have J:¬((((cC items.size 0 lo:Nat):Int)==0&&(1:Int)==1&&(cC items.size items.size hi - cC items.size 0 lo)==items.size)=true):=by
  intro q;rw[Bool.and_eq_true,Bool.and_eq_true] at q;have q1:((cC items.size 0 lo:Nat):Int)=0:=eq_of_beq q.1.1;have q2:cC items.size items.size hi - cC items.size 0 lo=items.size:=eq_of_beq q.2;exact hw ⟨by omega,by omega⟩
 show wpAny _ _ (if(((cC items.size 0 lo:Nat):Int)==0&&(1:Int)==1&&(cC items.size items.size hi - cC items.size 0 lo)==items.size)=true then _ else _) _ _ s
 rw[if_neg J,ui]
 first
  |exact aa (m:=Builtin.Tuple.tupleExact _) (wpAny_newObj_type (af ⟨_,rfl,af h⟩) B)
  |exact aa (m:=Builtin.Tuple.tupleExact _) (wpAny_newObj_type (aa (af (af ⟨_,rfl,af h⟩))) B)
  |exact aa (aa (m:=Builtin.Tuple.tupleExact _) (wpAny_newObj_type (af (af ⟨_,rfl,af h⟩)) B))
  |exact aa (aa (m:=Builtin.Tuple.tupleExact _) (wpAny_newObj_type (af ⟨_,rfl,af h⟩) B))
end
end HT
namespace L2
open PySem PySem.Spec PyProof.Rows
variable{n t':Nat}{s:Shared}{pins:List (Addr×Obj)}{its its':List Value}
abbrev TO:=St->Hp->(Option Int->Hp->Prop)->Prop
def PO(X:Cx)(e:Option Expr)(t:TO):Prop:=
 ∀(pins:List (Addr×Obj))(s:Shared)(σ:St)(H:Hp)(Q:Option Int->Hp->Prop),Inv X pins σ H s->t σ H Q->
  wpAny (model X.prog X.w) X.A (evalPart e X.env) (λu s'=>∃o H',Inv X pins σ H' s'/\IsPart u o/\Q o H') X.xe s
def pY:TO:=λ_ H Q=>Q none H
def xR(t:TE):TO:=λσ H Q=>t σ H λx H1=>∃i,x=.int i/\Q (some i) H1
theorem intsAre_of{ns:List Int}:∀{us:List Value},bh (ns.map V.int) us->IntsAre us ns:=by
 induction ns with
 |nil=>intro us r;rw[List.map_nil] at r;cases r;exact .nil
 |cons n ns ih=>
  intro us r;rw[List.map_cons] at r;cases r with
  |cons r1 r2=>obtain⟨t,e⟩:=r1;subst e;exact .cons n t (ih r2)
section
variable{X:Cx}{e:Expr}{te:TE}{lo hi:Option Expr}{tl th:TO}{pos p2:Pos}
theorem qg:PO X none pY:=by intro pins s σ H Q I h;rw[evalPart_none];exact af ⟨none,H,I,.none,h⟩
theorem i9(h:PE X e te):PO X (some e) (xR te):=by intro pins s σ H Q I J;rw[evalPart_some];refine bL (h pins s σ H _ I J) λu Z U=>?_;obtain⟨x,H1,Y,B,q1⟩:=U;obtain⟨i,rfl,q⟩:=q1;obtain⟨t,rfl⟩:=B;exact⟨some i,H1,Y,.int i t,q⟩
def CC(X:Cx)(r:V->Option Int->Option Int->Hp->VK->Prop):Prop:=
 ∀(pins:List (Addr×Obj))(s:Shared)(σ:St)(H:Hp)(x:V)(v vl vu:Value)(lo hi:Option Int)(sl:Addr)(Q:VK),Inv X pins σ H s->RelV x v->s.heap.IsSliceOf sl vl vu .none->IsPart vl lo->IsPart vu hi->r x lo hi H Q->
  ∃T id,typeLookup (.type T) "__getitem__"=pure (some (.builtin id))/\s.TypeIs v T/\wpAny (model X.prog X.w) X.A (getItem v (.ref sl)) (EP X pins σ Q) X.xe s
def DX(r:V->Option Int->Option Int->Hp->VK->Prop)(te:TE)(tl th:TO):TE:=λσ H Q=>te σ H λx H1=>tl σ H1 λl H2=>th σ H2 λu H3=>r x l u H3 Q
theorem uk{r:V->Option Int->Option Int->Hp->VK->Prop}(hr:CC X r)(he:PE X e te)(hl:PO X lo tl)(hu:PO X hi th):PE X (.Subscript e (.Slice lo hi none p2) pos) (DX r te tl th):=by
 intro pins s σ H Q I h;refine Subscript_ (bL (he pins s σ H _ I h) λv Z J=>?_);obtain⟨x,H1,I1,r1,q1⟩:=J;refine wpAny_Slice (bL (hl pins Z σ H1 _ I1 q1) λvl Y ⟨l,H2,I2,pl,q2⟩=>bL (hu pins Y σ H2 _ I2 q2) λvu B J=>?_);obtain⟨u,U,I3,pu,q3⟩:=J;rw[evalPart_none];refine af ?_;have I4:Inv X pins σ U {B with heap:=B.heap.push {cls:= .type "slice",data:= .fields #[vl,vu,.none]}}:=I3.kept (t':=B.toks) λb ob q=>ah _ q;obtain⟨T,id,hT,ht,hg⟩:=hr pins {B with heap:=B.heap.push {cls:= .type "slice",data:= .fields #[vl,vu,.none]}} σ U x v vl vu l u B.heap.objs.size Q I4 r1 (Heap.IsSliceOf.new ..) pl pu q3;show wpAny (model X.prog X.w) X.A (subscriptTail e (.Slice lo hi none p2) v (.ref B.heap.objs.size)) (EP X pins σ Q) X.xe {B with heap:=B.heap.push {cls:= .type "slice",data:= .fields #[vl,vu,.none]}};exact tail_any (ops:=[.ref B.heap.objs.size,v]) ht hT hg (by with_unfolding_all rfl)
noncomputable def nX(xs:List V)(lo hi:Option Int):List V:=(xs.drop (HT.cC xs.length 0 lo)).take (HT.cC xs.length xs.length hi - HT.cC xs.length 0 lo)
theorem iP(xs:List V)(lo hi:Option Int):(nX xs lo hi).length<=xs.length:=by unfold nX;rw[List.length_take,List.length_drop];omega
def Df(K:aD):V->Option Int->Option Int->Hp->VK->Prop:=λx lo hi H Q=>∃a xs,x=.ref a/\fV K H a xs/\
 ¬(HT.cC xs.length 0 lo=0/\HT.cC xs.length xs.length hi=xs.length)/\∀p,H p=none->Q (.ref p) (upd H p (.tup (nX xs lo hi)))
theorem yO:CC X (Df X.K):=by
 intro pins s σ H x v vl vu lo hi sl Q I U hs Z Y h;obtain⟨a,xs,rfl,hx,hw,q⟩:=h;cases U;obtain⟨its,r,ht,J⟩:=I.tuple hx;have B:its.toArray.size=xs.length:=by rw[List.size_toArray];exact r.length.symm
 refine⟨"tuple",_,PyProof.Rows.slot_tuple_getitem.lookup,ht.typeIs,?_⟩;refine HT.gT ht hs Z Y (by rw[B];exact hw) ?_ (by rw[B];exact J)
 rw[B];refine⟨.ref s.heap.objs.size,_,I.laid (t':=s.toks) (o:= .tup (nX xs lo hi)) (λb ob q=>ah _ q) (ac _) ?_,rfl,q _ (I.hok.fresh (ac _))⟩;exact⟨aB (iP xs lo hi) J,_,(r.drop (HT.cC xs.length 0 lo)).take (HT.cC xs.length xs.length hi - HT.cC xs.length 0 lo),mR.new _ _⟩
end
noncomputable def uG(n:Nat)(i:Int):Option Nat:=if 0<=i then(if i<n then some i.toNat else none) else if -(n:Int)<=i then some (i+n).toNat else none
def lD{α:Type}(xs:List α)(i:Int):Option α:=(uG xs.length i).bind λj=>xs[j]?
theorem qz{i:Int}{j:Nat}(h:uG n i=some j):seqIndex? i n=some j/\j<n/\ -(n:Int)<=i/\i<n:=by
 unfold uG at h;by_cases h0:0<=i
 ·rw[if_pos h0] at h;by_cases h1:i<n
  ·rw[if_pos h1] at h;have e:i.toNat=j:=ag h;exact⟨by rw[seqIndex_of h0 h1,e],by omega,by omega,h1⟩
  ·rw[if_neg h1] at h;cases h
 ·rw[if_neg h0] at h;by_cases h1: -(n:Int)<=i
  ·rw[if_pos h1] at h;have e:(i+n).toNat=j:=ag h;exact⟨by rw[seqIndex_neg (by omega) h1,e],by omega,h1,by omega⟩
  ·rw[if_neg h1] at h;cases h
theorem mM{α:Type}{xs:List α}{i:Int}{v:α}(h:lD xs i=some v):∃j,seqIndex? i xs.length=some j/\xs[j]? =some v/\j<xs.length/\ -(xs.length:Int)<=i/\i<xs.length:=by
 unfold lD at h;cases e:uG xs.length i with
 |none=>rw[e] at h;cases h
 |some j=>rw[e] at h;obtain⟨h1,J,I,B⟩:=qz e;exact⟨j,h1,h,J,I,B⟩
noncomputable def xK(b:Expr):Prop:=∀o i,subscripted b false o i=operate [o,i] (getItem o i)
def CG(X:Cx)(r:R2):Prop:=
 ∀(value slice:Expr)(pins:List (Addr×Obj))(s:Shared)(σ:St)(H:Hp)(x y:V)(v u:Value)(Q:VK),Inv X pins σ H s->RelV x v->RelV y u->r x y H Q->
  subscripted slice false v u=operate [v,u] (getItem v u)->wpAny (model X.prog X.w) X.A (subscriptTail value slice v u) (EP X pins σ Q) X.xe s
noncomputable def DS(X:Cx)(id:String)(r:V->List V->Hp->VK->Prop):Prop:=
 ∀(pins:List (Addr×Obj))(s:Shared)(σ:St)(H:Hp)(x:V)(xs:List V) (v:Value) (us:List Value)(Q:VK),Inv X pins σ H s->RelV x v->bh xs us->r x xs H Q->
  wpAny (model X.prog X.w) X.A (call (.builtin id) (v::us)) (EP X pins σ Q) X.xe s
section
variable{X:Cx}{a b:Expr}{ta tb:TE}{pos:Pos}
theorem BG{r:R2}(Y:CG X r)(ha:PE X a ta)(Z:PE X b tb)(hs:xK b):PE X (.Subscript a b pos) (A6 r ta tb):=by intro pins s σ H Q I h;exact Subscript_ (AB ha Z I h λv u B x y H2 I2 U J q=>Y a b pins B σ H2 x y v u Q I2 U J q (hs _ _))
def Dk(K:aD):R2:=λx y H Q=>∃p xs i v,x=.ref p/\y=.int i/\c8 K H p xs/\lD xs i=some v/\Q v H
def Dj(K:aD):R2:=λx y H Q=>∃p xs i v,x=.ref p/\y=.int i/\fV K H p xs/\lD xs i=some v/\Q v H
theorem xh:CG X (Dk X.K):=by
 intro value slice pins s σ H x y v u Q I rx Z h hs;obtain⟨p,xs,i,z,rfl,rfl,hq,he,q⟩:=h;cases rx;obtain⟨t,rfl⟩:=Z;obtain⟨its,r,J,hz⟩:=I.list hq;obtain⟨j,h1,h2,h3,h4,h5⟩:=mM he;obtain⟨w,Y,B⟩:=r.get h2;have hl:=r.length;have hn:=jK;have fin:EP X pins σ Q w s:=⟨z,H,I,B,q⟩;by_cases h0:0<=i
 ·have U:i.toNat=j:=by rw[seqIndex_of h0 h5] at h1;exact ag h1
  exact item_listR J.isList h0 (by omega) (by rw[U];simpa using Y) fin hs
 ·have U:(i+(its.toArray.size:Int)).toNat=j:=by
   rw[seqIndex_neg (by omega) h4] at h1
   rw[List.size_toArray,<-hl];exact ag h1
  exact subscriptTail_builtinR (x:=w) J.isList.typeIs slot_list_getitem.lookup
   (wpAny_getItem_list_neg (Q:=λr s'=>r=w/\EP X pins σ Q r s') J.isList (by omega) (by rw[List.size_toArray]<;>omega) (by omega) (by rw[U];simpa using Y) ⟨rfl,fin⟩) hs
theorem z5:CG X (Dj X.K):=by
 intro value slice pins s σ H x y v u Q I Y U h hs;obtain⟨p,xs,i,z,rfl,rfl,Z,he,q⟩:=h;cases Y;obtain⟨t,rfl⟩:=U;obtain⟨its,r,J,hz⟩:=I.tuple Z;obtain⟨j,h1,h2,h3,h4,h5⟩:=mM he;obtain⟨w,ew,B⟩:=r.get h2;have hl:=r.length;have hn:=jK;have fin:EP X pins σ Q w s:=⟨z,H,I,B,q⟩
 exact subscriptTail_builtinR (x:=w) J.typeIs slot_tuple_getitem.lookup
  (getItem_tuple (j:=j) (Q:=λr s'=>r=w/\EP X pins σ Q r s') J (by omega) (by omega) (by rw[List.size_toArray,<-hl];exact h1) (by simpa using ew) ⟨rfl,fin⟩) hs
theorem oX(its:List Value)(n j:Nat)(u:Value):Obj.mapSeq (·.setIfInBounds j u) {cls:= .type "list",data:= .seq its.toArray n}={cls:= .type "list",data:= .seq (its.set j u).toArray n}:=by simp[Obj.mapSeq]
theorem Inv.lst{σ:St}{H:Hp}{p:Addr}{xs:List V}(I:Inv X pins σ H s)(h:H p=some (.lst xs)):
  ∃(its:List Value)(n:Nat),bh xs its/\s.heap.get? p=some {cls:= .type "list",data:= .seq its.toArray n}/\xs.length<=sizeLine:=by
 obtain⟨z,its,n,r,e⟩:=I.hok p _ h;exact⟨its,n,r,e,z⟩
theorem Inv.lstUpd{σ:St}{H:Hp}{p:Addr}{xs ys:List V}{B:Nat}{f:Obj->Obj}(I:Inv X pins σ H s)(h:H p=some (.lst xs))
  (ho:s.heap.get? p=some {cls:= .type "list",data:= .seq its.toArray n}) (J:f {cls:= .type "list",data:= .seq its.toArray n}={cls:= .type "list",data:= .seq its'.toArray B}) (r:bh ys its')(U:ys.length<=sizeLine)(t:Nat):
  Inv X pins σ (upd H p (.lst ys)) {s with heap:=s.heap.update p f,toks:=t}:=by
 have e:(s.heap.update p f).get? p=some {cls:= .type "list",data:= .seq its'.toArray B}:=by
  rw[Heap.get?_update_self f ho (by rw[J]<;>rfl),J]
 refine I.write (x:=p) (e:=p) (by rw[h];trivial) (.inl rfl) (λb u Y q=>(Heap.get?_update_other _ _ (Ne.symm Y)).trans q) ⟨_,e⟩ ?_
 exact⟨U,its',B,r,e⟩
def BA:V->V->V->Hp->(Hp->Prop)->Prop:=λo i v H Q=>∃p xs k j,o=.ref p/\i=.int k/\H p=some (.lst xs)/\uG xs.length k=some j/\Q (upd H p (.lst (xs.set j v)))
theorem set_list:AH X BA:=by
 intro pins s σ H o i v ov iv u Q I ro ri rv h;obtain⟨p,xs,k,j,rfl,rfl,U,hj,q⟩:=h;cases ro;obtain⟨t,rfl⟩:=ri;obtain⟨its,n,r,ho,hz⟩:=I.lst U;obtain⟨h1,h2,Z,Y⟩:=qz hj;have B:=r.length;have hn:=jK
 have I':Inv X pins σ (upd H p (.lst (xs.set j v))) {s with heap:=s.heap.update p (Obj.mapSeq (·.setIfInBounds j u))}:=
  I.lstUpd U ho (oX its n j u) (r.set rv j) (by rw[au];exact hz) s.toks
 by_cases h0:0<=k
 ·have J:k.toNat=j:=by rw[seqIndex_of h0 Y] at h1;exact ag h1
  exact PySem.W.ki_setAt ho h0 (by omega) (by rw[List.size_toArray,<-B];exact Y) (by rw[J];exact⟨_,I',q⟩)
 ·have J:(k+(its.toArray.size:Int)).toNat=j:=by
   rw[seqIndex_neg (by omega) Z] at h1
   rw[List.size_toArray,<-B];exact ag h1
  exact PySem.W.ki_setBack ho (by omega) (by rw[List.size_toArray,<-B];exact Z) (by omega) (by rw[J];exact⟨_,I',q⟩)
theorem lW(lo hi:Option Int)(n:Nat):(sliceBounds lo hi none n).1=((HT.cC n 0 lo:Nat):Int)/\(sliceBounds lo hi none n).2.1=((HT.cC n n hi:Nat):Int)/\(sliceBounds lo hi none n).2.2=1:=by
 refine⟨?_,?_,rfl⟩
 ·cases lo with
  |none=>simp[sliceBounds,HT.cC]
  |some i=>
   simp only[sliceBounds,HT.cC,Option.getD_none,show(1:Int)>0 by decide,if_true]
   by_cases h:i<0
   ·simp only[h,if_true]<;>omega
   ·simp only[h,if_false]<;>omega
 ·cases hi with
  |none=>simp[sliceBounds,HT.cC]
  |some i=>
   simp only[sliceBounds,HT.cC,Option.getD_none,show(1:Int)>0 by decide,if_true]
   by_cases h:i<0
   ·simp only[h,if_true]<;>omega
   ·simp only[h,if_false]<;>omega
theorem kC(its:List Value)(lo hi:Option Int):slicePick its.toArray lo hi none=((its.drop (HT.cC its.length 0 lo)).take (HT.cC its.length its.length hi - HT.cC its.length 0 lo)).toArray:=by obtain⟨h1,I,B⟩:=lW lo hi its.toArray.size;unfold slicePick;rw[h1,I,B];simp only[sliceRange_one,pick_run,List.size_toArray]<;>rfl
def Dg(K:aD):V->Option Int->Option Int->Hp->VK->Prop:=λx lo hi H Q=>∃a xs,x=.ref a/\c8 K H a xs/\∀p,H p=none->Q (.ref p) (upd H p (.lst (nX xs lo hi)))
theorem wg:CC X (Dg X.K):=by
 intro pins s σ H x v vl vu lo hi sl Q I J hs Y U h;obtain⟨a,xs,rfl,hx,q⟩:=h;cases J;obtain⟨its,r,ht,Z⟩:=I.list hx;have B:=r.length;refine⟨"list",_,slot_list_getitem.lookup,ht.isList.typeIs,?_⟩;refine wpAny_getItem_list_slice ht.isList hs Y U .none (by simp) ?_ (by rw[List.size_toArray]<;>omega)
 rw[kC,<-B];refine⟨.ref s.heap.objs.size,_,I.laid (t':=s.toks) (o:= .lst (nX xs lo hi)) (λb ob q=>ah _ q) (ac _) ?_,rfl,q _ (I.hok.fresh (ac _))⟩;exact⟨aB (iP xs lo hi) Z,_,0,(r.drop (HT.cC xs.length 0 lo)).take (HT.cC xs.length xs.length hi - HT.cC xs.length 0 lo),aw _ rfl⟩
noncomputable def cD:V->Bool
 | .non=>true
 | .bl _=>true
 | .int _=>true
 | .str _=>true
 |_=>false
noncomputable def kz:V->V->Bool
 | .non,.non=>true
 | .bl a,.bl b=>a==b
 | .bl a,.int b=>(if a then 1 else 0)==b
 | .int a,.bl b=>a==(if b then 1 else 0)
 | .int a,.int b=>a==b
 | .str a,.str b=>a==b
 |_,_=>false
theorem Am{A:Around}{y x:V}{u v:Value}(I:RelV y u)(B:RelV x v)(U:cD y=true)(J:cD x=true):SeqAt.EqAt A s u v (kz y x):=by
 cases y with
 |non=>
  cases I;cases x with
  |non=>cases B;exact SeqAt.EqAt.same _
  |bl b=>cases B;exact SeqAt.EqAt.none_bool b
  |int b=>obtain⟨t,rfl⟩:=B;exact SeqAt.EqAt.none_int b t
  |str b=>obtain⟨t,rfl⟩:=B;exact SeqAt.EqAt.none_str b t
  |_=>exact jZ J
 |bl a=>
  cases I;cases x with
  |non=>cases B;exact SeqAt.EqAt.bool_none a
  |bl b=>cases B;exact SeqAt.EqAt.bool_bool a b
  |int b=>obtain⟨t,rfl⟩:=B;exact SeqAt.EqAt.bool_int a b t
  |str b=>obtain⟨t,rfl⟩:=B;exact SeqAt.EqAt.bool_str a b t
  |_=>exact jZ J
 |int a=>
  obtain⟨t',rfl⟩:=I;cases x with
  |non=>cases B;exact SeqAt.EqAt.int_none a t'
  |bl b=>cases B;exact SeqAt.EqAt.int_bool a t' b
  |int b=>obtain⟨t,rfl⟩:=B;exact SeqAt.EqAt.int_int a t' b t
  |str b=>obtain⟨t,rfl⟩:=B;exact SeqAt.EqAt.int_str a t' b t
  |_=>exact jZ J
 |str a=>
  obtain⟨t',rfl⟩:=I;cases x with
  |non=>cases B;exact SeqAt.EqAt.str_none a t'
  |bl b=>cases B;exact SeqAt.EqAt.str_bool a t' b
  |int b=>obtain⟨t,rfl⟩:=B;exact SeqAt.EqAt.str_int a t' b t
  |str b=>obtain⟨t,rfl⟩:=B;exact SeqAt.EqAt.str_str a t' b t
  |_=>exact jZ J
 |_=>exact jZ U
theorem mK:fP X (.builtin "len") (λxs H Q=>∃p ys,xs=[.ref p]/\(c8 X.K H p ys∨fV X.K H p ys)/\Q (.int ys.length) H):=by
 intro pins s σ H xs us Q I r h;obtain⟨p,ys,rfl,J,q⟩:=h;obtain⟨u,rfl,Z⟩:=vals1 r;cases Z;have hn:=jK;rcases J with J|J
 ·obtain⟨its,U,Y,hz⟩:=I.list J;have B:=U.length;exact Calls.call_len_list Y.isList (by simp only[List.size_toArray]<;>omega) ⟨.int ys.length,H,I.tok _,⟨s.toks+1,by rw[List.size_toArray,B]⟩,q⟩
 ·obtain⟨its,U,Y,hz⟩:=I.tuple J;have B:=U.length;exact len_tuple Y (by simp only[List.size_toArray]<;>omega) ⟨.int ys.length,H,I.tok _,⟨s.toks+1,by rw[List.size_toArray,B]⟩,q⟩
theorem mJ:fP X (.type "list") (λxs H Q=>∃p ys,xs=[.ref p]/\(c8 X.K H p ys∨fV X.K H p ys)/\∀l,H l=none->Q (.ref l) (upd H l (.lst ys))):=by
 intro pins s σ H xs us Q I r h;obtain⟨p,ys,rfl,U,q⟩:=h;obtain⟨u,rfl,rx⟩:=vals1 r;cases rx
 have fin:∀(its:List Value),bh ys its->ys.length<=sizeLine->∀(h':Heap)(c':Nat),(∀b o',s.heap.get? b=some o'->h'.get? b=some o')->
   h'.get? s.heap.objs.size=some {cls:= .type "list",dict:=none,data:= .seq its.toArray c',slots:= #[]}->EP X pins σ Q (.ref s.heap.objs.size) {s with heap:=h'}:=λits B J h' c' kp e=>
  ⟨.ref s.heap.objs.size,_,I.laid (t':=s.toks) kp (ac _) (show bT X.prog X.w _ h' _ (.lst ys) from⟨J,its,c',B,e⟩),rfl,q _ (I.hok.fresh (ac _))⟩
 rcases U with U|U
 ·obtain⟨its,B,Z,J⟩:=I.list U;have Y:=B.length;obtain⟨o,ho,hc,n,hd⟩:=Z.isList;exact call_list_seq p (.inl rfl) ho hc hd (λh' c' kp e=>fin its B J h' c' kp e) (by simp only[List.size_toArray]<;>omega)
 ·obtain⟨its,B,Z,J⟩:=I.tuple U;have Y:=B.length;obtain⟨o,ho,hc,n,hd⟩:=Z;exact call_list_seq p (.inr rfl) ho hc hd (λh' c' kp e=>fin its B J h' c' kp e) (by simp only[List.size_toArray]<;>omega)
theorem f_:fP X (.type "tuple") (λxs H Q=>∃p ys,xs=[.ref p]/\((c8 X.K H p ys/\∀l,H l=none->Q (.ref l) (upd H l (.tup ys)))∨(fV X.K H p ys/\Q (.ref p) H))):=by
 intro pins s σ H xs us Q I r h;obtain⟨p,ys,rfl,h⟩:=h;obtain⟨u,rfl,rx⟩:=vals1 r;cases rx;rcases h with⟨hq,q⟩|⟨hq,q⟩
 ·obtain⟨its,B,J,U⟩:=I.list hq;have Y:=B.length;refine call_tuple_list J.isList (λh' kp=>?_) (by simp only[List.size_toArray]<;>omega)
  have Z:Inv X pins σ H {s with heap:=h'}:=I.kept (t':=s.toks) kp
  have I2:Inv X pins σ (upd H h'.objs.size (.tup ys)) {s with heap:=h'.push {cls:= .type "tuple",data:= .seq its.toArray}}:=
   Z.laid (t':=s.toks) (λb o e=>ah _ e) (ac _) (show bT X.prog X.w _ _ _ (.tup ys) from⟨U,its,B,mR.new _ _⟩)
  exact⟨.ref h'.objs.size,_,I2,rfl,q _ (Z.hok.fresh (ac _))⟩
 ·obtain⟨its,B,J,U⟩:=I.tuple hq;exact call_tuple_same J ⟨.ref p,H,I,rfl,q⟩
def CL(K:aD)(T:String)(x:V)(H:Hp):Prop:=match x with
 | .str _=>T= "str"
 | .int _=>T= "int"
 | .ref p=>(T= "list" /\∃xs,c8 K H p xs)∨(T= "tuple" /\∃o,K.lookup p=some o/\o.cls=.type "tuple" /\o.dict=none)∨
   (T= "dict" /\((∃kvs,H p=some (.dK kvs))∨∃kvs,H p=some (.dT kvs)))∨(T= "set" /\∃S n,H p=some (.set S n))
 |_=>False
theorem tj{σ:St}{H:Hp}{T:String}{x:V}{v:Value}(I:Inv X pins σ H s)(r:RelV x v)(ty:CL X.K T x H):
  s.TypeIs v T/\∀a,v=.ref a->∃U,s.heap.get? a=some U/\U.dict=none:=by
 cases x with
 |str z=>obtain⟨t,rfl⟩:=r;cases(show T= "str" from ty);exact⟨typeIs_str s z t,λ_ e=>nomatch e⟩
 |int i=>obtain⟨t,rfl⟩:=r;cases(show T= "int" from ty);exact⟨typeIs_int s i t,λ_ e=>nomatch e⟩
 |ref p=>
  cases r;rcases ty with⟨rfl,xs,hq⟩|⟨rfl,o,hk,hc,hd⟩|⟨rfl,hk⟩|⟨rfl,S,n,hk⟩
  ·obtain⟨its,_,J,_⟩:=I.list hq;refine⟨J.isList.typeIs,λa e=>?_⟩;cases e;obtain⟨o,n,e,c,hd,_⟩:=J;exact⟨o,e,hd⟩
  ·refine⟨⟨o,I.kIn p o hk,hc⟩,λa e=>?_⟩;cases e;exact⟨o,I.kIn _ o hk,hd⟩
  ·have z:∃o,s.heap.get? p=some o/\o.ExactDict:=by
    rcases hk with⟨kvs,hk⟩|⟨kvs,hk⟩
    ·obtain⟨_,_,_,_,o,_,_,e,ex,_⟩:=I.hok p _ hk;exact⟨o,e,ex⟩
    ·obtain⟨_,_,_,_,o,_,_,e,ex,_⟩:=I.hok p _ hk;exact⟨o,e,ex⟩
   obtain⟨o,e,ex⟩:=z;refine⟨⟨o,e,ex.1⟩,λa B=>?_⟩;cases B;exact⟨o,e,ex.2.1⟩
  ·obtain⟨o,_,_,_,e,ex,_⟩:=I.hok p _ hk;refine⟨⟨o,e,ex.1⟩,λa B=>?_⟩;cases B;exact⟨o,e,ex.2.1⟩
 |_=>exact False.elim ty
def C7(K:aD)(T:String)(r:V->List V->Hp->VK->Prop)(to:TE):TE:=λσ H Q=>to σ H λx H1=>CL K T x H1/\r x [] H1 Q
def DZ(K:aD)(T:String)(r:V->List V->Hp->VK->Prop)(to:TE)(t:TA):TE:=λσ H Q=>to σ H λx H1=>CL K T x H1/\t σ H1 λxs H2=>r x xs H2 Q
variable{o e:Expr}{es:List Expr}{to:TE}{t:TA}{name:Str}{apos cpos:Pos}{T id:String}{r:V->List V->Hp->VK->Prop}
theorem ur(pa:PlainAttrs T)(slot:Slot T name id)(J:typeOf (.builtin id)=pure (.type "method_descriptor"))(hm:DS X id r)(ho:PE X o to)
  (B:attributeBase o name X.env (eval o X.env)=eval o X.env:=by rfl)(hline:(apos.endLine==cpos.line)=true:=by rfl):PE X (.Call (.Attribute o name apos) [] [] cpos) (C7 X.K T r to):=by
 intro pins s σ H Q I h;refine wpAny_Call_method0_late B hline (bL (ho pins s σ H _ I h) λv Z hp=>?_);obtain⟨x,H1,Y,U,ty,q1⟩:=hp;obtain⟨h1,h2⟩:=tj Y U ty;exact⟨T,id,pa,slot,J,h1,h2,Calls.callWith_builtin rfl (PySem.evalArgs_none (hm pins Z σ H1 x [] v [] Q Y U .nil q1))⟩
theorem ut(pa:PlainAttrs T)(slot:Slot T name id)(J:typeOf (.builtin id)=pure (.type "method_descriptor"))(hm:DS X id r)(ho:PE X o to)(ha:PA X (e::es) t)
  (B:attributeBase o name X.env (eval o X.env)=eval o X.env:=by rfl)
  (hfew:((backTo cpos (starEach (e::es) X.env)).all (λx=> !x.1)&&(backToKw cpos (keywordEach [] X.env)).all (λx=>x.1.isSome)
   &&decide ((e::es).length+([]:List Keyword).length+(if([]:List Keyword).isEmpty then 0 else 1)<30))=true:=by rfl)
  (hline:(apos.endLine==cpos.line)=true:=by rfl)(hs:starEach (e::es) X.env=(false,eval e X.env)::starEach es X.env:=by rfl)(hplain:(backTo cpos (starEach es X.env)).any (·.1)=false:=by rfl):
  PE X (.Call (.Attribute o name apos) (e::es) [] cpos) (DZ X.K T r to t):=by
 intro pins s σ H Q I h;refine wpAny_Call_method_late B hfew hline rfl (bL (ho pins s σ H _ I h) λv s1 hp=>?_);obtain⟨x,H1,Z,U,ty,q1⟩:=hp;obtain⟨h1,h2⟩:=tj Z U ty;refine⟨T,id,pa,slot,J,h1,h2,?_⟩;have Y:=ha cpos pins s1 σ H1 _ Z q1;rw[hs] at Y ⊢;refine Calls.callWith_builtin (by show(false||(backTo cpos (starEach es X.env)).any (·.1))=false;rw[hplain]<;>rfl) (Calls.evalArgs_plain ?_)
 exact bL Y λus s2 ⟨vs,H2,I2,r2,q2⟩=>hm pins s2 σ H2 x vs v us Q I2 U r2 q2
end
def Ct(X:Cx)(id:String)(r:V->List V->Hp->VK->Prop):Prop:=
 ∀(pins:List (Addr×Obj))(s:Shared)(σ:St)(H:Hp)(x:V)(xs:List V) (v:Value) (us:List Value)(Q:VK),Inv X pins σ H s->RelV x v->bh xs us->r x xs H Q->
  wpAny (model X.prog X.w) X.A (call (.builtin id) (v::us)) (EP X pins σ Q) X.xe s
theorem bh.one:∀{x:V}{us:List Value},bh [x] us->∃u,us=[u]/\RelV x u
 |_,_,.cons r .nil=>⟨_,rfl,r⟩
theorem bh.zero:∀{us:List Value},bh [] us->us=[]
 |_,.nil=>rfl
theorem bh.dropLast{xs:List V}{us:List Value}(h:bh xs us):bh xs.dropLast us.dropLast:=by
 induction h with
 |nil=>exact .nil
 |cons r t ih=>
  cases t with
  |nil=>exact .nil
  |cons q t'=>exact .cons r ih
theorem bh.eraseIdx:∀{xs:List V}{us:List Value}(i:Nat),bh xs us->bh (xs.eraseIdx i) (us.eraseIdx i)
 |_,_,_,.nil=>.nil
 |_,_,0,.cons _ t=>t
 |_,_,i+1,.cons r t=>.cons r (bh.eraseIdx i t)
theorem pi{α:Type}(l:List α):l.eraseIdx (l.length - 1)=l.dropLast:=by
 induction l with
 |nil=>rfl
 |cons a r ih=>
  cases r with
  |nil=>rfl
  |cons b r=>
   have e:(a::b::r).length - 1=((b::r).length - 1)+1:=by have h1:(a::b::r).length=r.length+2:=rfl;have B:(b::r).length=r.length+1:=rfl;omega
   rw[e,List.eraseIdx_cons_succ,ih]
   all_goals rfl
theorem k9{α:Type}:∀(l:List α)(i:Nat),(l.eraseIdx i).length<=l.length
 |[],_=>ac _
 |_::_,0=>Nat.le_succ _
 |_::r,i+1=>Nat.succ_le_succ (k9 r i)
section
variable{X:Cx}{pins:List (Addr×Obj)}{σ:St}{H:Hp}{s:Shared}{l:Addr}{xs ys:List V}
theorem Inv.lset{f:Array Value->Array Value}(I:Inv X pins σ H s)(hH:H l=some (.lst xs))
  (e:s.heap.get? l=some {cls:= .type "list",data:= .seq its.toArray n}) (Y:f its.toArray=its'.toArray)(J:bh ys its')(B:ys.length<=sizeLine):
  Inv X pins σ (upd H l (.lst ys)) {s with heap:=s.heap.update l (Obj.mapSeq f),toks:=t'}:=by
 have q:=PySem.IsL.update e f;rw[Y] at q;refine I.write (x:=l) (e:=l) (by rw[hH];exact trivial) (.inl rfl) (λb' u Z U=>(Heap.get?_update_other s.heap (Obj.mapSeq f) (Ne.symm Z)).trans U) ⟨_,q⟩ ?_
 exact⟨B,its',_,J,q⟩
theorem Inv.lnew(I:Inv X pins σ H s)(J:bh ys its)(B:ys.length<=sizeLine):
  Inv X pins σ (upd H s.heap.objs.size (.lst ys)) {s with heap:=s.heap.push {cls:= .type "list",data:= .seq its.toArray},toks:=t'}:=
 I.laid (λ_ _ q=>ah _ q) (ac _) ⟨B,its,0,J,aw _ rfl⟩
theorem Inv.fresh(I:Inv X pins σ H s):H s.heap.objs.size=none:=I.hok.fresh (ac _)
theorem Inv.lstM(I:Inv X pins σ H s)(B:H l=some (.lst xs)):xs.length<=sizeLine/\∃(its:List Value)(n:Nat),bh xs its/\xs.length=its.length/\s.heap.get? l=some {cls:= .type "list",data:= .seq its.toArray n}:=by obtain⟨z,its,n,r,e⟩:=I.hok l _ B;exact⟨z,its,n,r,r.length,e⟩
theorem uw(h:n<=sizeLine):Builtin.List.listTooLong n=false:=by
 unfold Builtin.List.listTooLong;exact decide_eq_false (by omega)
end
section
variable{X:Cx}
def wD:V->List V->Hp->VK->Prop:=λx vs H Q=>∃l xs y,x=.ref l/\vs=[y]/\H l=some (.lst xs)/\xs.length<sizeLine/\Q .non (upd H l (.lst (xs++[y])))
theorem k7:Ct X "list.append" wD:=by
 intro pins s σ H x vs v us Q I J rv h;obtain⟨l,xs,y,rfl,rfl,B,Y,q⟩:=h;cases J;obtain⟨u,rfl,U⟩:=rv.one;obtain⟨z,its,n,r,Z,e⟩:=I.lstM B;refine call_meets F.slot_list_append ⟨_,e,rfl⟩ F.entry_list_append (F.args_list_append_2 _ _) (PySem.list_append l its.toArray n u (by rw[List.size_toArray];omega)) ⟨e,?_⟩
 refine⟨.non,_,I.lset (its':=its++[u]) B e (by simp) (r.append (.cons U .nil)) ?_,rfl,q⟩
 rw[ai,List.length_singleton];omega
def wC:V->List V->Hp->VK->Prop:=λx vs H Q=>∃l b xs zs,x=.ref l/\vs=[.ref b]/\H l=some (.lst xs)/\H b=some (.lst zs)/\xs.length+zs.length<=sizeLine/\Q .non (upd H l (.lst (xs++zs)))
theorem rY:Ct X "list.extend" wC:=by
 intro pins s σ H x vs v us Q I U rv h;obtain⟨l,b,xs,zs,rfl,rfl,J,hB,hz,q⟩:=h;cases U;obtain⟨u,rfl,Y⟩:=rv.one;cases Y;obtain⟨z,its,n,r,hl,e⟩:=I.lstM J;obtain⟨z2,its2,n2,Z,hl2,e2⟩:=I.lstM hB;have hsz:its.toArray.size+its2.toArray.size<=sizeLine:=by rw[List.size_toArray,List.size_toArray];omega
 have B:¬(!its.toArray.isEmpty&&Builtin.List.listTooLong (its.toArray.size+its2.toArray.size))=true:=by rw[uw hsz,Bool.and_false];exact aP
 refine call_meets F.slot_list_extend ⟨_,e,rfl⟩ F.entry_list_extend (F.args_list_extend_2 _ _)
  (AutoSeq1.list_extend_list_list_0 l its.toArray n b its2.toArray n2 B (by rw[List.size_toArray];omega) (by omega)) ⟨e,e2,?_⟩
 refine⟨.non,_,I.lset (its':=its++its2) J e (by simp) (r.append Z) ?_,rfl,q⟩
 rw[ai];omega
def Di:V->List V->Hp->VK->Prop:=λx vs H Q=>∃l xs y,x=.ref l/\vs=[]/\H l=some (.lst xs)/\xs[xs.length - 1]? =some y/\Q y (upd H l (.lst xs.dropLast))
theorem zT:Ct X "list.pop" Di:=by
 intro pins s σ H x vs v us Q I Y rv h;obtain⟨l,xs,y,rfl,rfl,U,hy,q⟩:=h;cases Y;have J:=rv.zero;subst J;obtain⟨z,its,n,r,hl,e⟩:=I.lstM U;obtain⟨u,hu,Z⟩:=r.get hy
 have B:its.toArray[its.toArray.size - 1]? =some u:=by show its.toArray[its.length - 1]? =some u;rw[<-Array.getElem?_toList,<-hl];exact hu
 refine call_meets F.slot_list_pop ⟨_,e,rfl⟩ F.entry_list_pop (F.args_list_pop_1 _) (MeetsSeq.list_pop_last l its.toArray n u B (by rw[List.size_toArray];omega)) ⟨e,?_⟩
 refine⟨y,_,I.lset (its':=its.dropLast) U e ?_ r.dropLast ?_,Z,q⟩
 ·show its.toArray.eraseIdxIfInBounds (its.toArray.size - 1)=its.dropLast.toArray;rw[List.size_toArray,List.eraseIdxIfInBounds_toArray,pi]
 ·rw[List.length_dropLast];omega
def zg:V->List V->Hp->VK->Prop:=λx vs H Q=>∃l xs i k y,x=.ref l/\vs=[.int i]/\H l=some (.lst xs)/\ -(2^63)<=i/\i<2^63/\seqIndex? i xs.length=some k/\xs[k]? =some y/\Q y (upd H l (.lst (xs.eraseIdx k)))
theorem uA:Ct X "list.pop" zg:=by
 intro pins s σ H x vs v us Q I U rv h;obtain⟨l,xs,i,k,y,rfl,rfl,J,h1,h2,hk,Z,q⟩:=h;cases U;obtain⟨u,rfl,Y⟩:=rv.one;obtain⟨t,rfl⟩:=Y;obtain⟨z,its,n,r,hl,e⟩:=I.lstM J;obtain⟨w,hw,B⟩:=r.get Z
 refine call_meets F.slot_list_pop ⟨_,e,rfl⟩ F.entry_list_pop (F.args_list_pop_2 _ _)
  (MeetsSeq.list_pop_at l its.toArray n i t k w (fitsIndex_both h1 h2) (by rw[List.size_toArray,<-hl];exact hk) (by rw[<-Array.getElem?_toList];exact hw) (by rw[List.size_toArray];omega)) ⟨e,?_⟩
 refine⟨y,_,I.lset (its':=its.eraseIdx k) J e ?_ (r.eraseIdx k) ?_,B,q⟩
 ·show its.toArray.eraseIdxIfInBounds k=(its.eraseIdx k).toArray;rw[List.eraseIdxIfInBounds_toArray]
 ·have:=k9 xs k;omega
def zi:V->List V->Hp->VK->Prop:=λx vs H Q=>∃l xs,x=.ref l/\vs=[]/\H l=some (.lst xs)/\Q .non (upd H l (.lst []))
theorem uB:Ct X "list.clear" zi:=by
 intro pins s σ H x vs v us Q I U rv h;obtain⟨l,xs,rfl,rfl,J,q⟩:=h;cases U;have B:=rv.zero;subst B;obtain⟨z,its,n,r,Y,e⟩:=I.lstM J;refine call_meets F.slot_list_clear ⟨_,e,rfl⟩ F.entry_list_clear (F.args_list_clear_1 _) (AutoSeq1.list_clear_list_0 l its.toArray n (by rw[List.size_toArray];omega)) ⟨e,?_⟩
 exact⟨.non,_,I.lset (its':=[]) (ys:=[]) J e rfl .nil (Nat.zero_le _),rfl,q⟩
def Dl:R2:=λx y H Q=>∃l b xs zs,x=.ref l/\y=.ref b/\H l=some (.lst xs)/\H b=some (.lst zs)/\xs.length+zs.length<=sizeLine/\∀p,H p=none->Q (.ref p) (upd H p (.lst (xs++zs)))
theorem zM:kA X (binaryOp .Add) Dl:=by
 intro pins s σ H x y v u Q I J B h;obtain⟨l,b,xs,zs,rfl,rfl,Z,hB,hz,q⟩:=h;cases J;cases B;obtain⟨z,its,n,r,hl,e⟩:=I.lstM Z;obtain⟨z2,its2,n2,U,Y,e2⟩:=I.lstM hB;refine PySem.P.add_list e e2 ?_ (by rw[List.size_toArray,List.size_toArray];omega)
 have ea:its.toArray++its2.toArray=(its++its2).toArray:=by simp
 rw[ea];exact⟨.ref _,_,I.lnew (t':=s.toks) (r.append U) (by rw[ai];omega),rfl,q _ I.fresh⟩
end
section
end
section
end
end L2
namespace Att
open PySem PySem.W PySem.Calls PyProof.Rows
theorem iV{P:Params}{h:Heap}:∀(ns:List Int)(vs:List Value),WellAll P h vs (ns.map WData.int)->IntsAre vs ns:=by
 intro ns
 induction ns with
 |nil=>intro vs w;rw[List.map_nil] at w;cases w;exact .nil
 |cons n ns ih=>
  intro vs w;rw[List.map_cons] at w;cases w with
  |cons a b=>cases a;exact .cons _ _ (ih _ b)
theorem rC{l:OpenLaw}{n:Nat}(hn:l.most=some n){P:Params}{h:Heap}{args:List WData}{vals:List Value}
  (B:l.row.toRowW.claim.pre args=true)(Y:WellAll P h vals args):
  ∃a vs ns,vals=[Value.ref a]/\args=[WData.list (ns.map WData.int)]/\h.get? a=some {cls:= .type "list",data:= .seq vs.toArray}/\IntsAre vs ns/\ns.length<=n:=by
 have Z:WShape.hasAll [] args [.list .int]=true:=(pre_splitW B).1;have hc:l.pre.holds [] {args:=args}=true:=(pre_splitW B).2;obtain⟨d,r,rfl,h1,h2⟩:=hasAllW_cons Z;obtain rfl:=hasAllW_nil h2;obtain⟨xs,rfl,h3⟩:=hasW_list h1;obtain⟨ns,rfl⟩:=items_int h3
 have I:ns.length<=n:=by
  unfold OpenLaw.pre at hc
  have U:(WTm.not (.lt (.lit (.int (n:Int))) (.len (.arg 0)))).holds [] {args:=[.list (ns.map .int)]}=true:=by have U:=(holds_andW hc).1;rw[hn] at U;exact U
  have J:=condW_of U (w_not (w_lt w_lit (w_len_list (w_arg rfl))));rw[List.length_map] at J;refine Nat.le_of_not_lt λq=>?_;have q':(n:Int)<((ns.length:Nat):Int):=by omega
  first
   |(rw[decide_eq_true q'] at J;exact absurd J (by decide))
   |(simp at J;omega)
 cases Y with
 |cons w1 w2=>
  cases w2;cases w1 with
  |list ho hall=>exact⟨_,_,ns,rfl,rfl,ho,iV ns _ hall,I⟩
theorem rO(l:OpenLaw)(args:List WData):l.row.toRowW.claim.post args (.bool true) args=true:=
 postW_of (r:=l.row.toRowW) (X:=(true==true))
  (show WShape.has [] (.bool true) .bool=true by first|rfl|decide|simp[WShape.has,WShape.arms,WShape.armsAll])
  (show(WTm.eq .res (.lit (.bool true))).value [] {args:=args,res:=some (.bool true),after:=args}=some (.bool (true==true)) from w_eq_bool (w_res rfl) w_lit) rfl
theorem n_{l:OpenLaw}{n:Nat}{q:Program}{loose:List Str}{XP:(Str->Option Value)->Heap->Prop}{YP:World->Heap->Prop}{d:DefRec}
  (hn:l.most=some n)(hdf:d.params.defaults=[])
  (call:∀(w:World)(s₀ s₁:Shared)(mg mb:Str->Option Value)(fa:Addr)(o:Obj)(pm cd I:Value)(a:Addr)(vs:List Value) (ns:List Int),
   Ground q loose [] XP w s₀ mg mb s₁.heap->YP w s₁.heap->
   s₁.heap.get? fa=some o->o.data=.func (docDef d.name d.params d.body d.scope pm cd I)->s₁.heap.CodeRec cd d.name->mg d.name=some (.ref fa)->
   s₁.heap.get? a=some {cls:= .type "list",data:= .seq vs.toArray}->IntsAre vs ns->ns.length<=n->s₁.gens= #[]->
   codeAny (model l.prog w) callerA (.call (.ref fa) ⟨[.ref a],[]⟩) (λr s'=>r=.ok (.ret (.bool true))/\OldK s₁.heap s'.heap/\s'.os=s₁.os/\AllBare s'.gens) s₁):
  WalkO q loose XP YP l.row.toRowW d [] (λf vs=>PySem.call f vs):=by
 intro w s₀ s₁ mg mb G Y fa o pm cd I dV kV ho hd hcd hD hmg hg args vals as J hlay hrd hwl hlo;obtain rfl:dV=.none:=Dflts.none hD hdf;obtain rfl:kV=.none:=Dflts.noKw hD;obtain⟨a,vs,ns,rfl,rfl,U,B,Z⟩:=rC hn J hwl;refine enter_call (codeAny_mono (call w s₀ s₁ mg mb fa o pm cd I a vs ns G Y ho (fd_plain hd) hcd hmg U B Z hg) λr s' hq=>?_);obtain⟨rfl,h2,h3,h4⟩:=hq;exact⟨.inl ⟨.bool true,.bool true,[],rfl,λ_=>rfl,.bool true,rO l _,λ_=>⟨List.Pairwise.nil,λ_ hm=>(nomatch hm)⟩⟩,h2,h3,h4⟩
section
end
end Att
namespace L2
open PySem PySem.Spec PyProof.Rows
variable{qual x:Str}{a f:Addr}{w:World}{P:Program}{u:Value}{y:V}{xs:List (List Key×Addr×Value)}{kvs:List (List Key×V)}{H H':Hp}{Q:Value->Shared->Prop}{X:Cx}
theorem h_:∀{vs:List Value}{ns:List Int},IntsAre vs ns->bh (ns.map V.int) vs
 |_,_,.nil=>.nil
 |_,_,.cons n t h=>.cons ⟨t,rfl⟩ (h_ h)
def xL(H:Hp):Prop:=∀b,H b=none∨∃o xs,H b=some (.frz o (.lst xs))
theorem uF{K:aD}{mg mb:Str->Option Value}{CX:vK}{k:Nat}{fa:Addr}{fd:FuncData}{sp:Sp}{s₁:Shared}{vs:List Value}{ns:List Int}
  (KX:K.In s₁.heap)(hns:s₁.heap.Ns mainGlobals mg)(B:s₁.heap.Ns builtinsNs mb)(hbb:∀x:Str,x≠ "__name__" ->mb x=bootBuiltins x) (hlim:s₁.heap.NoLimit)(hg:s₁.gens= #[])
  (ha:s₁.heap.get? a=some {cls:= .type "list",data:= .seq vs.toArray}) (hi:IntsAre vs ns)(hl:ns.length<=sizeLine)(hr:Room k callerA)
  (F:∀base:Heap,K.In base->base.Ns mainGlobals mg->FnOk P w K mg base CX k fa fd [x] sp)(J:∀(s:Shared)(u:Value),BindsTo s fd ⟨[u],[]⟩ [(x,u)])
  (hsp:∀H:Hp,xL H->c8 K H a (ns.map V.int)->sp [.ref a] H (λv _=>v=.bl true) λ_ _ _=>False)
  (hCX:∀H e s',CX [] H s₁ (λ_ _ _=>False) e s'->False):
  codeAny (model P w) callerA (.call (.ref fa) ⟨[.ref a],[]⟩) (λr s'=>r=.ok (.ret (.bool true))/\OldK s₁.heap s'.heap/\s'.os=s₁.os/\AllBare s'.gens) s₁:=by
 have rv:=h_ hi;have lenV:=hi.length
 have core:∀H:Hp,xL H->c8 K H a (ns.map V.int)->gz P w H s₁.heap->(∀b,H b≠none->b=a)->(H a≠none->K.lookup a=none)->
   codeAny (model P w) callerA (.call (.ref fa) ⟨[.ref a],[]⟩) (λr s'=>r=.ok (.ret (.bool true))/\OldK s₁.heap s'.heap/\s'.os=s₁.os/\AllBare s'.gens) s₁:=by
  intro H hO hS Z hA hK;have base_of:∀{b:Addr}{o:Obj},s₁.heap.get? b=some o->H b=none->(mz s₁.heap H).get? b=some o:=λe n=>uT e n
  have noA:∀{b:Addr}{o:Obj}{es:Array DictEntry}{ep:Nat},s₁.heap.get? b=some o->o.data=.dict es ep->H b=none:=λ{b o es ep} e d=>by
   cases q:H b with
   |none=>rfl
   |some u=>
    have e':b=a:=hA b (by rw[q];simp)
    subst e';rw[ha] at e;cases e;have d':Data.seq vs.toArray _=Data.dict es ep:=d;cases d'
  have I:∀{b:Addr}{m:Str->Option Value},s₁.heap.Ns b m->(mz s₁.heap H).Ns b m:=λ{b m} ⟨o,es,ep,e,d,r⟩=>⟨o,es,ep,base_of e (noA e d),d,r⟩
  have hKb:K.In (mz s₁.heap H):=λb o e=>base_of (KX b o e) (by
   cases q:H b with
   |none=>rfl
   |some u=>
    have e':b=a:=hA b (by rw[q];simp)
    subst e';rw[hK (by rw[q];simp)] at e;cases e)
  have hM:Mod K mg (mz s₁.heap H):=⟨hKb,I hns,⟨mb,I B,hbb⟩,let⟨mc,h1,h2⟩:=hlim;⟨mc,I h1,h2⟩⟩;have e0:Env0 P w K mg (mz s₁.heap H) callerA [] s₁ H:=⟨rfl,hM,λb o e=>wY e,Nat.le_of_eq (sj _ _),trivial,λb B=>absurd (show b∈([]:List Addr) from B) (by simp),Z,.of_eq hg⟩
  refine codeAny_mono ((F _ hKb (I hns)).run callerA [] s₁ H ⟨[.ref a],[]⟩ [.ref a] [.ref a] _ _ hr e0 (J s₁ (.ref a)) (.cons rfl .nil) (hsp H hO hS)) λr s' h=>?_;cases r with
  |error e=>exact(hCX H e s' h).elim
  |ok fl=>
   cases fl with
   |next=>exact False.elim h
   |brk=>exact False.elim h
   |cont=>exact False.elim h
   |ret u=>
    obtain⟨v,H',os,bare,un,Y,r',q⟩:=h;have q':v=.bl true:=q;subst q';obtain rfl:u=Value.bool true:=r';refine⟨rfl,OldK.of_keep λb o e=>?_,os,bare⟩;cases q:H b with
    |none=>exact un.keep b o e q (by intro z;exact absurd (show b∈([]:List Addr) from z) (by simp)) (by simp)
    |some u=>
     rcases hO b with z|⟨ob,xs,z⟩
     ·rw[q] at z;cases z
     ·have z2:=un.frzs b ob _ z;obtain⟨e1,_⟩:=Z b _ z;obtain⟨e2,_⟩:=Y b _ z2;rw[e] at e1;cases e1;exact e2
 cases hk:K.lookup a with
 |some o=>
  have e:=KX a o hk;rw[ha] at e;cases e;refine core (λ_=>none) (λ_=>.inl rfl) (.inr ⟨_,vs.toArray,_,hk,rfl,rfl,rfl,by rw[List.size_toArray,lenV];exact hl,by simpa using rv⟩) (λb u z=>by have U:(none:Option HO)=some u:=z;cases U) (λb z=>absurd rfl z) λz=>absurd rfl z
 |none=>
  refine core (λb=>if b=a then some (.frz {cls:= .type "list",data:= .seq vs.toArray} (.lst (ns.map V.int))) else none) (λb=>?_) (.inl (.inr ⟨{cls:= .type "list",data:= .seq vs.toArray},if_pos rfl⟩)) (λb u z=>?_) (λb z=>?_) λ_=>hk
  ·by_cases B:b=a
   ·exact .inr ⟨_,_,if_pos B⟩
   ·exact .inl (if_neg B)
  ·by_cases B:b=a
   ·have U:=(if_pos B).symm.trans z;cases U;subst B;exact⟨ha,by rw[List.length_map];exact hl,vs,_,rv,ha⟩
   ·have U:=(if_neg B).symm.trans z;cases U
  ·by_cases B:b=a
   ·exact B
   ·exact absurd (if_neg B) z
theorem vQ{l:PySem.W.OpenLaw}{n k:Nat}{q:Program}{loose:List Str}{XP:(Str->Option Value)->Heap->Prop}{YP:World->Heap->Prop}{d:DefRec}{K:Params->aD}{CX:World->vK}{sp:World->Sp}
  (hn:l.most=some n)(hn2:n<=sizeLine)(hdf:d.params.defaults=[])(hr:Room k callerA)
  (hY:∀(w:World)(h:Heap),YP w h->(K w.params).In h)
  (F:∀(w:World)(mg:Str->Option Value)(U:Addr)(h:Heap),(K w.params).In h->h.Ns mainGlobals mg->mg d.name=some (.ref U)->
   ∃fd:FuncData,(∀(s:Shared)(u:Value),BindsTo s fd ⟨[u],[]⟩ [(x,u)])/\
    ∀base:Heap,(K w.params).In base->base.Ns mainGlobals mg->FnOk l.prog w (K w.params) mg base (CX w) k U fd [x] (sp w))
  (Z:∀(w:World)(H:Hp)(a:Addr)(ns:List Int),ns.length<=n->xL H->c8 (K w.params) H a (ns.map V.int)->sp w [.ref a] H (λv _=>v=.bl true) λ_ _ _=>False)
  (hCX:∀(w:World)(H:Hp)(s:Shared)(e:Value)(s':Shared),CX w [] H s (λ_ _ _=>False) e s'->False):
  PySem.W.WalkO q loose XP YP l.row.toRowW d [] (λf vs=>PySem.call f vs):=by
 refine Att.n_ hn hdf λw s₀ s₁ mg mb U o pm cd doc a vs ns G Y ho hd hcd hmg J I B hg=>?_;have KX:=hY w _ Y;obtain⟨fd,hb,hF⟩:=F w mg U _ KX G.T.g hmg;exact uF KX G.T.g G.T.b G.T.builtins G.T.nolimit hg J I (aB B hn2) hr hF hb (λH hO hS=>Z w H a ns B hO hS) λH e s'=>hCX w H s₁ e s'
noncomputable def dG(s:Stmt):Arguments:=match s with
 | .FunctionDef _ a _ _ _ _ _ _ _ _=>a
 |_=>{posonlyargs:=[],args:=[],vararg:=none,kwonlyargs:=[],kw_defaults:=[],kwarg:=none,defaults:=[]}
noncomputable def cU(s:Stmt):List Stmt:=match s with
 | .FunctionDef _ _ b _ _ _ _ _ _ _=>b
 |_=>[]
noncomputable def bR(s:Stmt):Scope:=match s with
 | .FunctionDef _ _ _ _ _ _ sc _ _ _=>sc
 |_=>{kind:= .function,names:=[],isGenerator:=false,isCoroutine:=false}
abbrev E0:XK:=λ_ _ _=>False
structure Fun(K:aD)(x qual:Str)(st:Stmt)(f:Addr)(fd:FuncData):Prop where
 ex:∃(oc:Value)(od:Option Addr)(kV doc pm:Value)(an:Option Addr)(cdv ct:Value)(osl:Array (Option Value)),
  fd=PySem.W.fnOf x qual (dG st) (cU st) (bR st) .none kV doc pm an cdv ct/\K.lookup f=some ⟨oc,od,.func fd,osl⟩/\PySem.W.codeIn K cdv qual=true
 kp:PySem.W.keepIn K (.ref f)=true
section
variable{K:aD}
theorem Fun.binds{st:Stmt}{fd:FuncData}{ps:List Str}(F:Fun K x qual st f fd)
  (h:∀(kV B J:Value)(U:Option Addr)(I ct:Value)(us:List Value),us.length=ps.length->bindArgs (PySem.W.fnOf x qual (dG st) (cU st) (bR st) .none kV B J U I ct) ⟨us,[]⟩=pure (ps.zip us)):Binds K fd ps []:=by
 obtain⟨oc,od,kV,B,J,U,I,ct,Y,rfl,lk,Z⟩:=F.ex;exact .all (h kV B J U I ct)
theorem Ah{st:Stmt}{oc:Value}{Z Y:Option Addr}{J:Array (Option Value)}{kV I U B ct:Value}(l:K.lookup f=some ⟨oc,Z,.func (PySem.W.fnOf x qual (dG st) (cU st) (bR st) .none kV I U Y B ct),J⟩)
  (c:PySem.W.codeIn K B qual=true)(k:PySem.W.keepIn K (.ref f)=true):Fun K x qual st f (PySem.W.fnOf x qual (dG st) (cU st) (bR st) .none kV I U Y B ct):=⟨⟨oc,Z,kV,I,U,Y,B,ct,J,rfl,l,c⟩,k⟩
end
section
end
set_option maxHeartbeats 4000000
set_option linter.unusedVariables false
section
variable{κ:Type}[DecidableEq κ]
noncomputable def eh(kvs:List (κ×V))(k:κ):Option V:=(kvs.find? λkv=>decide (kv.1=k)).map (·.2)
noncomputable def putK(kvs:List (κ×V))(k:κ)(v:V):List (κ×V):=
 if(kvs.any λkv=>decide (kv.1=k))=true then kvs.map (λkv=>if kv.1=k then(kv.1,v) else kv) else kvs++[(k,v)]
theorem sY{k:κ}:eh ([]:List (κ×V)) k=none:=rfl
theorem gG{p:κ×V}{r:List (κ×V)}{k:κ}(e:p.1=k):eh (p::r) k=some p.2:=by simp[eh,List.find?_cons,e]
theorem gH{p:κ×V}{r:List (κ×V)}{k:κ}(e:¬p.1=k):eh (p::r) k=eh r k:=by simp[eh,List.find?_cons,e]
theorem mY(k:κ):∀kvs:List (κ×V),(kvs.any λkv=>decide (kv.1=k))=(eh kvs k).isSome
 |[]=>rfl
 |p::r=>by
  rw[List.any_cons];by_cases e:p.1=k
  ·simp only[gG e,decide_eq_true e,Bool.true_or,Option.isSome_some]
  ·rw[gH e,decide_eq_false e,Bool.false_or];exact mY k r
theorem cW(kvs:List (κ×V))(k:κ)(v:V):(putK kvs k v).length<=kvs.length+1:=by
 unfold putK;split
 ·rw[List.length_map];omega
 ·rw[ai,List.length_cons,List.length_nil];omega
theorem fc.isSome_eq{o:Option V}{u:Option Value}(r:fc o u):o.isSome=u.isSome:=by
 cases o with
 |none=>cases u with
  |none=>rfl
  |some _=>exact(show False from r).elim
 |some _=>cases u with
  |none=>exact(show False from r).elim
  |some _=>rfl
theorem fc.getD{o:Option V}{u:Option Value}{d:V}{d':Value}(r:fc o u)(B:RelV d d'):RelV (o.getD d) (u.getD d'):=by
 cases o with
 |none=>cases u with
  |none=>exact B
  |some _=>exact(show False from r).elim
 |some _=>cases u with
  |none=>exact(show False from r).elim
  |some _=>exact r
theorem KV.val{kvs:List (κ×V)}{vs:List (κ×Value)}(r:KV kvs vs)(k:κ):fc (eh kvs k) (valueAt vs k):=by
 unfold KV at r
 induction r with
 |nil=>exact True.intro
 | @cons p q ps qs h t ih=>
  obtain⟨h1,B⟩:=h;by_cases e:p.1=k
  ·have e':q.1=k:=h1.symm.trans e;have b:valueAt (q::qs) k=some q.2:=by simp[valueAt,List.find?_cons,e']
   rw[gG e,b];exact B
  ·have e':¬q.1=k:=λz=>e (h1.trans z);have b:valueAt (q::qs) k=valueAt qs k:=by simp[valueAt,List.find?_cons,e']
   rw[gH e,b];exact ih
theorem KV.any{kvs:List (κ×V)}{vs:List (κ×Value)}(r:KV kvs vs)(k:κ):(kvs.any λkv=>decide (kv.1=k))=vs.any λkv=>decide (kv.1=k):=by
 unfold KV at r
 induction r with
 |nil=>rfl
 |cons h t ih=>rw[List.any_cons,List.any_cons,ih,h.1]
theorem KV.repl{kvs:List (κ×V)}{vs:List (κ×Value)}(r:KV kvs vs)(k:κ)(B:RelV y u):
  KV (kvs.map λkv=>if kv.1=k then(kv.1,y) else kv) (vs.map λkv=>if kv.1=k then(kv.1,u) else kv):=by
 unfold KV at r ⊢
 induction r with
 |nil=>exact .nil
 | @cons p q ps qs h t ih=>
  rw[List.map_cons,List.map_cons];refine .cons ?_ ih;obtain⟨h1,I⟩:=h;by_cases e:p.1=k
  ·rw[if_pos e,if_pos (h1.symm.trans e)];exact⟨h1,B⟩
  ·rw[if_neg e,if_neg (λz=>e (h1.trans z))];exact⟨h1,I⟩
theorem KV.put{kvs:List (κ×V)}{vs:List (κ×Value)}(r:KV kvs vs)(k:κ)(B:RelV y u):KV (putK kvs k y) (stored vs k u):=by
 unfold putK stored;rw[r.any k];by_cases e:(vs.any λkv=>decide (kv.1=k))=true
 ·rw[if_pos e,if_pos e];exact r.repl k B
 ·rw[if_neg e,if_neg e];exact Paired.snoc r ⟨rfl,B⟩
theorem KV.keys{kvs:List (κ×V)}{vs:List (κ×Value)}(r:KV kvs vs):kvs.map (·.1)=vs.map (·.1):=by
 unfold KV at r
 induction r with
 |nil=>rfl
 |cons h t ih=>rw[List.map_cons,List.map_cons,ih,h.1]
theorem KV.length{kvs:List (κ×V)}{vs:List (κ×Value)}(r:KV kvs vs):kvs.length=vs.length:=Paired.length r
end
theorem fZ{k:Key}(r:RelV (kV k) u):(bd P w).is k u=true:=by
 cases k with
 |inl i=>obtain⟨t,e⟩:=(show ∃t,u=Value.int i t from r);subst e;exact nE P w i t
 |inr x=>obtain⟨t,e⟩:=(show ∃t,u=Value.str x t from r);subst e;exact nD P w x t
theorem lg{P:Program}{w:World}:∀{ks:List Key}{us:List Value},bh (ks.map kV) us->ItemsAre (bd P w) ks us
 |[],_,r=>by rw[List.map_nil] at r;cases r;exact .nil
 |k::ks,_,r=>by
  rw[List.map_cons] at r;cases r with
  |cons h t=>exact .cons (fZ h) (lg t)
abbrev KT(H:Hp):List (List Key×V)->List (List Key×Addr×Value)->Prop:=Paired λp q=>p.1=q.1/\H q.2.1=some (.tup (p.1.map kV))/\RelV p.2 q.2.2
theorem KT.val(r:KT H kvs xs)(k:List Key):fc (eh kvs k) ((atKey xs k).map (·.2)):=by
 induction r with
 |nil=>exact True.intro
 | @cons p q ps qs h t ih=>
  obtain⟨h1,_,B⟩:=h;by_cases e:p.1=k
  ·have e':q.1=k:=h1.symm.trans e;have b:atKey (q::qs) k=some q.2:=by simp[atKey,List.find?_cons,e']
   rw[gG e,b];exact B
  ·have e':¬q.1=k:=λz=>e (h1.trans z);have b:atKey (q::qs) k=atKey qs k:=by simp[atKey,List.find?_cons,e']
   rw[gH e,b];exact ih
theorem KT.repl(r:KT H kvs xs)(k:List Key)(I:RelV y u):
  KT H (kvs.map λkv=>if kv.1=k then(kv.1,y) else kv) (xs.map (putAt k u)):=by
 induction r with
 |nil=>exact .nil
 | @cons p q ps qs h t ih=>
  rw[List.map_cons,List.map_cons];refine .cons ?_ ih;obtain⟨h1,B,J⟩:=h;unfold putAt;by_cases e:p.1=k
  ·rw[if_pos e,if_pos (h1.symm.trans e)];exact⟨h1,B,I⟩
  ·rw[if_neg e,if_neg (λz=>e (h1.trans z))];exact⟨h1,B,J⟩
theorem KT.put(r:KT H kvs xs)(k:List Key){b:Addr}(I:H b=some (.tup (k.map kV)))(B:RelV y u):
  KT H (putK kvs k y) (storedH xs k b u):=by
 have e:(kvs.any λkv=>decide (kv.1=k))=(atKey xs k).isSome:=by rw[mY,(r.val k).isSome_eq,Option.isSome_map]
 unfold putK storedH;rw[e];by_cases q:(atKey xs k).isSome=true
 ·rw[if_pos q,if_pos q];exact r.repl k B
 ·rw[if_neg q,if_neg q];exact Paired.snoc r ⟨rfl,I,B⟩
theorem KT.keeps(r:KT H kvs xs)(ht:∀b ys,H b=some (.tup ys)->H' b=some (.tup ys)):KT H' kvs xs:=
 Paired.mapP r λ_ _ z=>⟨z.1,ht _ _ z.2.1,z.2.2⟩
section
variable{P:Program}{w:World}{H:Hp}{h:Heap}{a:Addr}
theorem xT{u:HO}(ok:gz P w H h)(e:Rd H a u):bT P w H h a u:=e.ok ok
theorem f8{kvs:List (Key×V)}(ok:gz P w H h)(e:Rd H a (.dK kvs)):kvs.length<=sizeLine/\(a==sysModules)=false/\∃vs,KV kvs vs/\h.DictOf (bd P w) a vs:=
 show bT P w H h a (.dK kvs) from xT ok e
theorem j5{kvs:List (Key×V)}(ok:gz P w H h)(e:H a=some (.dK kvs)):kvs.length<=sizeLine/\(a==sysModules)=false/\∃vs,KV kvs vs/\h.DictOf (bd P w) a vs:=f8 ok (.inl e)
theorem gj{ks:List Key}(ok:gz P w H h)(e:H a=some (.tup (ks.map kV))):(tupleKind (bd P w)).is h ks a:=by
 obtain⟨_,its,r,o,h1,I,n,B⟩:=(show bT P w H h a (.tup (ks.map kV)) from ok a _ e);exact⟨o,its.toArray,n,h1,I.1,B,by simpa using lg r⟩
theorem iO(ok:gz P w H h)(e:Rd H a (.dT kvs)):kvs.length<=sizeLine/\(a==sysModules)=false/\
  ∃xs,KT H kvs xs/\h.DictOfH (tupleKind (bd P w)) a xs:=by
 obtain⟨z,y,xs,r,o,es,ep,h1,Y,U,J,I⟩:=(show bT P w H h a (.dT kvs) from xT ok e);refine⟨z,y,xs,r,o,es,ep,h1,Y,U,J,λx B=>?_,I⟩
 have all:∀{l:List (List Key×V)}{m:List (List Key×Addr×Value)},KT H l m->∀x∈m,(tupleKind (bd P w)).is h x.1 x.2.1:=by
  intro l m q
  induction q with
  |nil=>intro x B;exact nomatch B
  | @cons p q ps qs hq t ih=>
   intro x B;rcases List.mem_cons.mp B with e|B
   ·subst e;exact gj ok (by rw[<-hq.1];exact hq.2.1)
   ·exact ih x B
 exact all r x B
theorem Ch(ok:gz P w H h)(e:H a=some (.dT kvs)):kvs.length<=sizeLine/\(a==sysModules)=false/\
  ∃xs,KT H kvs xs/\h.DictOfH (tupleKind (bd P w)) a xs:=iO ok (.inl e)
end
def fW(H:Hp)(a:Addr)(y:V)(r:Option V):Prop:=
 (∃kvs k,Rd H a (.dK kvs)/\y=kV k/\r=eh kvs k)∨∃kvs k b,Rd H a (.dT kvs)/\y=.ref b/\H b=some (.tup (k.map kV))/\r=eh kvs k
def vJ(H:Hp)(a:Addr)(y v:V)(H':Hp):Prop:=
 (∃kvs k,H a=some (.dK kvs)/\y=kV k/\kvs.length<sizeLine/\H'=upd H a (.dK (putK kvs k v)))∨
 ∃kvs k b,H a=some (.dT kvs)/\y=.ref b/\H b=some (.tup (k.map kV))/\kvs.length<sizeLine/\H'=upd H a (.dT (putK kvs k v))
theorem fW.k{H:Hp}{a:Addr}{kvs:List (Key×V)}{k:Key}(e:H a=some (.dK kvs)):fW H a (kV k) (eh kvs k):= .inl ⟨kvs,k,.inl e,rfl,rfl⟩
theorem vJ.k{H:Hp}{a:Addr}{kvs:List (Key×V)}{k:Key}{v:V}(e:H a=some (.dK kvs))(B:kvs.length<sizeLine):vJ H a (kV k) v (upd H a (.dK (putK kvs k v))):= .inl ⟨kvs,k,e,rfl,B,rfl⟩
section
variable{X:Cx}{pins:List (Addr×Obj)}{σ:St}{H:Hp}{s:Shared}{a:Addr}{y v:V}{u r:Value}{o:Option V}{A:Around}{E:Value->Shared->Prop}
theorem Inv.big(I:Inv X pins σ H s):sysModules<s.heap.objs.size:=by
 have h:mainGlobals<s.heap.objs.size:=(I.mod.glob.keeps I.bk).lt;exact Nat.lt_trans (by decide) h
theorem sC(hu:A.units+1<cLine)(I:Inv X pins σ H s)(g:fW H a y (some v))(ry:RelV y u)(h:∀J s',Inv X pins σ H s'->RelV v J->Q J s'):
  wpAny (model X.prog X.w) A (getItem (.ref a) u) Q E s:=by
 rcases g with⟨kvs,k,e,ey,l⟩|⟨kvs,k,b,e,ey,eb,l⟩
 ·subst ey;obtain⟨z,hd,vs,rel,Z⟩:=f8 I.hok e;obtain⟨J,U,B⟩:=fc.some_of (v:=v) (o:=valueAt vs k) (by rw[l];exact rel.val k)
  exact wpAny_getItem_of (fZ ry) Z.mapOf U (h J _ (I.tok _) B)
 ·subst ey;cases(show u=Value.ref b from ry);obtain⟨z,hd,xs,rel,Z⟩:=iO I.hok e;obtain⟨J,U,B⟩:=fc.some_of (v:=v) (o:=(atKey xs k).map (·.2)) (by rw[l];exact rel.val k)
  obtain⟨p,hp,Y⟩:=Option.map_eq_some_iff.mp U;refine wpAny_getItem_heap (tupleKind_room_in1 hu) (gj I.hok eb) Z hp ?_;rw[Y];exact h J _ (I.tok _) B
theorem Dy(U:A.units+1<cLine)(I:Inv X pins σ H s)(g:fW H a y o)(J:RelV y u)(h:∀s',Inv X pins σ H s'->Q (.bool o.isSome) s'):
  wpAny (model X.prog X.w) A (compareOp .In u (.ref a)) Q E s:=by
 rcases g with⟨kvs,k,e,ey,l⟩|⟨kvs,k,b,e,ey,eb,l⟩
 ·subst ey;obtain⟨z,hd,vs,rel,B⟩:=f8 I.hok e;refine wpAny_in_of (fZ J) hd B.mapOf ?_;rw[<-(rel.val k).isSome_eq,<-l];exact h _ (I.tok _)
 ·subst ey;cases(show u=Value.ref b from J);obtain⟨z,hd,xs,rel,B⟩:=iO I.hok e;refine wpAny_in_heap (tupleKind_room_in1 U) (gj I.hok eb) hd B ?_;have q:=(rel.val k).isSome_eq;rw[Option.isSome_map] at q;rw[<-q,<-l];exact h _ (I.tok _)
theorem xA(U:A.units+1<cLine)(I:Inv X pins σ H s)(g:fW H a y o)(J:RelV y u)(h:∀s',Inv X pins σ H s'->Q (.bool (!o.isSome)) s'):
  wpAny (model X.prog X.w) A (compareOp .NotIn u (.ref a)) Q E s:=by
 rcases g with⟨kvs,k,e,ey,l⟩|⟨kvs,k,b,e,ey,eb,l⟩
 ·subst ey;obtain⟨z,hd,vs,rel,B⟩:=f8 I.hok e;refine wpAny_notIn_of (fZ J) hd B.mapOf ?_;rw[<-(rel.val k).isSome_eq,<-l];exact h _ (I.tok _)
 ·subst ey;cases(show u=Value.ref b from J);obtain⟨z,hd,xs,rel,B⟩:=iO I.hok e;refine wpAny_notIn_heap (tupleKind_room_in1 U) (gj I.hok eb) hd B ?_;have q:=(rel.val k).isSome_eq;rw[Option.isSome_map] at q;rw[<-q,<-l];exact h _ (I.tok _)
theorem jd{h':Heap}{t':Nat}{B:HO}(I:Inv X pins σ H s)(J:Cs (H a))(hs:Heap.SameBut a s.heap h')(U:∃q,h'.get? a=some q)(new:bT X.prog X.w (upd H a B) h' a B):
  Inv X pins σ (upd H a B) {s with heap:=h',toks:=t'}:=
 I.write (x:=a) (e:=a) J (.inl rfl) (λb q Y z=>(hs.2 b Y).trans z) U new
theorem j6{h':Heap}{kvs:List (Key×V)}{vs:List (Key×Value)}(z:kvs.length<=sizeLine)(hd:(a==sysModules)=false)(rel:KV kvs vs)(B:h'.DictOf (bd P w) a vs):
  bT P w H' h' a (.dK kvs):=⟨z,hd,vs,rel,B⟩
theorem sB{Q:Unit->Shared->Prop}(hu:A.units+1<cLine)(I:Inv X pins σ H s)(g:vJ H a y v H')(ry:RelV y u)(rv:RelV v r)(h:∀s',Inv X pins σ H' s'->Q () s'):
  wpAny (model X.prog X.w) A (setItem (.ref a) u r) Q E s:=by
 rcases g with⟨kvs,k,e,ey,l,eH⟩|⟨kvs,k,b,e,ey,eb,l,eH⟩
 ·subst ey eH;obtain⟨z,hd,vs,rel,Z⟩:=j5 I.hok e;have U:vs.length<=sizeLine:=by rw[<-rel.length];exact z
  have Y:(putK kvs k v).length<=sizeLine:=by have:=cW kvs k v;omega
  refine wpAny_setItem_pairs (hsz:=U) (fZ ry) Z λh' B hs=>h _ ?_;have he:∃q,h'.get? a=some q:=let⟨q,_,_,J,_⟩:=B;⟨q,J⟩;exact jd I (by rw[e];exact True.intro) hs he (j6 Y hd (rel.put k rv) B)
 ·subst ey eH;cases(show u=Value.ref b from ry);obtain⟨z,hd,xs,rel,Z⟩:=Ch I.hok e;have U:xs.length<=sizeLine:=by rw[<-Paired.length rel];exact z
  have Y:(putK kvs k v).length<=sizeLine:=by have:=cW kvs k v;omega
  refine wpAny_setItem_heap (hsz:=U) (tupleKind_room_in1 hu) (gj I.hok eb) Z λh' B hs=>h _ ?_;obtain⟨q,es,ep,J,h2,h3,h4,_,h5⟩:=B;refine jd I (by rw[e];exact True.intro) hs ⟨q,J⟩ ⟨Y,hd,_,(rel.put k eb rv).keeps λc ys ec=>?_,q,es,ep,J,h2,h3,h4,h5⟩
  rw[aG (b7 ec e (λz=>nomatch z))];exact ec
end
section
variable{X:Cx}{pins:List (Addr×Obj)}{σ:St}{H:Hp}{s:Shared}{a:Addr}{kvs:List (Key×V)}{A:Around}{E:Value->Shared->Prop}
theorem Ci(I:Inv X pins σ H s)(e:Rd H a (.dK kvs))(h:∀t s',Inv X pins σ H s'->Q (.int kvs.length t) s'):wpAny (model X.prog X.w) A (call (.builtin "len") [.ref a]) Q E s:=by
 obtain⟨z,hd,vs,rel,B⟩:=f8 I.hok e;refine call_len_dict hd B (by rw[<-rel.length];rw[sizeLine_eq] at z;omega) ?_
 rw[<-rel.length];exact h _ _ (I.tok _)
end
theorem nW{pins:List (Addr×Obj)}{σ:St}{s:Shared}{o:Option V}(I:Inv X pins σ H s)(g:fW H a y o):s.TypeIs (.ref a) "dict":=by
 rcases g with⟨kvs,k,e,_,_⟩|⟨kvs,k,b,e,_,_,_⟩
 ·obtain⟨_,_,vs,_,B⟩:=f8 I.hok e;exact B.typeIs
 ·obtain⟨_,_,xs,_,B⟩:=iO I.hok e;exact B.typeIs
def Bx(td ty tv:TE):TS:=λD σ H=>tv σ H λv H1=>td σ H1 λx H2=>ty σ H2 λy H3=>∃a H4,x=.ref a/\vJ H3 a y v H4/\D.nx σ H4
section
variable{X:Cx}{o i value:Expr}{pos pos':Pos}{td ty tv:TE}
theorem wJ(Y:X.A.units+1<cLine)(ho:PE X o td)(hi:PE X i ty)(U:PE X value tv)(hs:swapsWith value (some (.Subscript o i pos')) pos.line X.env=pure false):
  PS X (.Assign [.Subscript o i pos'] value pos) (Bx td ty tv):=by
 intro pins s σ H D I h;refine wpAny_Assign_Subscript (bL (U pins s σ H _ I h) λr J ⟨v,H1,I1,rv,q1⟩=>bL (ho pins J σ H1 _ I1 q1) λu B ⟨x,H2,I2,rx,q2⟩=>bL (hi pins B σ H2 _ I2 q2) λiv s3 ⟨y,H3,I3,ry,a,H4,ex,g,q3⟩=>?_) hs;subst ex;obtain rfl:u=Value.ref a:=rx;exact sB Y I3 g ry rv λs4 Z=>⟨σ,H4,Z,q3⟩
end
theorem ve(h:Heap)(B:sysModules<h.objs.size):bT P w H (h.push {cls:= .type "dict",data:= .dict #[]}) h.objs.size (.dK []):=
 ⟨Nat.zero_le _,beq_eq_false_iff_ne.mpr (Ne.symm (aC B)),[],.nil,Heap.DictOf.new h⟩
section
end
def oE:List (TE×TE)->St->Hp->(List (V×V)->Hp->Prop)->Prop
 |[],_,H,Q=>Q [] H
 |(tk,tv)::r,σ,H,Q=>tk σ H λx H1=>tv σ H1 λy H2=>oE r σ H2 λps H3=>Q ((x,y)::ps) H3
abbrev VV:List (V×V)->List (Value×Value)->Prop:=Paired λp q=>RelV p.1 q.1/\RelV p.2 q.2
def CF(X:Cx)(pos:Pos)(keys:List (Option Expr))(values:List Expr)(trs:List (TE×TE)):Prop:=
 ∀(pins:List (Addr×Obj))(s:Shared)(σ:St)(H:Hp)(Q:List (V×V)->Hp->Prop),Inv X pins σ H s->oE trs σ H Q->
  wpAny (model X.prog X.w) X.A (evalPairs (pairTrees keys values X.env pos)) (λvs s'=>∃ps H',Inv X pins σ H' s'/\VV ps vs/\Q ps H') X.xe s
theorem wL{pos:Pos}:CF X pos [] [] []:=λpins s σ H Q I h=>pairTrees_nil_walk ⟨[],H,I,.nil,h⟩
theorem ug{pos:Pos}{k v:Expr}{ks:List (Option Expr)}{vs:List Expr}{tk tv:TE}{B:List (TE×TE)}(hk:PE X k tk)(Y:PE X v tv)(Z:CF X pos ks vs B):
  CF X pos (some k::ks) (v::vs) ((tk,tv)::B):=λpins s σ H Q I h=>
 pairTrees_cons_walk (bL (hk pins s σ H _ I h) λu U ⟨x,H1,I1,rx,q1⟩=>bL (Y pins U σ H1 _ I1 q1) λw2 J ⟨y,H2,I2,ry,q2⟩=>
  bL (Z pins J σ H2 _ I2 q2) λws s3 ⟨ps,H3,I3,rel,q3⟩=>⟨(x,y)::ps,H3,I3,.cons ⟨rx,ry⟩ rel,q3⟩)
def jJ(kvs more:List (Key×V)):List (Key×V):=more.foldl (λacc kv=>putK acc kv.1 kv.2) kvs
theorem KV.merge:∀{more:List (Key×V)}{rs:List (Key×Value)}{kvs:List (Key×V)}{vs:List (Key×Value)},KV more rs->KV kvs vs->KV (jJ kvs more) (merged vs rs):=by
 intro more rs kvs vs r;unfold KV at r
 induction r generalizing kvs vs with
 |nil=>intro q;exact q
 | @cons p q ps qs h t ih=>
  intro B
  have e:KV (putK kvs p.1 p.2) (stored vs q.1 q.2):=by have:=B.put p.1 h.2;rw[<-h.1];exact this
  exact ih e
theorem fY:∀(more kvs:List (Key×V)),(jJ kvs more).length<=kvs.length+more.length
 |[],kvs=>by show kvs.length<=kvs.length+0;omega
 |p::r,kvs=>by have h1:=fY r (putK kvs p.1 p.2);have B:=cW kvs p.1 p.2;show(jJ (putK kvs p.1 p.2) r).length<=_;rw[List.length_cons];omega
theorem ke{P:Program}{w:World}:∀{kvs:List (Key×V)}{ws:List (Value×Value)},VV (kvs.map λkv=>(kV kv.1,kv.2)) ws->∃rs,Carries (bd P w) ws rs/\KV kvs rs
 |[],_,r=>by rw[List.map_nil] at r;cases r;exact⟨[],True.intro,.nil⟩
 |p::kvs,_,r=>by
  rw[List.map_cons] at r;cases r with
  | @cons a b as bs h t=>obtain⟨rs,c,q⟩:=ke (P:=P) (w:=w) t;obtain⟨I,B⟩:=b;exact⟨(p.1,B)::rs,⟨fZ h.1,rfl,c⟩,.cons ⟨rfl,h.2⟩ q⟩
def Ba(trs:List (TE×TE)):TE:=λσ H Q=>∀p,H p=none->oE trs σ (upd H p (.dK [])) λps H2=>H2 p=some (.dK [])/\∃kvs:List (Key×V),ps=kvs.map (λkv=>(kV kv.1,kv.2))/\kvs.length<=15/\Q (.ref p) (upd H2 p (.dK (jJ [] kvs)))
theorem wS{pos:Pos}{keys:List (Option Expr)}{values:List Expr}{B:List (TE×TE)}(h:CF X pos keys values B)(J:keys.all (·.isSome)=true)(hl:keys.length=values.length)(h0:keys≠[])
  (Y:keys.length<=15):PE X (.Dict keys values pos) (Ba B):=by
 intro pins s σ H Q I q;have hn:=I.hok.fresh (ac s.heap.objs.size);have I1:=I.laid (a:=s.heap.objs.size) (o:= .dK []) (h':=s.heap.push {cls:= .type "dict",data:= .dict #[]}) (t':=s.toks) (λ_ _ q=>ah _ q) (ac _) (ve s.heap I.big);refine wpAny_Dict_walk (knd:=bd X.prog X.w) J hl h0 Y (bL (h pins _ σ _ _ I1 (q _ hn)) λws s2 hp=>?_);obtain⟨ps,H2,Z,rel,e,kvs,ep,lk,q2⟩:=hp;subst ep;obtain⟨rs,c,rk⟩:=ke (P:=X.prog) (w:=X.w) rel;obtain⟨z,hd,vs0,r0,dd⟩:=j5 Z.hok e;cases r0;refine⟨rs,c,dd,λh' U hs=>⟨.ref s.heap.objs.size,_,?_,rfl,q2⟩⟩
 have hz:(jJ [] kvs).length<=sizeLine:=by have h1:=fY kvs [];rw[List.length_nil] at h1;rw[sizeLine_eq];omega
 have he:∃q,h'.get? s.heap.objs.size=some q:=let⟨q,_,_,hq,_⟩:=U;⟨q,hq⟩;exact jd Z (by rw[e];exact True.intro) hs he (j6 hz hd (rk.merge .nil) U)
structure M1(X:Cx)(o:Expr)(m:Str)(apos:Pos)(e:Expr)(cpos:Pos):Prop where
 base:attributeBase o m X.env (eval o X.env)=eval o X.env
 few:((backTo cpos (starEach [e] X.env)).all (λx=> !x.1)&&(backToKw cpos (keywordEach [] X.env)).all (λx=>x.1.isSome)
  &&decide (([e]:List Expr).length+([]:List Keyword).length+(if([]:List Keyword).isEmpty then 0 else 1)<30))=true
 line:(apos.endLine==cpos.line)=true
 trees:backTo cpos (starEach [e] X.env)=[(false,eval e X.env)]
structure M2(X:Cx)(o:Expr)(m:Str)(apos:Pos)(e f:Expr)(cpos:Pos):Prop where
 base:attributeBase o m X.env (eval o X.env)=eval o X.env
 few:((backTo cpos (starEach [e,f] X.env)).all (λx=> !x.1)&&(backToKw cpos (keywordEach [] X.env)).all (λx=>x.1.isSome)
  &&decide (([e,f]:List Expr).length+([]:List Keyword).length+(if([]:List Keyword).isEmpty then 0 else 1)<30))=true
 line:(apos.endLine==cpos.line)=true
 trees:backTo cpos (starEach [e,f] X.env)=[(false,eval e X.env),(false,eval f X.env)]
def CJ(H:Hp)(a:Addr):Prop:=(∃kvs,Rd H a (.dK kvs))∨∃kvs,Rd H a (.dT kvs)
theorem eE{pins:List (Addr×Obj)}{σ:St}{s:Shared}(I:Inv X pins σ H s)(d:CJ H a):
  s.TypeIs (.ref a) "dict" /\(∀b,Value.ref a=.ref b->∃B,s.heap.get? b=some B/\B.dict=none)/\(a==sysModules)=false:=by
 rcases d with⟨kvs,e⟩|⟨kvs,e⟩
 ·obtain⟨_,hd,vs,_,J⟩:=f8 I.hok e;refine⟨J.typeIs,λb q=>?_,hd⟩;cases q;obtain⟨B,_,_,h1,U,_⟩:=J;exact⟨B,h1,U.2.1⟩
 ·obtain⟨_,hd,xs,_,J⟩:=iO I.hok e;refine⟨J.typeIs,λb q=>?_,hd⟩;cases q;obtain⟨B,_,_,h1,U,_⟩:=J;exact⟨B,h1,U.2.1⟩
section
variable{X:Cx}{pins:List (Addr×Obj)}{σ:St}{H:Hp}{s:Shared}{a:Addr}{y d:V}{u r:Value}{o:Option V}{A:Around}{E:Value->Shared->Prop}
theorem Ax(Y:A.units+1<cLine)(I:Inv X pins σ H s)(g:fW H a y o)(U:RelV y u)(h:∀J s',Inv X pins σ H s'->RelV (o.getD .non) J->Q J s'):
  wpAny (model X.prog X.w) A (call (.builtin "dict.get") [.ref a,u]) Q E s:=by
 rcases g with⟨kvs,k,e,ey,l⟩|⟨kvs,k,b,e,ey,eb,l⟩
 ·subst ey;obtain⟨z,hd,vs,rel,B⟩:=f8 I.hok e;refine call_meetsIn PySem.F.slot_dict_get B.typeIs PySem.F.entry_dict_get (PySem.F.args_dict_get_2 _ _) (meets_dict_get (bd X.prog X.w) a (fZ U) hd) ⟨_,B.mapOf,h _ _ (I.tok _) ?_⟩;rw[l];exact(rel.val k).getD rfl
 ·subst ey;cases(show u=Value.ref b from U);obtain⟨z,hd,xs,rel,B⟩:=iO I.hok e;refine call_meetsIn PySem.F.slot_dict_get B.typeIs PySem.F.entry_dict_get (PySem.F.args_dict_get_2 _ _) (meetsH_dict_get (tupleKind (bd X.prog X.w)) a b hd) ⟨tupleKind_room_in1 Y,k,xs,gj I.hok eb,B,h _ _ (I.tok _) ?_⟩;rw[l];exact(rel.val k).getD rfl
theorem Aw(Z:A.units+1<cLine)(I:Inv X pins σ H s)(g:fW H a y o)(U:RelV y u)(Y:RelV d r)(h:∀J s',Inv X pins σ H s'->RelV (o.getD d) J->Q J s'):
  wpAny (model X.prog X.w) A (call (.builtin "dict.get") [.ref a,u,r]) Q E s:=by
 rcases g with⟨kvs,k,e,ey,l⟩|⟨kvs,k,b,e,ey,eb,l⟩
 ·subst ey;obtain⟨z,hd,vs,rel,B⟩:=f8 I.hok e;refine call_meetsIn PySem.F.slot_dict_get B.typeIs PySem.F.entry_dict_get (PySem.F.args_dict_get_3 _ _ _) (meets_dict_get_default (bd X.prog X.w) a (fZ U) hd r) ⟨_,B.mapOf,h _ _ (I.tok _) ?_⟩;rw[l];exact(rel.val k).getD Y
 ·subst ey;cases(show u=Value.ref b from U);obtain⟨z,hd,xs,rel,B⟩:=iO I.hok e;refine call_meetsIn PySem.F.slot_dict_get B.typeIs PySem.F.entry_dict_get (PySem.F.args_dict_get_3 _ _ _) (meetsH_dict_get_default (tupleKind (bd X.prog X.w)) a b hd r) ⟨tupleKind_room_in1 Z,k,xs,gj I.hok eb,B,h _ _ (I.tok _) ?_⟩;rw[l];exact(rel.val k).getD Y
end
def yM(td ty:TE):TE:=λσ H Q=>td σ H λx H1=>∃a,x=.ref a/\CJ H1 a/\ty σ H1 λy H2=>∃o,fW H2 a y o/\Q (o.getD .non) H2
def yL(td ty tx:TE):TE:=λσ H Q=>td σ H λx H1=>∃a,x=.ref a/\CJ H1 a/\ty σ H1 λy H2=>tx σ H2 λz H3=>∃o,fW H3 a y o/\Q (o.getD z) H3
section
variable{X:Cx}{o e f:Expr}{apos cpos:Pos}{td ty tx:TE}
theorem uo(hu:X.A.units+1<cLine)(ho:PE X o td)(he:PE X e ty)(m:M1 X o "get" apos e cpos):PE X (.Call (.Attribute o "get" apos) [e] [] cpos) (yM td ty):=by intro pins s σ H Q I h;refine wpAny_Call_method m.base m.few m.line PySem.F.plainAttrs_dict PySem.F.slot_dict_get PySem.F.type_dict_get (bL (ho pins s σ H _ I h) λu Z hp=>?_);obtain⟨x,H1,J,rx,a,ex,d,q1⟩:=hp;subst ex;obtain rfl:u=Value.ref a:=rx;obtain⟨Y,U,_⟩:=eE J d;refine⟨Y,U,?_⟩;rw[m.trees];refine Calls.callWith_builtin rfl (Calls.evalArgs_plain (Calls.spliced_cons (bL (he pins Z σ H1 _ J q1) λiv s2 ⟨y,H2,I2,ry,ov,g,q2⟩=>Calls.spliced_nil ?_)));exact Ax hu I2 g ry λw' s3 I3 B=>⟨_,H2,I3,B,q2⟩
theorem um(hu:X.A.units+1<cLine)(ho:PE X o td)(he:PE X e ty)(hf:PE X f tx)(m:M2 X o "get" apos e f cpos):PE X (.Call (.Attribute o "get" apos) [e,f] [] cpos) (yL td ty tx):=by
 intro pins s σ H Q I h;refine wpAny_Call_method m.base m.few m.line PySem.F.plainAttrs_dict PySem.F.slot_dict_get PySem.F.type_dict_get (bL (ho pins s σ H _ I h) λu s1 hp=>?_);obtain⟨x,H1,J,rx,a,ex,d,q1⟩:=hp;subst ex;obtain rfl:u=Value.ref a:=rx;obtain⟨Y,U,_⟩:=eE J d;refine⟨Y,U,?_⟩;rw[m.trees]
 refine Calls.callWith_builtin rfl (Calls.evalArgs_plain (Calls.spliced_cons (bL (he pins s1 σ H1 _ J q1) λiv Z ⟨y,H2,I2,ry,q2⟩=>
  Calls.spliced_cons (bL (hf pins Z σ H2 _ I2 q2) λfv s3 ⟨z,H3,I3,rz,ov,g,q3⟩=>Calls.spliced_nil ?_))))
 exact Aw hu I3 g ry rz λw' s4 I4 B=>⟨_,H3,I4,B,q3⟩
end
section
variable{X:Cx}{pins:List (Addr×Obj)}{σ:St}{H:Hp}{s:Shared}{a:Addr}{kvs:List (Key×V)}{A:Around}{E:Value->Shared->Prop}
theorem vn(I:Inv X pins σ H s)(e:Rd H a (.dK kvs))(h:∀p s',H p=none->Inv X pins σ (upd H p (.dK kvs)) s'->Q (.ref p) s'):wpAny (model X.prog X.w) A (call (.type "dict") [.ref a]) Q E s:=by
 obtain⟨z,hd,vs,rel,U⟩:=f8 I.hok e;refine kt_call_dict hd U (by rw[<-rel.length];exact z) λh' B hs=>?_
 refine h _ _ (I.hok.fresh (ac _)) (I.laid (a:=s.heap.objs.size) (o:= .dK kvs) (t':=s.toks) (λb q J=>?_) (ac _) (j6 z (beq_eq_false_iff_ne.mpr (Ne.symm (aC I.big))) rel B));exact(hs.2 b (aC (am J))).trans (ah _ J)
end
section
end
end L2
namespace Go
variable{f i v:Nat}
section
variable{ways:Nat->List Nat}
noncomputable def all(pile:List (Nat×Nat))(O:List Nat):List Nat:=O++pile.map (·.1)
def step(ways:Nat->List Nat):List (Nat×Nat)->List Nat->List (Nat×Nat)×List Nat
 |[],O=>([],O)
 |(v,i)::r,O=>match(ways v)[i]? with
  |none=>(r,O++[v])
  |some f=>if f∈all ((v,i)::r) O then((v,i+1)::r,O) else((f,0)::(v,i+1)::r,O)
inductive be(ways:Nat->List Nat):Nat->Prop where
 |zero:be ways 0
 |next {f v:Nat}(c:be ways f)(h:v∈ways f):be ways v
structure Inv(ways:Nat->List Nat)(pile:List (Nat×Nat))(O:List Nat):Prop where
 nd:(all pile O).Nodup
 zero:∃l,all pile O=l++[0]
 lead:∀v∈all pile O,v≠0->∃f,v∈ways f/\[v,f].Sublist (all pile O)
 cO:∀v∈O,∀w∈ways v,w∈all pile O
 cP:∀p∈pile,∀w∈(ways p.1).take p.2,w∈all pile O
 come:∀v∈all pile O,be ways v
theorem iq:Inv ways [(0,0)] []:=by
 refine⟨by simp[all],⟨[],rfl⟩,λv B U=>?_,(λv B=>nomatch B),λp J w I=>?_,λv B=>?_⟩
 ·exact absurd (by simpa[all] using B) U
 ·cases J with
  |head=>simp at I
  |tail _ h=>cases h
 ·have:v=0:=by simpa[all] using B
  subst this;exact .zero
theorem mO{v i:Nat}{r:List (Nat×Nat)}{O:List Nat}:all r (O++[v])=all ((v,i)::r) O:=by simp[all]
theorem vA{j:Nat}{r:List (Nat×Nat)}{O:List Nat}:(all ((v,i)::r) O).Sublist (all ((f,0)::(v,j)::r) O):=by unfold all;exact(List.Sublist.refl O).append (List.sublist_cons_self f _)
theorem kS{l:List Nat}{w:Nat}(h:l[i]? =some f)(B:w∈l.take (i+1)):w∈l.take i∨w=f:=by rw[List.take_add_one,h] at B;simpa using B
theorem uL{pile:List (Nat×Nat)}{O:List Nat}(I:Inv ways pile O):Inv ways (step ways pile O).1 (step ways pile O).2:=by
 cases pile with
 |nil=>exact I
 |cons p r=>
  obtain⟨v,i⟩:=p;cases q:(ways v)[i]? with
  |none=>
   rw[show step ways ((v,i)::r) O=(r,O++[v]) by simp only[step,q]]
   have e:= @mO v i r O;have hl:(ways v).take i=ways v:=List.take_of_length_le (List.getElem?_eq_none_iff.mp q);refine⟨by rw[e];exact I.nd,by rw[e];exact I.zero,by rw[e];exact I.lead,λx J w B=>?_,λp U w B=>?_,by rw[e];exact I.come⟩
   ·rw[e];rcases List.mem_append.mp J with J|J
    ·exact I.cO x J w B
    ·have:x=v:=by simpa using J
     subst this;exact I.cP (x,i) List.mem_cons_self w (by rw[hl];exact B)
   ·rw[e];exact I.cP p (List.mem_cons_of_mem _ U) w B
  |some f=>
   have hf:f∈ways v:=aj q;by_cases k:f∈all ((v,i)::r) O
   ·rw[show step ways ((v,i)::r) O=((v,i+1)::r,O) by simp only[step,q];rw[if_pos k]]
    refine⟨I.nd,I.zero,I.lead,I.cO,λp U w B=>?_,I.come⟩;rcases List.mem_cons.mp U with rfl|U
    ·rcases kS q B with B|rfl
     ·exact I.cP (v,i) List.mem_cons_self w B
     ·exact k
    ·exact I.cP p (List.mem_cons_of_mem _ U) w B
   ·rw[show step ways ((v,i)::r) O=((f,0)::(v,i+1)::r,O) by simp only[step,q];rw[if_neg k]]
    have sb:(all ((v,i)::r) O).Sublist (all ((f,0)::(v,i+1)::r) O):=vA
    have hm:∀{w},w∈all ((f,0)::(v,i+1)::r) O↔w=f∨w∈all ((v,i)::r) O:=λ{w}=>by
     simp only[all,List.map_cons,List.mem_append,List.mem_cons];constructor
     ·rintro(h|h|h|h)
      ·exact .inr (.inl h)
      ·exact .inl h
      ·exact .inr (.inr (.inl h))
      ·exact .inr (.inr (.inr h))
     ·rintro(h|h|h|h)
      ·exact .inr (.inl h)
      ·exact .inl h
      ·exact .inr (.inr (.inl h))
      ·exact .inr (.inr (.inr h))
    refine⟨?_,?_,λx J hn=>?_,λx J w B=>hm.mpr (.inr (I.cO x J w B)),λp U w B=>?_,λx J=>?_⟩
    ·have nd:=I.nd;unfold all at nd k ⊢;simp only[List.map_cons] at nd k ⊢;rw[List.nodup_append] at nd ⊢;simp only[List.mem_append] at k;refine⟨nd.1,List.nodup_cons.mpr ⟨λh=>k (.inr h),nd.2.1⟩,λa ha b hb=>?_⟩;rcases List.mem_cons.mp hb with rfl|hb
     ·exact λz=>k (.inl (z▸ha))
     ·exact nd.2.2 a ha b hb
    ·obtain⟨l,hl⟩:=I.zero;have:∃l',(v,i+1)::r=l'++[]:=⟨_,(List.append_nil _).symm⟩;unfold all at hl ⊢;simp only[List.map_cons] at hl ⊢;have Y:(v::r.map (·.1))≠[]:=by simp
     refine⟨O++f::(v::r.map (·.1)).dropLast,?_⟩
     have Z:(v::r.map (·.1)).getLast Y=0:=by
      have h1:(O++v::r.map (·.1)).getLast (by simp)=0:=by simp only[hl,List.getLast_append,List.getLast_singleton];simp
      rw[List.getLast_append_of_ne_nil (by simp) Y] at h1
      exact h1
     have h2:=List.dropLast_concat_getLast Y;rw[Z] at h2;rw[List.append_assoc,List.cons_append,h2]
    ·rcases hm.mp J with rfl|J
     ·refine⟨v,hf,?_⟩;unfold all;simp only[List.map_cons];exact(List.nil_sublist O).append (.cons_cons _ (.cons_cons _ (List.nil_sublist _)))
     ·obtain⟨g,h1,h2⟩:=I.lead x J hn;exact⟨g,h1,h2.trans sb⟩
    ·rcases List.mem_cons.mp U with rfl|U
     ·simp at B
     ·rcases List.mem_cons.mp U with rfl|U
      ·rcases kS q B with B|rfl
       ·exact hm.mpr (.inr (I.cP (v,i) List.mem_cons_self w B))
       ·exact hm.mpr (.inl rfl)
      ·exact hm.mpr (.inr (I.cP p (List.mem_cons_of_mem _ U) w B))
    ·rcases hm.mp J with rfl|J
     ·exact .next (I.come v (by simp[all])) hf
     ·exact I.come x J
theorem qB{O:List Nat}(I:Inv ways [] O):v∈O↔be ways v:=by
 have e:all [] O=O:=by simp[all]
 constructor
 ·intro h;exact I.come v (by rw[e];exact h)
 ·intro h
  induction h with
  |zero=>obtain⟨l,B⟩:=I.zero;rw[e] at B;rw[B];simp
  |next c h ih=>have:=I.cO _ ih _ h;rwa [e] at this
theorem lP:∀{l:List Nat}{a b:Nat},l.Nodup->[a,b].Sublist l->l.idxOf a<l.idxOf b
 |[],_,_,_,h=>by cases h
 |x::l,a,b,nd,h=>by
  obtain⟨h1,U⟩:=List.nodup_cons.mp nd;rw[List.idxOf_cons,List.idxOf_cons];cases h with
  |cons _ h=>
   have J:a∈l:=h.subset List.mem_cons_self;have B:b∈l:=h.subset (List.mem_cons_of_mem _ List.mem_cons_self);have Y:(x==a)=false:=by simp;intro z;subst z;exact h1 J
   have I:(x==b)=false:=by simp;intro z;subst z;exact h1 B
   rw[Y,I];have:=lP U h;simp only[cond_false];omega
  |cons_cons _ h=>
   have B:b∈l:=h.subset List.mem_cons_self;have I:(x==b)=false:=by simp;intro z;subst z;exact h1 B
   rw[I];simp
theorem qE:∀{l:List Nat}{a b:Nat},a∈l->b∈l->l.idxOf a=l.idxOf b->a=b
 |[],_,_,h,_,_=>by cases h
 |x::l,a,b,ha,hb,e=>by
  rw[List.idxOf_cons,List.idxOf_cons] at e;by_cases ea:x=a
  ·by_cases eb:x=b
   ·rw[<-ea,<-eb]
   ·have h1:(x==a)=true:=by simpa using ea
    have B:(x==b)=false:=by simpa using eb
    rw[h1,B] at e;simp at e
  ·by_cases eb:x=b
   ·have h1:(x==a)=false:=by simpa using ea
    have B:(x==b)=true:=by simpa using eb
    rw[h1,B] at e;simp at e
   ·have h1:(x==a)=false:=by simpa using ea
    have B:(x==b)=false:=by simpa using eb
    rw[h1,B] at e
    have J:a∈l:=by
     rcases List.mem_cons.mp ha with z|z
     ·exact absurd z.symm ea
     ·exact z
    have I:b∈l:=by
     rcases List.mem_cons.mp hb with z|z
     ·exact absurd z.symm eb
     ·exact z
    exact qE J I (by simpa using e)
theorem rT{O:List Nat}(I:Inv ways [] O){x:Nat}(U:x∈O):O.idxOf x<=O.idxOf 0:=by
 have e:all [] O=O:=by simp[all]
 obtain⟨l,J⟩:=I.zero;have nd:=I.nd;rw[e] at J nd;by_cases z:x=0
 ·subst z;exact ac _
 ·rw[J] at U;have B:x∈l:=by simpa[z] using U
  refine Nat.le_of_lt (lP nd ?_);rw[J];exact List.Sublist.append (List.singleton_sublist.mpr B) (List.Sublist.refl [0])
theorem rV{O:List Nat}(I:Inv ways [] O){b:Nat}(U:b∈O)(J:b≠0):∃f,b∈ways f/\f∈O/\O.idxOf b<O.idxOf f:=by
 have e:all [] O=O:=by simp[all]
 have nd:=I.nd;rw[e] at nd;obtain⟨f,h1,B⟩:=I.lead b (by rw[e];exact U) J
 rw[e] at B;exact⟨f,h1,B.subset (by simp),lP nd B⟩
theorem i6{w:Nat->Nat}{p q:Nat->Bool}{f:Nat}(Y:p f=true)(U:q f=false)(I:∀x,x≠f->q x=p x):∀{l:List Nat},l.Nodup->f∈l->((l.filter p).map w).sum=((l.filter q).map w).sum+w f
 |[],_,h=>by cases h
 |x::l,nd,h=>by
  obtain⟨h1,h2⟩:=List.nodup_cons.mp nd;by_cases e:x=f
  ·subst e;have same:∀{m:List Nat},x∉m->m.filter p=m.filter q:=λ{m} B=>List.filter_congr λy Z=>(I y λz=>B (z▸Z)).symm;rw[List.filter_cons_of_pos Y,List.filter_cons_of_neg (by simp[U]),same h1,List.map_cons,List.sum_cons,Nat.add_comm]
  ·have B:f∈l:=by
    rcases List.mem_cons.mp h with z|z
    ·exact absurd z.symm e
    ·exact z
   have J:=i6 (w:=w) Y U I h2 B;have ex:=I x e;cases k:p x with
   |true=>
    rw[List.filter_cons_of_pos k,List.filter_cons_of_pos (by rw[ex];exact k),List.map_cons,List.map_cons,List.sum_cons,List.sum_cons,J]
    omega
   |false=>
    rw[List.filter_cons_of_neg (by simp[k]),List.filter_cons_of_neg (by simp[ex,k])]
    exact J
def left(ways:Nat->List Nat)(n:Nat)(pile:List (Nat×Nat))(O:List Nat):Nat:=(((List.range n).filter λv=>decide (v∉all pile O)).map λv=>(ways v).length+1).sum+(pile.map λp=>(ways p.1).length - p.2+1).sum
theorem r_{n:Nat}{r:List (Nat×Nat)}{O:List Nat}(J:∀v f,f∈ways v->f<n):left ways n (step ways ((v,i)::r) O).1 (step ways ((v,i)::r) O).2<left ways n ((v,i)::r) O:=by
 cases q:(ways v)[i]? with
 |none=>
  rw[show step ways ((v,i)::r) O=(r,O++[v]) by simp only[step,q]]
  unfold left;dsimp only;rw[@mO v i r O,List.map_cons,List.sum_cons];omega
 |some f=>
  have U:f∈ways v:=aj q;have hi:i<(ways v).length:=(av q).1;by_cases k:f∈all ((v,i)::r) O
  ·rw[show step ways ((v,i)::r) O=((v,i+1)::r,O) by simp only[step,q];rw[if_pos k]]
   unfold left;rw[show all ((v,i+1)::r) O=all ((v,i)::r) O from rfl,List.map_cons,List.map_cons,List.sum_cons,List.sum_cons];dsimp only;omega
  ·rw[show step ways ((v,i)::r) O=((f,0)::(v,i+1)::r,O) by simp only[step,q];rw[if_neg k]]
   unfold left
   have B:∀x,x∈all ((f,0)::(v,i+1)::r) O↔x=f∨x∈all ((v,i)::r) O:=λx=>by
    simp only[all,List.map_cons,List.mem_append,List.mem_cons];constructor
    ·rintro(h|h|h|h)
     ·exact .inr (.inl h)
     ·exact .inl h
     ·exact .inr (.inr (.inl h))
     ·exact .inr (.inr (.inr h))
    ·rintro(h|h|h|h)
     ·exact .inr (.inl h)
     ·exact .inl h
     ·exact .inr (.inr (.inl h))
     ·exact .inr (.inr (.inr h))
   have s:=i6 (w:=λv=>(ways v).length+1) (p:=λx=>decide (x∉all ((v,i)::r) O)) (q:=λx=>decide (x∉all ((f,0)::(v,i+1)::r) O)) (f:=f) (by simpa using k) (by simp[B]) (λx I=>by simp[B,I]) (List.nodup_range (n:=n)) (List.mem_range.mpr (J v f U))
   rw[s,List.map_cons,List.map_cons,List.map_cons,List.sum_cons,List.sum_cons,List.sum_cons];dsimp only;omega
end
end Go
namespace Dom
variable{b c r x y:Nat}{l l1 l2:List Nat}
section
variable{E:Nat->Nat->Prop}{rank:Nat->Nat}{N:Nat->Option Nat}
inductive Way(E:Nat->Nat->Prop):List Nat->Nat->Prop where
 |nil:Way E [0] 0
 |cons {l:List Nat}{x y:Nat}(w:Way E l x)(e:E x y):Way E (y::l) y
noncomputable def ca(E:Nat->Nat->Prop)(d x:Nat):Prop:=∀l,Way E l x->d∈l
noncomputable def be(E:Nat->Nat->Prop)(x:Nat):Prop:=∃l,Way E l x
theorem Way.last(w:Way E l x):x∈l:=by
 cases w with
 |nil=>exact List.mem_cons_self
 |cons w e=>exact List.mem_cons_self
theorem oR:ca E x x:=λ_ w=>w.last
theorem ca.lead{d:Nat}(h:ca E d y)(B:d≠y)(e:E x y):ca E d x:=λl w=>by
 rcases List.mem_cons.mp (h _ (.cons w e)) with z|z
 ·exact absurd z B
 ·exact z
inductive Chain(N:Nat->Option Nat):Nat->Nat->Prop where
 |self {x y:Nat}(h:N x=some y):Chain N x x
 |step {x y c:Nat}(hx:x≠0)(h:N x=some y)(t:Chain N y c):Chain N x c
structure Rk(E:Nat->Nat->Prop)(rank:Nat->Nat):Prop where
 inj:∀x y,be E x->be E y->rank x=rank y->x=y
 top:∀x,be E x->rank x<=rank 0
structure Ok(E:Nat->Nat->Prop)(rank:Nat->Nat)(N:Nat->Option Nat):Prop where
 zero:N 0=some 0
 dom:∀x y,N x=some y->be E x
 up:∀x y,x≠0->N x=some y->rank x<rank y/\∃z,N y=some z
 rul:∀x y d,x≠0->N x=some y->ca E d x->d≠x->ca E d y
theorem Chain.le(K:Ok E rank N)(t:Chain N x c):rank x<=rank c/\(rank x=rank c->x=c):=by
 induction t with
 |self h=>exact⟨ac _,λ_=>rfl⟩
 | @step x y c hx h t ih=>
  have:=(K.up x y hx h).1;exact⟨by omega,λe=>by omega⟩
theorem Chain.trans(t:Chain N x y)(u:Chain N y c):Chain N x c:=by
 induction t with
 |self h=>exact u
 |step hx h _ ih=>exact .step hx h (ih u)
noncomputable def f9(rank:Nat->Nat)(N:Nat->Option Nat):Nat->Nat->Nat->Option Nat
 |0,_,_=>none
 |k+1,a,b=>if a=b then some a else if rank a<rank b then(N a).bind λa'=>f9 rank N k a' b else(N b).bind λb'=>f9 rank N k a b'
theorem j9(R:Rk E rank)(K:Ok E rank N):∀(k a b:Nat),(∃y,N a=some y)->(∃y,N b=some y)->(rank 0 - rank a)+(rank 0 - rank b)<k->∃r,f9 rank N k a b=some r/\(∃y,N r=some y)/\∀c,Chain N r c↔Chain N a c/\Chain N b c
 |0,a,b,_,_,h=>by omega
 |k+1,a,b,⟨ya,ha⟩,⟨yb,hb⟩,h=>by
  unfold f9;by_cases e:a=b
  ·subst e;rw[if_pos rfl];exact⟨a,rfl,⟨ya,ha⟩,λc=>⟨λt=>⟨t,t⟩,λt=>t.1⟩⟩
  ·rw[if_neg e];have ta:=R.top a (K.dom a ya ha);have tb:=R.top b (K.dom b yb hb);by_cases hr:rank a<rank b
   ·rw[if_pos hr,ha];have J:a≠0:=λz=>by subst z;omega
    obtain⟨u1,B,I⟩:=K.up a ya J ha;have t2:=R.top ya (K.dom ya B I);obtain⟨r,Z,Y,U⟩:=j9 R K k ya b ⟨B,I⟩ ⟨yb,hb⟩ (by omega)
    refine⟨r,Z,Y,λc=>?_⟩;rw[U];refine⟨λt=>⟨.step J ha t.1,t.2⟩,λt=>⟨?_,t.2⟩⟩;cases t.1 with
    |self _=>have:=(t.2.le K).1;omega
    |step _ h' t'=>rw[ha] at h';cases h';exact t'
   ·rw[if_neg hr,hb];have hne:rank a≠rank b:=λz=>e (R.inj a b (K.dom a _ ha) (K.dom b _ hb) z);have J:b≠0:=λz=>by subst z;omega
    obtain⟨u1,B,I⟩:=K.up b yb J hb;have t2:=R.top yb (K.dom yb B I);obtain⟨r,Z,Y,U⟩:=j9 R K k a yb ⟨ya,ha⟩ ⟨B,I⟩ (by omega)
    refine⟨r,Z,Y,λc=>?_⟩;rw[U];refine⟨λt=>⟨t.1,.step J hb t.2⟩,λt=>⟨t.1,?_⟩⟩;cases t.2 with
    |self _=>have:=(t.1.le K).1;omega
    |step _ h' t'=>rw[hb] at h';cases h';exact t'
def meet(rank:Nat->Nat)(N:Nat->Option Nat)(k:Nat):Nat->List Nat->Option Nat
 |r,[]=>some r
 |r,p::ps=>(f9 rank N k p r).bind λr'=>meet rank N k r' ps
theorem qw(R:Rk E rank)(K:Ok E rank N){k:Nat}(U:2*rank 0<k):∀(ps:List Nat)(r:Nat),(∃y,N r=some y)->(∀p∈ps,∃y,N p=some y)->∃q,meet rank N k r ps=some q/\(∃y,N q=some y)/\∀c,Chain N q c↔Chain N r c/\∀p∈ps,Chain N p c
 |[],r,hr,_=>⟨r,rfl,hr,λc=>⟨λt=>⟨t,λ_ h=>nomatch h⟩,λt=>t.1⟩⟩
 |p::ps,r,hr,hp=>by
  obtain⟨q,e1,e2,e3⟩:=j9 R K k p r (hp p List.mem_cons_self) hr (by omega)
  obtain⟨J,f1,Z,Y⟩:=qw R K U ps q e2 λp I=>hp p (List.mem_cons_of_mem _ I);refine⟨J,?_,Z,λc=>?_⟩
  ·show(f9 rank N k p r).bind _=_;rw[e1];exact f1
  ·rw[Y,e3];refine⟨λt=>⟨t.1.2,λB h=>?_⟩,λt=>⟨⟨t.2 p List.mem_cons_self,t.1⟩,λB h=>t.2 B (List.mem_cons_of_mem _ h)⟩⟩;rcases List.mem_cons.mp h with rfl|h
   ·exact t.1.1
   ·exact t.2 B h
noncomputable def put(N:Nat->Option Nat)(b r:Nat):Nat->Option Nat:=λx=>if x=b then some r else N x
theorem bm:put N b r b=some r:=by simp[put]
theorem bH(h:x≠b):put N b r x=N x:=by simp[put,h]
theorem jF(R:Rk E rank)(K:Ok E rank N){d:Nat}:∀(k x:Nat),rank 0 - rank x<k->(∃y,N x=some y)->ca E d x->Chain N x d/\∀c,Chain N x c->Chain N c d->ca E d c
 |0,x,h,_,_=>by omega
 |k+1,x,h,⟨y,hy⟩,hr=>by
  by_cases e:d=x
  ·subst e;refine⟨.self hy,λc t u=>?_⟩;have h1:=t.le K;have U:=u.le K;have:d=c:=h1.2 (by omega)
   subst this;exact hr
  ·have B:x≠0:=λz=>by
    subst z;have:=hr [0] .nil;exact e (by simpa using this)
   obtain⟨J,z,I⟩:=K.up x y B hy;have ty:=R.top y (K.dom y z I);obtain⟨q1,q2⟩:=jF R K k y (by omega) ⟨z,I⟩ (K.rul x y d B hy hr e)
   refine⟨.step B hy q1,λc t u=>?_⟩;cases t with
   |self _=>exact hr
   |step _ h' t'=>rw[hy] at h';cases h';exact q2 c t' u
theorem Ok.put(R:Rk E rank)(K:Ok E rank N){b r J:Nat}{ps:List Nat}(hb:b≠0)(cb:be E b)(I:J∈ps)(h0:rank b<rank J)(Y:∀p∈ps,E p b/\∃y,N p=some y)(hr:∃y,N r=some y)
  (hc:∀c,Chain N r c↔∀p∈ps,Chain N p c):Ok E rank (put N b r)/\rank b<rank r:=by
 obtain⟨yr,B⟩:=hr
 have U:rank b<rank r:=by have:=(((hc r).mp (.self B) J I).le K).1;omega
 have hne:r≠b:=λz=>by subst z;omega
 refine⟨⟨by rw[bH (Ne.symm hb)];exact K.zero,λx y h=>?_,λx y hx h=>?_,λx y d hx h hd hn=>?_⟩,U⟩
 ·by_cases e:x=b
  ·subst e;exact cb
  ·rw[bH e] at h;exact K.dom x y h
 ·by_cases e:x=b
  ·subst e;rw[bm] at h;cases h;exact⟨U,yr,by rw[bH hne];exact B⟩
  ·rw[bH e] at h;obtain⟨u1,z,u2⟩:=K.up x y hx h;refine⟨u1,?_⟩;by_cases e2:y=b
   ·subst e2;exact⟨r,bm⟩
   ·exact⟨z,by rw[bH e2];exact u2⟩
 ·by_cases e:x=b
  ·subst e;rw[bm] at h;cases h;have key:∀p∈ps,Chain N p d/\∀c,Chain N p c->Chain N c d->ca E d c:=λp Z=>jF R K (rank 0 - rank p+1) p (by omega) (Y p Z).2 (hd.lead hn (Y p Z).1)
   exact(key J I).2 r ((hc r).mp (.self B) J I) ((hc d).mpr λp Z=>(key p Z).1)
  ·rw[bH e] at h;exact K.rul x y d hx h hd hn
theorem su(B:∀x b r,b≠0->N b=some r->E x b->be E x->∀c,Chain N r c->Chain N x c)(w:Way E l b):∀c,Chain N b c->c∈l:=by
 induction w with
 |nil=>
  intro c t;cases t with
  |self _=>exact List.mem_cons_self
  |step hz _ _=>exact absurd rfl hz
 | @cons l x y w e ih=>
  intro c t;cases t with
  |self _=>exact List.mem_cons_self
  |step hz h t=>exact List.mem_cons_of_mem _ (ih c (B x y _ hz h e ⟨l,w⟩ c t))
theorem rM(R:Rk E rank)(K:Ok E rank N)(I:∀x b r,b≠0->N b=some r->E x b->be E x->∀c,Chain N r c->Chain N x c)(B:∃y,N b=some y):Chain N b c↔ca E c b:=
 ⟨λt l w=>su I w c t,λh=>(jF R K (rank 0 - rank b+1) b (by omega) B h).1⟩
theorem gt{P:Nat->Option Nat}(h:∀x y,N x=some y->∃z,P x=some z/\(x≠0->Chain P z y))(t:Chain N x c):Chain P x c:=by
 induction t with
 | @self x y hx=>obtain⟨z,B,_⟩:=h x y hx;exact .self B
 | @step x y c hn hx t ih=>obtain⟨z,B,q⟩:=h x y hx;exact .step hn B ((q hn).trans ih)
theorem D8(K:Ok E rank N){a:Nat}(t:Chain N x a)(u:Chain N x b)(h:rank a<=rank b):Chain N a b:=by
 induction t with
 |self _=>exact u
 | @step x y a hx hy t ih=>
  have h1:=(K.up x y hx hy).1;have B:=(t.le K).1;cases u with
  |self _=>omega
  |step _ h' u'=>rw[hy] at h';cases h';exact ih u' h
noncomputable def mix(rank:Nat->Nat)(P Q:Nat->Option Nat)(t:Nat):Nat->Option Nat:=λx=>if t<rank x then Q x else P x
variable{P Q:Nat->Option Nat}{t:Nat}
theorem bZ(h:t<rank x):mix rank P Q t x=Q x:=by simp[mix,h]
theorem cL(h:¬t<rank x):mix rank P Q t x=P x:=by simp[mix,h]
theorem Ok.mix(KP:Ok E rank P)(KQ:Ok E rank Q)(Z:∀x,be E x->∃y,P x=some y)(Y:∀x,be E x->∃y,Q x=some y):Ok E rank (mix rank P Q t):=by
 have U:∀x,be E x->∃y,Dom.mix rank P Q t x=some y:=λx h=>by
  by_cases e:t<rank x
  ·rw[bZ e];exact Y x h
  ·rw[cL e];exact Z x h
 refine⟨?_,λx y h=>?_,λx y B h=>?_,λx y d B h=>?_⟩
 ·by_cases e:t<rank 0
  ·rw[bZ e];exact KQ.zero
  ·rw[cL e];exact KP.zero
 all_goals by_cases e:t<rank x
 ·rw[bZ e] at h;exact KQ.dom x y h
 ·rw[cL e] at h;exact KP.dom x y h
 ·rw[bZ e] at h;obtain⟨J,z,I⟩:=KQ.up x y B h;exact⟨J,U y (KQ.dom y z I)⟩
 ·rw[cL e] at h;obtain⟨J,z,I⟩:=KP.up x y B h;exact⟨J,U y (KP.dom y z I)⟩
 ·rw[bZ e] at h;exact KQ.rul x y d B h
 ·rw[cL e] at h;exact KP.rul x y d B h
theorem gf(KQ:Ok E rank Q)(h:t<rank x):Chain (mix rank P Q t) x c↔Chain Q x c:=by
 constructor
 ·intro u
  induction u with
  |self hy=>rw[bZ h] at hy;exact .self hy
  | @step x y c hx hy u ih=>rw[bZ h] at hy;exact .step hx hy (ih (Nat.lt_trans h (KQ.up x y hx hy).1))
 ·intro u
  induction u with
  |self hy=>exact .self (by rw[bZ h];exact hy)
  | @step x y c hx hy u ih=>exact .step hx (by rw[bZ h];exact hy) (ih (Nat.lt_trans h (KQ.up x y hx hy).1))
theorem low(KP:Ok E rank P)(I:∀x,be E x->∃y,Q x=some y)(u:Chain P x r)(h:rank r<=t+1):Chain (mix rank P Q t) x r:=by
 induction u with
 | @self x y hy=>
  by_cases e:t<rank x
  ·obtain⟨z,B⟩:=I x (KP.dom x y hy);exact .self (y:=z) (by rw[bZ e];exact B)
  ·exact .self (y:=y) (by rw[cL e];exact hy)
 | @step x y c hx hy u ih=>
  have h1:=(KP.up x y hx hy).1;have J:=(u.le KP).1;exact .step hx (y:=y) (by rw[cL (by omega)];exact hy) (ih h)
structure dI(E:Nat->Nat->Prop)(rank:Nat->Nat)(P:Nat->Option Nat):Prop where
 ok:Ok E rank P
 all:∀x,be E x->∃y,P x=some y
 met:∀b r,b≠0->P b=some r->∀c,(∀p,E p b->be E p->Chain P p c)->Chain P r c
 fwd:∀b r f,b≠0->P b=some r->E f b->be E f->rank b<rank f->Chain P f r
structure Turn(E:Nat->Nat->Prop)(rank:Nat->Nat)(P Q:Nat->Option Nat):Prop where
 ok:Ok E rank Q
 all:∀x,be E x->∃y,Q x=some y
 eq:∀b q,b≠0->Q b=some q->∀c,Chain (mix rank P Q (rank b)) q c↔∀p,E p b->be E p->Chain (mix rank P Q (rank b)) p c
theorem lM(R:Rk E rank)(F:dI E rank P)(T:Turn E rank P Q):∀(k y r q:Nat),rank 0 - rank y<k->y≠0->P y=some r->Q y=some q->Chain P r q
 |0,y,r,q,h,_,_,_=>by omega
 |k+1,y,r,q,h,hy,hr,hq=>by
  have sub:∀x c,Chain (mix rank P Q (rank y)) x c->Chain P x c:=λx c u=>gt (λx z B=>by
   by_cases e:rank y<rank x
   ·rw[bZ e] at B;obtain⟨w,U⟩:=F.all x (T.ok.dom x z B);have:=R.top x (T.ok.dom x z B);exact⟨w,U,λJ=>lM R F T k x w z (by omega) J U B⟩
   ·rw[cL e] at B;refine⟨z,B,λJ=>?_⟩;obtain⟨_,v,I⟩:=F.ok.up x z J B;exact .self I) u
  obtain⟨Y,v,I⟩:=T.ok.up y q hy hq;have hs:Chain (mix rank P Q (rank y)) q q:= .self (y:=v) (by rw[bZ Y];exact I)
  exact F.met y r hy hr q λp e Z=>sub _ _ ((T.eq y q hy hq q).mp hs p e Z)
theorem m3(R:Rk E rank)(F:dI E rank P)(T:Turn E rank P Q)(par:∀b,b≠0->be E b->∃f,E f b/\be E f/\rank b<rank f):
  ∀(k t y r q:Nat),rank 0 - rank y<k->y≠0->rank y<=t->P y=some r->Q y=some q->Chain (mix rank P Q t) r q
 |0,t,y,r,q,h,_,_,_,_=>by omega
 |k+1,t,y,r,q,h,hy,ht,hr,hq=>by
  obtain⟨f,e,hf,hlt⟩:=par y hy (F.ok.dom y r hr);obtain⟨u1,v,hv⟩:=T.ok.up y q hy hq;have hs:Chain (mix rank P Q (rank y)) q q:= .self (y:=v) (by rw[bZ u1];exact hv)
  have A0:=(T.eq y q hy hq q).mp hs f e hf;have hC:=((lM R F T _ y r q (aO _) hy hr hq).le F.ok).1
  have key:∀I,t<=I->rank r<=I+1->Chain (mix rank P Q I) r q:=λI h1 h2=>by
   have A:Chain (mix rank P Q I) f q:=gt (λx z J=>by
    by_cases e1:rank y<rank x
    ·rw[bZ e1] at J;have:=R.top x (T.ok.dom x z J);by_cases e2:I<rank x
     ·refine⟨z,by rw[bZ e2];exact J,λY=>?_⟩
      obtain⟨l1,w,U⟩:=T.ok.up x z Y J;exact .self (y:=w) (by rw[bZ (by omega)];exact U)
     ·obtain⟨w,U⟩:=F.all x (T.ok.dom x z J);exact⟨w,by rw[cL e2];exact U,λY=>m3 R F T par k I x w z (by omega) Y (by omega) U J⟩
    ·rw[cL e1] at J;refine⟨z,by rw[cL (by omega)];exact J,λY=>?_⟩
     obtain⟨l1,w,U⟩:=F.ok.up x z Y J;by_cases e3:I<rank z
     ·obtain⟨w2,Z⟩:=T.all z (F.ok.dom z w U);exact .self (y:=w2) (by rw[bZ e3];exact Z)
     ·exact .self (y:=w) (by rw[cL e3];exact U)) A0
   have B:Chain (mix rank P Q I) f r:=low F.ok T.all (F.fwd y r f hy hr e hf hlt) h2;exact D8 (Ok.mix F.ok T.ok F.all T.all) B A hC
  by_cases e:rank r<=t+1
  ·exact key t (ac _) e
  ·have:=key (rank r - 1) (by omega) (by omega)
   exact(gf T.ok (by omega)).mpr ((gf T.ok (by omega)).mp this)
theorem tm(R:Rk E rank)(F:dI E rank P)(T:Turn E rank P Q)(par:∀b,b≠0->be E b->∃f,E f b/\be E f/\rank b<rank f):dI E rank Q:=by
 refine⟨T.ok,T.all,λb q I B c hc=>?_,λb q f I B e hf hlt=>?_⟩
 ·obtain⟨Y,v,hv⟩:=T.ok.up b q I B;refine(gf (P:=P) T.ok Y).mp ((T.eq b q I B c).mpr λp e hp=>gt (λx z J=>?_) (hc p e hp));by_cases e1:rank b<rank x
  ·refine⟨z,by rw[bZ e1];exact J,λZ=>?_⟩
   obtain⟨l1,w,U⟩:=T.ok.up x z Z J;exact .self (y:=w) (by rw[bZ (by omega)];exact U)
  ·obtain⟨w,U⟩:=F.all x (T.ok.dom x z J);exact⟨w,by rw[cL e1];exact U,λZ=>m3 R F T par _ (rank b) x w z (aO _) Z (by omega) U J⟩
 ·obtain⟨Y,v,hv⟩:=T.ok.up b q I B;have hs:Chain (mix rank P Q (rank b)) q q:= .self (y:=v) (by rw[bZ Y];exact hv)
  exact(gf T.ok hlt).mp ((T.eq b q I B q).mp hs f e hf)
theorem re(R:Rk E rank)(F:dI E rank P)(T:Turn E rank P Q){q:Nat}(B:y≠0)(I:P y=some r)(J:Q y=some q):rank r<=rank q/\(rank r=rank q->r=q):=
 (lM R F T _ y r q (aO _) B I J).le F.ok
theorem m7(R:Rk E rank)(F:dI E rank P)(T:Turn E rank P P)(B:be E b):Chain P b c↔ca E c b:=by
 have U:∀t,mix rank P P t=P:=λt=>by funext x;simp[mix]
 refine rM R F.ok (λx b r B J e I c h=>?_) (F.all b B);have:=T.eq b r B J c;rw[U] at this;exact this.mp h x e I
structure Turn1(E:Nat->Nat->Prop)(rank:Nat->Nat)(Q:Nat->Option Nat):Prop where
 ok:Ok E rank Q
 all:∀x,be E x->∃y,Q x=some y
 eq:∀b q,b≠0->Q b=some q->∀c,Chain (mix rank (λ_=>none) Q (rank b)) q c↔∀p,E p b->be E p->rank b<rank p->Chain (mix rank (λ_=>none) Q (rank b)) p c
theorem kR(T:Turn1 E rank Q):dI E rank Q:=by
 refine⟨T.ok,T.all,λb q J B c hc=>?_,λb q f J B e hf I=>?_⟩
 ·obtain⟨U,v,Y⟩:=T.ok.up b q J B;exact(gf T.ok U).mp ((T.eq b q J B c).mpr λp e Z hl=>(gf T.ok hl).mpr (hc p e Z))
 ·obtain⟨U,v,Y⟩:=T.ok.up b q J B;have hs:Chain (mix rank (λ_=>none) Q (rank b)) q q:= .self (y:=v) (by rw[bZ U];exact Y)
  exact(gf T.ok I).mp ((T.eq b q J B q).mp hs f e hf I)
def go(upd:(Nat->Option Nat)->Nat->Nat):(Nat->Option Nat)->List Nat->Nat->Option Nat
 |N,[]=>N
 |N,b::bs=>go upd (put N b (upd N b)) bs
variable{upd:(Nat->Option Nat)->Nat->Nat}
theorem fB:∀{bs:List Nat}{N:Nat->Option Nat}{x:Nat},x∉bs->go upd N bs x=N x
 |[],_,_,_=>rfl
 |b::bs,N,x,h=>by
  have B:x≠b:=λz=>by subst z;exact h List.mem_cons_self
  rw[go,fB (λz=>h (List.mem_cons_of_mem _ z)),bH B]
theorem iy:∀{l1 l2:List Nat}{N:Nat->Option Nat},go upd N (l1++l2)=go upd (go upd N l1) l2
 |[],_,_=>rfl
 |b::l1,l2,N=>by rw[List.cons_append,go,go,iy]
theorem uU(nd:(l1++b::l2).Nodup)(h1:∀x∈l1,rank b<rank x)(I:∀x∈l2,rank x<rank b):go upd P l1=mix rank P (go upd P (l1++b::l2)) (rank b):=by
 funext x;rw[List.nodup_append] at nd;by_cases e:x∈l1
 ·have B:x∉b::l2:=λz=>nd.2.2 x e x z rfl;rw[bZ (h1 x e),iy,fB B]
 ·rw[fB e];by_cases e2:x∈b::l2
  ·have:¬rank b<rank x:=by
    rcases List.mem_cons.mp e2 with rfl|e2
    ·omega
    ·have:=I x e2;omega
   rw[cL this]
  ·have B:x∉l1++b::l2:=λz=>(List.mem_append.mp z).elim e e2;by_cases k:rank b<rank x
   ·rw[bZ k,fB B]
   ·rw[cL k]
theorem yi(nd:(l1++b::l2).Nodup):go upd P (l1++b::l2) b=some (upd (go upd P l1) b):=by have h:=(List.nodup_append.mp nd).2.1;rw[iy,go,fB (List.nodup_cons.mp h).1,bm]
structure Upd(E:Nat->Nat->Prop)(rank:Nat->Nat)(pre:Nat->List Nat)(upd:(Nat->Option Nat)->Nat->Nat):Prop where
 lead:∀b p,p∈pre b↔E p b/\be E p
 par:∀b,b≠0->be E b->∃f,E f b/\be E f/\rank b<rank f
 met:∀N b,Ok E rank N->b≠0->be E b->(∃f∈pre b,∃y,N f=some y)->(∃y,N (upd N b)=some y)/\∀c,Chain N (upd N b) c↔∀p∈pre b,(∃y,N p=some y)->Chain N p c
variable{pre:Nat->List Nat}
theorem lh(R:Rk E rank)(U:Upd E rank pre upd):∀{l l2:List Nat}{N:Nat->Option Nat},Ok E rank N->(l++l2).Pairwise (λx y=>rank y<rank x)->(∀x∈l,be E x/\x≠0)->(∀x,be E x->x∈l++l2∨∃y,N x=some y)->
  Ok E rank (go upd N l)/\∀x,be E x->x∈l2∨∃y,go upd N l x=some y
 |[],_,_,K,_,_,A=>⟨K,A⟩
 |b::l,l2,N,K,hs,h,A=>by
  obtain⟨Y,J⟩:=h b List.mem_cons_self;obtain⟨f,e,cf,hl⟩:=U.par b J Y;have hs':=List.pairwise_cons.mp hs
  have df:∃y,N f=some y:=by
   rcases A f cf with z|z
   ·rcases List.mem_cons.mp z with z|z
    ·subst z;omega
    ·have:=hs'.1 f z;omega
   ·exact z
  have Z:=(U.lead b f).mpr ⟨e,cf⟩;obtain⟨m1,m2⟩:=U.met N b K J Y ⟨f,Z,df⟩;have key:∀{p},p∈(pre b).filter (λp=>(N p).isSome)↔p∈pre b/\∃y,N p=some y:=λ{p}=>by rw[List.mem_filter,Option.isSome_iff_exists]
  have K':=(Ok.put R K (ps:=(pre b).filter λp=>(N p).isSome) J Y (key.mpr ⟨Z,df⟩) hl (λp B=>⟨((U.lead b p).mp (key.mp B).1).1,(key.mp B).2⟩) m1 λc=>(m2 c).trans ⟨λh p B=>h p (key.mp B).1 (key.mp B).2,λh p B hd=>h p (key.mpr ⟨B,hd⟩)⟩).1
  have A':∀x,be E x->x∈l++l2∨∃y,put N b (upd N b) x=some y:=λx I=>by
   by_cases z:x=b
   ·subst z;exact .inr ⟨_,bm⟩
   ·rw[bH z];rcases A x I with w|w
    ·rcases List.mem_cons.mp w with w|w
     ·exact absurd w z
     ·exact .inl w
    ·exact .inr w
  exact lh R U (l:=l) K' hs'.2 (λx I=>h x (List.mem_cons_of_mem _ I)) A'
theorem parts{bs:List Nat}(hs:bs.Pairwise λx y=>rank y<rank x)(e:bs=l1++b::l2):(l1++b::l2).Nodup/\(∀x∈l1,rank b<rank x)/\∀x∈l2,rank x<rank b:=by
 have nd:bs.Nodup:=hs.imp λh=>by intro z;subst z;omega
 rw[e] at nd hs;rw[List.pairwise_append] at hs;exact⟨nd,λx B=>hs.2.2 x B b List.mem_cons_self,λx B=>(List.pairwise_cons.mp hs.2.1).1 x B⟩
theorem pV(R:Rk E rank)(F:dI E rank P)(U:Upd E rank pre upd){bs:List Nat}(hs:bs.Pairwise λx y=>rank y<rank x)(Y:∀x,x∈bs↔be E x/\x≠0):Turn E rank P (go upd P bs):=by
 obtain⟨K,A⟩:=lh R U (l:=bs) (l2:=[]) F.ok (by simpa using hs) (λx B=>(Y x).mp B) λx B=>.inr (F.all x B)
 have A:∀x,be E x->∃y,go upd P bs x=some y:=λx B=>(A x B).resolve_left (λz=>nomatch z);refine⟨K,A,λb q Z I c=>?_⟩;obtain⟨l1,l2,e⟩:=List.append_of_mem ((Y b).mpr ⟨K.dom b q I,Z⟩);obtain⟨nd,h1,h2⟩:=parts hs e;have cb:=K.dom b q I;rw[e,yi nd] at I;cases I;rw[e,<-uU nd h1 h2];obtain⟨K1,_⟩:=lh R U (l:=l1) (l2:=b::l2) F.ok (by rw[<-e];exact hs) (λx B=>(Y x).mp (by rw[e];exact aJ _ B)) λx B=>.inr (F.all x B)
 have A1:∀x,be E x->∃y,go upd P l1 x=some y:=λx B=>by
  by_cases z:x∈l1
  ·obtain⟨y,hy⟩:=A x B;rw[e,iy,fB (λw=>(List.nodup_append.mp nd).2.2 x z x w rfl)] at hy;exact⟨y,hy⟩
  ·rw[fB z];exact F.all x B
 obtain⟨f,ef,cf,_⟩:=U.par b Z cb;rw[(U.met _ b K1 Z cb ⟨f,(U.lead b f).mpr ⟨ef,cf⟩,A1 f cf⟩).2 c];exact⟨λh p J cp=>h p ((U.lead b p).mpr ⟨J,cp⟩) (A1 p cp),λh p J _=>h p ((U.lead b p).mp J).1 ((U.lead b p).mp J).2⟩
noncomputable def ft:Nat->Option Nat:=λx=>if x=0 then some 0 else none
theorem ma:Ok E rank ft:=by
 have h:∀x y,ft x=some y->x=0:=λx y h=>by
  by_cases e:x=0
  ·exact e
  ·simp[ft,e] at h
 exact⟨rfl,λx y B=>by cases h x y B;exact⟨[0],.nil⟩,λx y I B=>absurd (h x y B) I,λx y d I B=>absurd (h x y B) I⟩
theorem m8(R:Rk E rank)(U:Upd E rank pre upd){bs:List Nat}(hs:bs.Pairwise λx y=>rank y<rank x)(Y:∀x,x∈bs↔be E x/\x≠0):Turn1 E rank (go upd ft bs):=by
 have A0:∀x,be E x->x∈bs∨∃y,ft x=some y:=λx B=>by
  by_cases z:x=0
  ·subst z;exact .inr ⟨0,rfl⟩
  ·exact .inl ((Y x).mpr ⟨B,z⟩)
 obtain⟨K,A⟩:=lh R U (l:=bs) (l2:=[]) (ma (E:=E) (rank:=rank)) (by simpa using hs) (λx B=>(Y x).mp B) (by simpa using A0)
 have A:∀x,be E x->∃y,go upd ft bs x=some y:=λx B=>(A x B).resolve_left (λz=>nomatch z);refine⟨K,A,λb q Z J c=>?_⟩;obtain⟨l1,l2,e⟩:=List.append_of_mem ((Y b).mpr ⟨K.dom b q J,Z⟩);obtain⟨nd,h1,h2⟩:=parts hs e;have cb:=K.dom b q J;obtain⟨f,ef,cf,hl⟩:=U.par b Z cb;have h0:rank b<rank 0:=aA hl (R.top f cf)
 have em:mix rank (λ_=>none) (go upd ft bs) (rank b)=go upd ft l1:=by
  rw[e,uU (P:=ft) nd h1 h2,<-e];funext x;by_cases k:rank b<rank x
  ·rw[bZ k,bZ k]
  ·rw[cL k,cL k];have:x≠0:=λz=>by subst z;exact k h0
   simp[ft,this]
 have set:∀x,be E x->((∃y,go upd ft l1 x=some y)↔rank b<rank x):=λx B=>by
  rw[<-em];by_cases k:rank b<rank x
  ·rw[bZ k];exact⟨λ_=>k,λ_=>A x B⟩
  ·rw[cL k];exact⟨(λ⟨y,h⟩=>nomatch h),λh=>absurd h k⟩
 obtain⟨K1,_⟩:=lh R U (l:=l1) (l2:=b::l2) (ma (E:=E) (rank:=rank)) (by rw[<-e];exact hs) (λx B=>(Y x).mp (by rw[e];exact aJ _ B)) (by rw[<-e];exact A0)
 rw[e,yi nd] at J;cases J;rw[em,(U.met _ b K1 Z cb ⟨f,(U.lead b f).mpr ⟨ef,cf⟩,(set f cf).mpr hl⟩).2 c];exact⟨λh p I cp hr=>h p ((U.lead b p).mpr ⟨I,cp⟩) ((set p cp).mpr hr),λh p I hd=>h p ((U.lead b p).mp I).1 ((U.lead b p).mp I).2 ((set p ((U.lead b p).mp I).2).mp hd)⟩
end
end Dom
namespace Spn
open Dom
variable{n x:Nat}
theorem wM:∀(n:Nat)(l:List Nat),l.Nodup->(∀x∈l,x<n)->l.length<=n
 |0,[],_,_=>ac _
 |0,x::l,_,h=>absurd (h x (.head _)) (Nat.not_lt_zero _)
 |n+1,l,nd,h=>by
  by_cases hm:n∈l
  ·have:=wM n (l.erase n) (nd.erase n) λx B=>by obtain⟨h1,I⟩:=nd.mem_erase_iff.mp B;have:=h x I;omega
   rw[List.length_erase_of_mem hm] at this;omega
  ·have:=wM n l nd λx B=>by have h1:=h x B;have I:x≠n:=λe=>hm (e▸B);omega
   omega
section
variable{N:Nat->Option Nat}{pile r:List (Nat×Option Nat)}{c v s:Nat}{L:Nat->Option Nat}{S:Nat->Option (Nat×Nat)}{ks:List Nat}
noncomputable def put{α:Type}(L:Nat->Option α)(v:Nat)(a:α):Nat->Option α:=λx=>if x=v then some a else L x
theorem bm{α:Type}{L:Nat->Option α}{a:α}:put L v a v=some a:=if_pos rfl
theorem bH{α:Type}{L:Nat->Option α}{a:α}(h:x≠v):put L v a x=L x:=if_neg h
theorem fj{α:Type}{L:Nat->Option α}{a:α}(h:∃t,L x=some t):∃t,put L v a x=some t:=by
 by_cases e:x=v
 ·exact⟨a,by rw[e];exact bm⟩
 ·rw[bH e];exact h
structure Inv(N:Nat->Option Nat)(pile:List (Nat×Option Nat))(c:Nat)(L:Nat->Option Nat)(S:Nat->Option (Nat×Nat)):Prop where
 lt:∀v s,L v=some s->s<c
 dom:∀v s,L v=some s->∃y,N v=some y
 par:∀v s,L v=some s->v=0∨∃y t,N v=some y/\L y=some t
 wai:∀v,(v,none)∈pile->L v=none/\(∃y,N v=some y)/\(v=0∨∃y t,N v=some y/\L y=some t)
 nd:(pile.map (·.1)).Nodup
 kids:∀v s x,L v=some s->N x=some v->x≠0->(∃t,L x=some t)∨(x,none)∈pile
 opn:∀v s,(v,some s)∈pile->L v=some s/\S v=none/\∀w t,L w=some t->(Chain N w v↔s<=t)
 stk:pile.Pairwise λa b=>(b.2≠none->Chain N a.1 b.1)/\(a.2≠none->¬Chain N b.1 a.1)
 cls:∀v lo hi,S v=some (lo,hi)->L v=some lo/\hi<=c/\(∀w t,L w=some t->(Chain N w v↔lo<=t/\t<hi))/\∀w,Chain N w v->∃t,L w=some t
 done:∀v s,L v=some s->(∃p,S v=some p)∨(v,some s)∈pile
 zero:(∃s,L 0=some s)∨(0,none)∈pile
theorem Inv.anc(I:Inv N pile c L S){w v:Nat}(h:Chain N w v):∀t,L w=some t->∃s,L v=some s:=by
 induction h with
 |self h=>exact λt e=>⟨t,e⟩
 |step hx h t ih=>
  intro t e;rcases I.par _ _ e with z|⟨y,t',h1,h2⟩
  ·exact absurd z hx
  ·rw[h] at h1;cases h1;exact ih t' h2
theorem start(h0:N 0=some 0):Inv N [(0,none)] 0 (λ_=>none) (λ_=>none):=by
 refine⟨nofun,nofun,nofun,λv B=>?_,by simp,nofun,λv s B=>?_,by simp,nofun,nofun,.inr (.head _)⟩
 ·have:v=0:=by simpa using B
  subst this;exact⟨rfl,⟨0,h0⟩,.inl rfl⟩
 ·simp at B
theorem enter(I:Inv N ((v,none)::r) c L S)(nk:ks.Nodup)(Z:∀x,x∈ks↔N x=some v/\x≠0):Inv N (ks.reverse.map (λx=>(x,none))++(v,some c)::r) (c+1) (put L v c) S:=by
 obtain⟨hv,dv,pv⟩:=I.wai v (.head _);obtain⟨nv,nr⟩:=List.nodup_cons.mp I.nd;obtain⟨sv,sr⟩:=List.pairwise_cons.mp I.stk;have nr1:∀{p:Nat×Option Nat},p∈r->p.1≠v:=λhp e=>nv (e▸List.mem_map.mpr ⟨_,hp,rfl⟩)
 have hna:∀w t,L w=some t->¬Chain N w v:=λw t e z=>by obtain⟨s,hs⟩:=I.anc z t e;rw[hv] at hs;cases hs
 have kn:∀x∈ks,x≠v/\L x=none/\x∉r.map (·.1):=λx B=>by
  obtain⟨h1,h2⟩:=(Z x).mp B
  have up:(x=0∨∃y t,N x=some y/\L y=some t)->False:=λz=>by
   rcases z with z|⟨y,t,e1,e2⟩
   ·exact h2 z
   ·rw[h1] at e1;cases e1;rw[hv] at e2;cases e2
  refine⟨λe=>up (e▸pv),?_,λhm=>?_⟩
  ·cases q:L x with
   |none=>rfl
   |some t=>exact(up (I.par x t q)).elim
  ·obtain⟨⟨x',o⟩,hp,e⟩:=List.mem_map.mp hm;have e:x'=x:=e;subst e;cases o with
   |none=>exact up (I.wai x' (.tail _ hp)).2.2
   |some s=>exact up (I.par x' s (I.opn x' s (.tail _ hp)).1)
 have U:∀{p:Nat×Option Nat},p∈ks.reverse.map (λx=>(x,(none:Option Nat)))++(v,some c)::r↔(p.1∈ks/\p.2=none)∨p=(v,some c)∨p∈r:=λ{p}=>by
  rw[List.mem_append,List.mem_cons,List.mem_map];refine or_congr ⟨λ⟨x,B,e⟩=>?_,λ⟨h1,h2⟩=>⟨p.1,List.mem_reverse.mpr h1,?_⟩⟩ Iff.rfl
  ·subst e;exact⟨List.mem_reverse.mp B,rfl⟩
  ·rw[<-h2]
 have Y:∀x,(x=0∨∃y t,N x=some y/\L y=some t)->x=0∨∃y t,N x=some y/\put L v c y=some t:=λx z=>by
  rcases z with z|⟨y,t,e1,e2⟩
  ·exact .inl z
  ·obtain⟨t',e3⟩:=fj (v:=v) (a:=c) ⟨t,e2⟩;exact .inr ⟨y,t',e1,e3⟩
 refine⟨λx s e=>?_,λx s e=>?_,λx s e=>?_,λx B=>?_,?_,λw s x e h1 h2=>?_,λu s hu=>?_,?_,λu lo hi e=>?_,λx s e=>?_,?_⟩
 ·by_cases B:x=v
  ·subst B;rw[bm] at e;cases e;omega
  ·rw[bH B] at e;have:=I.lt x s e;omega
 ·by_cases B:x=v
  ·subst B;exact dv
  ·rw[bH B] at e;exact I.dom x s e
 ·by_cases B:x=v
  ·subst B;exact Y _ pv
  ·rw[bH B] at e;exact Y _ (I.par x s e)
 ·rcases U.mp B with⟨h1,_⟩|h1|h1
  ·obtain⟨k1,k2,_⟩:=kn x h1;exact⟨by rw[bH k1];exact k2,⟨v,((Z x).mp h1).1⟩,.inr ⟨v,c,((Z x).mp h1).1,bm⟩⟩
  ·cases h1
  ·obtain⟨w1,w2,w3⟩:=I.wai x (.tail _ h1);exact⟨by rw[bH (nr1 h1)];exact w1,w2,Y _ w3⟩
 ·rw[List.map_append,List.map_map,List.nodup_append];refine⟨?_,List.nodup_cons.mpr ⟨nv,nr⟩,λa ha b J=>?_⟩
  ·have:(ks.reverse).Nodup:=List.pairwise_reverse.mpr (nk.imp Ne.symm);simpa[Function.comp_def] using this
  ·have ha:a∈ks:=by simpa[Function.comp_def] using ha
   obtain⟨k1,_,k3⟩:=kn a ha;rcases List.mem_cons.mp J with J|J
   ·rw[J];exact k1
   ·exact λz=>k3 (z▸J)
 ·by_cases hw:w=v
  ·subst hw;exact .inr (U.mpr (.inl ⟨(Z x).mpr ⟨h1,h2⟩,rfl⟩))
  ·rw[bH hw] at e;rcases I.kids w s x e h1 h2 with z|z
   ·exact .inl (fj z)
   ·rcases List.mem_cons.mp z with z|z
    ·cases z;exact .inl ⟨c,bm⟩
    ·exact .inr (U.mpr (.inr (.inr z)))
 ·rcases U.mp hu with⟨_,z⟩|z|z
  ·cases z
  ·cases z;refine⟨bm,?_,λw t e=>?_⟩
   ·cases q:S v with
    |none=>rfl
    |some p=>have:=(I.cls v p.1 p.2 q).1;rw[hv] at this;cases this
   ·by_cases hw:w=v
    ·subst hw;rw[bm] at e;cases e;obtain⟨y,hy⟩:=dv;exact⟨λ_=>ac _,λ_=>.self hy⟩
    ·rw[bH hw] at e;have:=I.lt w t e;exact⟨λz=>absurd z (hna w t e),λz=>by omega⟩
  ·obtain⟨o1,o2,o3⟩:=I.opn u s (.tail _ z);refine⟨by rw[bH (nr1 z)];exact o1,o2,λw t e=>?_⟩
   by_cases hw:w=v
   ·subst hw;rw[bm] at e;cases e;have:=I.lt u s o1;exact⟨λ_=>by omega,λ_=>(sv _ z).1 (by simp)⟩
   ·rw[bH hw] at e;exact o3 w t e
 ·have down:∀x∈ks,∀b∈r,b.2≠none->Chain N x b.1:=λx B b J hn=>.step ((Z x).mp B).2 ((Z x).mp B).1 ((sv b J).1 hn);rw[List.pairwise_append];refine⟨?_,List.pairwise_cons.mpr ⟨λb J=>⟨(sv b J).1,λ_ z=>?_⟩,sr⟩,λa ha b J=>?_⟩
  ·rw[List.pairwise_map];exact List.pairwise_of_forall λa b=>⟨λz=>absurd rfl z,λz=>absurd rfl z⟩
  ·obtain⟨x,o⟩:=b;cases o with
   |some s=>exact hna x s (I.opn x s (.tail _ J)).1 z
   |none=>
    cases z with
    |self _=>exact nr1 J rfl
    |step B h t=>
     rcases(I.wai x (.tail _ J)).2.2 with z|⟨y,t',e1,e2⟩
     ·exact B z
     ·rw[h] at e1;cases e1;exact hna _ t' e2 t
  ·obtain⟨x,B,rfl⟩:=List.mem_map.mp ha;have B:=List.mem_reverse.mp B;refine⟨λhn=>?_,λz=>absurd rfl z⟩;rcases List.mem_cons.mp J with rfl|J
   ·obtain⟨y,hy⟩:=dv;exact .step ((Z x).mp B).2 ((Z x).mp B).1 (.self hy)
   ·exact down x B b J hn
 ·obtain⟨c1,c2,c3,c4⟩:=I.cls u lo hi e;have hu:u≠v:=λz=>by rw[z,hv] at c1;cases c1
  refine⟨by rw[bH hu];exact c1,by omega,λw t e=>?_,λw z=>fj (c4 w z)⟩
  by_cases hw:w=v
  ·subst hw;rw[bm] at e;cases e;refine⟨λz=>?_,λz=>by omega⟩
   obtain⟨t,h⟩:=c4 w z;rw[hv] at h;cases h
  ·rw[bH hw] at e;exact c3 w t e
 ·by_cases B:x=v
  ·subst B;rw[bm] at e;cases e;exact .inr (U.mpr (.inr (.inl rfl)))
  ·rw[bH B] at e;rcases I.done x s e with z|z
   ·exact .inl z
   ·rcases List.mem_cons.mp z with z|z
    ·cases z
    ·exact .inr (U.mpr (.inr (.inr z)))
 ·rcases I.zero with z|z
  ·exact .inl (fj z)
  ·rcases List.mem_cons.mp z with z|z
   ·cases z;exact .inl ⟨c,bm⟩
   ·exact .inr (U.mpr (.inr (.inr z)))
theorem leave(I:Inv N ((v,some s)::r) c L S):Inv N r c L (put S v (s,c)):=by
 obtain⟨U,o2,Z⟩:=I.opn v s (.head _);obtain⟨nv,nr⟩:=List.nodup_cons.mp I.nd;obtain⟨Y,sr⟩:=List.pairwise_cons.mp I.stk;refine⟨I.lt,I.dom,I.par,λx J=>I.wai x (.tail _ J),nr,λw t x e h1 h2=>?_,λu t B=>?_,sr,λu lo hi e=>?_,λx t e=>?_,?_⟩
 ·rcases I.kids w t x e h1 h2 with z|z
  ·exact .inl z
  ·rcases List.mem_cons.mp z with z|z
   ·cases z
   ·exact .inr z
 ·obtain⟨p1,p2,p3⟩:=I.opn u t (.tail _ B);exact⟨p1,by rw[bH (λz=>nv (List.mem_map.mpr ⟨_,B,z⟩))];exact p2,p3⟩
 ·by_cases B:u=v
  ·subst B;rw[bm] at e;cases e;refine⟨U,ac _,λw t e=>?_,λw z=>?_⟩
   ·have:=I.lt w t e;rw[Z w t e];exact⟨λh=>⟨h,this⟩,λh=>h.1⟩
   ·induction z with
    |self _=>exact⟨_,U⟩
    | @step x y c J h t ih=>
     obtain⟨t',ht⟩:=ih I U o2 Z nv Y;rcases I.kids y t' x ht h J with z|z
     ·exact z
     ·rcases List.mem_cons.mp z with z|z
      ·cases z
      ·exact absurd (.step J h t) ((Y _ z).2 (by simp))
  ·rw[bH B] at e;exact I.cls u lo hi e
 ·rcases I.done x t e with z|z
  ·exact .inl (fj z)
  ·rcases List.mem_cons.mp z with z|z
   ·cases z;exact .inl ⟨_,bm⟩
   ·exact .inr z
 ·rcases I.zero with z|z
  ·exact .inl z
  ·rcases List.mem_cons.mp z with z|z
   ·cases z
   ·exact .inr z
theorem fin(I:Inv N [] c L S):(∀x,Chain N x 0->∃p,S x=some p)/\∀v w lo hi B J,S v=some (lo,hi)->S w=some (B,J)->(Chain N w v↔lo<=B/\B<hi):=by
 refine⟨λx z=>?_,λv w lo hi B J Y U=>(I.cls v lo hi Y).2.2.1 w B (I.cls w B J U).1⟩
 have key:∃t,L x=some t:=by
  generalize hz:(0:Nat)=z0 at z
  induction z with
  |self _=>subst hz;exact(I.zero).resolve_right (by simp)
  |step hx h t ih=>
   obtain⟨t',e⟩:=ih hz;exact(I.kids _ t' _ e h hx).resolve_right (by simp)
 obtain⟨t,e⟩:=key;exact(I.done x t e).resolve_right (by simp)
noncomputable def left(n:Nat)(L:Nat->Option Nat)(pile:List (Nat×Option Nat)):Nat:=(((List.range n).filter λx=>(L x).isNone).map λ_=>2).sum+(pile.filter λp=>p.2.isSome).length
theorem jL(I:v<n)(h:L v=none):left n (put L v c) (ks.reverse.map (λx=>(x,none))++(v,some c)::r)+1=left n L ((v,none)::r):=by
 unfold left;have s:=Go.i6 (w:=λ_=>2) (p:=λx=>(L x).isNone) (q:=λx=>(put L v c x).isNone) (f:=v) (by rw[h];rfl) (by rw[bm];rfl) (λx B=>by rw[bH B]) (List.nodup_range (n:=n)) (List.mem_range.mpr I)
 have U:∀l:List Nat,(l.map (λx=>(x,(none:Option Nat)))).filter (λp=>p.2.isSome)=[]:=λl=>by rw[List.filter_eq_nil_iff];intro a J;obtain⟨x,_,rfl⟩:=List.mem_map.mp J;simp
 rw[s,List.filter_append,U,List.nil_append,List.filter_cons_of_pos (by rfl),List.filter_cons_of_neg (by simp),List.length_cons]
 omega
theorem gh:left n L r+1=left n L ((v,some s)::r):=by
 unfold left;rw[List.filter_cons_of_pos (by rfl),List.length_cons]
 omega
theorem Inv.len(I:Inv N pile c L S)(Y:∀x y,N x=some y->x<n):pile.length<=n:=by
 have:=wM n (pile.map (·.1)) I.nd λx Z=>by
  obtain⟨⟨B,o⟩,U,rfl⟩:=List.mem_map.mp Z;cases o with
  |none=>obtain⟨y,J⟩:=(I.wai B U).2.1;exact Y _ y J
  |some s=>obtain⟨y,J⟩:=I.dom B s (I.opn B s U).1;exact Y _ y J
 rwa [List.length_map] at this
end
end Spn
namespace PySem.SeqAt
open AutoSeq1 (wpAny_loadPart')
open MeetsSeq
noncomputable def Cv(h:Heap)(d:Addr):Prop:=∃es ep,h.get? d=some {cls:= .type "dict",dict:=none,data:= .dict es ep,slots:= #[]}
section
end
end PySem.SeqAt
namespace L2
open PySem PySem.Spec PyProof.Rows
variable{scope:Scope}{pos:Pos}{ifs:List Expr}{elt iter tg:Expr}{s:Shared}{y:Str}{X:Cx}{c n:Addr}{pins:List (Addr×Obj)}{fp:List Addr}{xs:List Str}
noncomputable def eU(cells:List (Str×Addr)):List (Str×NameKind)->List (Str×Addr)->List (Str×Addr)
 |[],cs=>cs
 |(n,k)::r,cs=>if k== .free then eU cells r ((n,(cells.lookup n).getD 0)::cs) else eU cells r cs
theorem gZ{env:Env}:∀(names:List (Str×NameKind))(cs:List (Str×Addr)),(∀x∈names,x.2=.free->∃c,env.cells.lookup x.1=some c)->
  (forIn names cs λ(x:Str×NameKind)(r:List (Str×Addr))=>(do
   if x.2==NameKind.free then
    let a <-cellOf env x.1
    pure (ForInStep.yield ((x.1,a)::r))
   else pure (ForInStep.yield r):Sem (ForInStep (List (Str×Addr)))))=(pure (eU env.cells names cs):Sem (List (Str×Addr)))
 |[],cs,_=>rfl
 |(n,k)::r,cs,h=>by
  have I:=λcs=>gZ (env:=env) r cs λx J=>h x (List.mem_cons_of_mem _ J);rw[List.forIn_cons];cases hk:(k==NameKind.free) with
  |true=>
   obtain⟨c,U⟩:=h (n,k) List.mem_cons_self (by simpa using hk)
   have B:env.cells.lookup n=some c:=U;simp only[eU,hk,if_true,cellOf,B,Option.getD_some,pure_bind];exact I _
  |false=>simp only[eU,hk,Bool.false_eq_true,if_false,pure_bind];exact I _
theorem iZ{env:Env}(h:∀x∈scope.names,x.2=.free->∃c,env.cells.lookup x.1=some c):closureFor scope env=pure (eU env.cells scope.names []):=by rw[<-gZ scope.names [] h];unfold closureFor;simp only[bind_pure]
theorem mG{cells:List (Str×Addr)}{y:Str}{c:Addr}:∀{names:List (Str×NameKind)}{cs:List (Str×Addr)},(eU cells names cs).lookup y=some c->((y,NameKind.free)∈names/\c=(cells.lookup y).getD 0)∨cs.lookup y=some c
 |[],cs,h=>.inr h
 |(n,k)::r,cs,h=>by
  unfold eU at h;cases hk:(k==NameKind.free) with
  |true=>
   have B:k=.free:=by simpa using hk
   subst B;rw[if_pos (by rfl)] at h
   rcases mG h with⟨a,b⟩|q
   ·exact .inl ⟨List.mem_cons_of_mem _ a,b⟩
   ·cases hy:y==n with
    |true=>
     rw[List.lookup_cons,hy] at q;have:y=n:=by simpa using hy
     subst this;exact .inl ⟨List.mem_cons_self,(ag q).symm⟩
    |false=>rw[List.lookup_cons,hy] at q;exact .inr q
  |false=>
   rw[hk] at h;rcases mG (by simpa using h) with⟨a,b⟩|q
   ·exact .inl ⟨List.mem_cons_of_mem _ a,b⟩
   ·exact .inr q
theorem fN{cells:List (Str×Addr)}{y:Str}:∀{names:List (Str×NameKind)}{cs:List (Str×Addr)},(∀c,cs.lookup y=some c->c=(cells.lookup y).getD 0)->((y,NameKind.free)∈names∨cs.lookup y=some ((cells.lookup y).getD 0))->
  (eU cells names cs).lookup y=some ((cells.lookup y).getD 0)
 |[],cs,_,h=>by
  rcases h with h|h
  ·simp at h
  ·exact h
 |(n,k)::r,cs,hc,h=>by
  unfold eU;cases hk:(k==NameKind.free) with
  |true=>
   have B:k=.free:=by simpa using hk
   subst B;rw[if_pos (by rfl)]
   cases hy:y==n with
   |true=>
    have:y=n:=by simpa using hy
    subst this;refine fN (λc e=>?_) (.inr ?_)
    ·rw[List.lookup_cons,hy] at e;exact(ag e).symm
    ·rw[List.lookup_cons,hy]
   |false=>
    refine fN (λc e=>?_) ?_
    ·rw[List.lookup_cons,hy] at e;exact hc c e
    ·rcases h with h|h
     ·rcases List.mem_cons.mp h with e|e
      ·injection e with e1 _;rw[e1] at hy;simp at hy
      ·exact .inl e
     ·right;rw[List.lookup_cons,hy];exact h
  |false=>
   have h':(y,NameKind.free)∈r∨List.lookup y cs=some ((List.lookup y cells).getD 0):=by
    rcases h with h|h
    ·rcases List.mem_cons.mp h with e|e
     ·injection e with _ e2;rw[<-e2] at hk;simp at hk
     ·exact .inl e
    ·exact .inr h
   have q:=fN (names:=r) (cs:=cs) hc h';simpa using q
theorem bQ{env:Env}{names:List (Str×NameKind)}{x:Str}{k:NameKind}:(names.map λ(n,k)=>if(k==NameKind.free&&env.scope.kind== .function&&env.kindOf n==some .cell) then(n,NameKind.cell) else(n,k)).lookup x=some k->
  names.lookup x=some k∨(k=.cell/\names.lookup x=some .free):=by
 induction names with
 |nil=>intro h;simp at h
 |cons p r ih=>
  obtain⟨n,B⟩:=p;intro h;have h:List.lookup x ((if(B==NameKind.free&&env.scope.kind== .function&&env.kindOf n==some .cell)=true then(n,NameKind.cell) else(n,B))::_)=some k:=h
  cases hx:x==n with
  |true=>
   by_cases hc:(B==NameKind.free&&env.scope.kind== .function&&env.kindOf n==some .cell)=true
   ·rw[if_pos hc] at h;simp only[List.lookup_cons,hx] at h;cases h;refine .inr ⟨rfl,?_⟩;simp only[List.lookup_cons,hx];simp only[Bool.and_eq_true] at hc;have:B=.free:=by simpa using hc.1.1
    rw[this]
   ·rw[if_neg hc] at h;simp only[List.lookup_cons,hx] at h ⊢;exact .inl h
  |false=>
   have h':List.lookup x (r.map λ(n,k)=>if(k==NameKind.free&&env.scope.kind== .function&&env.kindOf n==some .cell) then(n,NameKind.cell) else(n,k))=some k:=by
    by_cases hc:(B==NameKind.free&&env.scope.kind== .function&&env.kindOf n==some .cell)=true
    ·rw[if_pos hc] at h;simpa only[List.lookup_cons,hx] using h
    ·rw[if_neg hc] at h;simpa only[List.lookup_cons,hx] using h
   simp only[List.lookup_cons,hx];exact ih h'
theorem n4{prog:Program}{w:World}{A:Around}{R:Result->Shared->Prop}{target:Expr}{it acc:Value}{env:Env}(I:Nat->Shared->Prop)
  (turn:∀n s,I n s->wpAny (model prog w) A (pyNext it) (λr s₁=>match r with
   |none=>R (.ok .next) s₁
   |some v=>wpAny (model prog w) A (letOwnedTupleGo target it v) (λ_ s₁'=>wpAny (model prog w) A (assign target env v) (λ_ s₂=>
     wpAny (model prog w) A (forIn ifs true λc r=>if r=true then do let ok <-isTrue c env (eval c env);pure (ForInStep.yield ok) else pure (ForInStep.yield r)) (λok s₃=>
      if ok=true then wpAny (model prog w) A (eval elt env) (λx s₄=>
       wpAny (model prog w) A (call (.builtin "list.append") [acc,x]) (λ_ s₅=>∃m,m<n/\I m s₅) (notedBy (model prog w) A env λe s'=>R (.error e) s') s₄) (notedBy (model prog w) A env λe s'=>R (.error e) s') s₃
      else ∃m,m<n/\I m s₃) (notedBy (model prog w) A env λe s'=>R (.error e) s') s₂) (notedBy (model prog w) A env λe s'=>R (.error e) s') s₁') (notedBy (model prog w) A env λe s'=>R (.error e) s') s₁) (notedBy (model prog w) A env λe s'=>R (.error e) s') s)
  (n:Nat)(h:I n s):
  codeAny (model prog w) A (.compLoop (.ListComp elt [⟨target,iter,ifs,0⟩] scope pos) 0 it acc env) R s:=by
 refine codeAny_loop rfl I (λn s B=>?_) n h;show wpAny _ A ((compTurn (.ListComp elt [⟨target,iter,ifs,0⟩] scope pos) 0 it acc env).onRaise (λx=>do noteFrame x env;theTreesLotGoes x)) _ _ s
 refine wpAny_noted ?_;rw[compTurn_list];refine aa (wpAny_standAt (aa (aY (turn n s B) (λr s₁ h₁=>?_) λ_ _ h'=>h')));cases r with
 |none=>exact af h₁
 |some v=>
  refine aa (aY h₁ (λ_ s₁' h₁'=>?_) λ_ _ h'=>h');refine aa (aY h₁' (λ_ s₂ h₂=>aa (aY h₂ (λok s₃ h₃=>?_) λ_ _ h'=>h')) λ_ _ h'=>h');cases ok with
  |false=>exact af ⟨rfl,h₃⟩
  |true=>exact aa (aa (aY h₃ (λx s₄ h₄=>aa (aY h₄ (λ_ s₅ h₅=>af (af ⟨rfl,h₅⟩)) λ_ _ h'=>h')) λ_ _ h'=>h'))
noncomputable def vM(z:Str):Str:=⟨#[46]++z.cps⟩
def sJ(scope:Scope)(N:List Str):List Str:=N.map λz=>if scope.names.lookup z=some .local then vM z else z
theorem gK{env:Env}:∀{names:List (Str×NameKind)}{x:Str},names.lookup x=some .cell->
  (names.map λ(n,k)=>if(k==NameKind.free&&env.scope.kind== .function&&env.kindOf n==some .cell) then(n,NameKind.cell) else(n,k)).lookup x=some .cell
 |[],_,h=>by simp at h
 |(n,k)::r,x,h=>by
  have B:= @gK env r x;show List.lookup x ((if(k==NameKind.free&&env.scope.kind== .function&&env.kindOf n==some .cell)=true then(n,NameKind.cell) else(n,k))::_)=_
  cases hx:x==n with
  |true=>simp only[List.lookup_cons,hx] at h;cases h;simp[List.lookup_cons,hx]
  |false=>
   simp only[List.lookup_cons,hx] at h;by_cases hc:(k==NameKind.free&&env.scope.kind== .function&&env.kindOf n==some .cell)=true
   ·rw[if_pos hc];simp only[List.lookup_cons,hx];exact B h
   ·rw[if_neg hc];simp only[List.lookup_cons,hx];exact B h
noncomputable def qo(scope:Scope):List (Str×NameKind):=scope.names.filter λy=>decide (y.2=.cell)
def wZ(scope:Scope)(n:Addr):List (Str×Addr):=(qo scope).map λy=>(y.1,n)
theorem c7:∀(names:List (Str×NameKind))(n:Nat)(acc:List (Str×Addr))(h:Heap),cellsFrom n names acc=cellsFrom n (names.filter λy=>decide (y.2=.cell)) acc/\pushCells h names=pushCells h (names.filter λy=>decide (y.2=.cell))
 |[],_,_,_=>⟨rfl,rfl⟩
 |(x,k)::r,n,acc,h=>by
  by_cases hk:k=.cell
  ·subst hk;rw[List.filter_cons_of_pos (by simp)]
   exact⟨(c7 r (n+1) ((x,n)::acc) h).1,(c7 r n acc _).2⟩
  ·rw[List.filter_cons_of_neg (by simpa using hk)]
   have I:(k==NameKind.cell)=false:=by simpa using hk
   obtain⟨a,b⟩:=c7 r n acc h;have B:¬(k==NameKind.cell)=true:=by rw[I];decide
   exact⟨by rw[<-a];exact if_neg B,by rw[<-b];exact if_neg B⟩
theorem gN(h:(qo scope).length<=1):qo scope=[]∨∃x,qo scope=[(x,.cell)]:=by
 cases e:qo scope with
 |nil=>exact .inl rfl
 |cons p r=>
  obtain⟨x,k⟩:=p;rw[e] at h;cases r with
  |cons=>simp at h
  |nil=>
   have:(x,k)∈qo scope:=by rw[e];simp
   have B:k=.cell:=by simpa[qo] using(List.mem_filter.mp this).2
   exact .inr ⟨x,by rw[B]⟩
theorem ja:(y,NameKind.cell)∈scope.names↔(y,NameKind.cell)∈qo scope:=by simp[qo,List.mem_filter]
theorem va{M:Model}{A:Around}{E:Value->Shared->Prop}{globals:Addr}{cl:List (Str×Addr)}{qual:Str}{outer:Env}{Q:Env->Shared->Prop}(h1:(qo scope).length<=1)
  (J:∀h₁,h₁.Ns s.heap.objs.size (λ_=>none)->(∀b o,s.heap.get? b=some o->h₁.get? b=some o)->(∀x,(x,NameKind.cell)∈scope.names->h₁.IsCell (s.heap.objs.size+1) none)->
   Q (newEnv scope s.heap.objs.size globals (wZ scope (s.heap.objs.size+1)++cl) qual none .none (some outer) builtinsNs) {s with heap:=h₁}):
  wpAny M A (newFunctionEnv scope globals cl [] qual none .none (some outer)) Q E s:=by
 simp only[newFunctionEnv,Option.isSome_some,if_true];refine aa (wpAny_alloc ?_);refine aa (wpAny_layCells _ (λname kind cells=>by cases hkc:kind==NameKind.cell<;>simp[hkc]) _ _ _ _ ?_)
 rw[show({s with heap:=s.heap.push {cls:= .type "dict",data:= .dict #[]}}:Shared).heap.objs.size=s.heap.objs.size+1 from Heap.size_push ..];obtain⟨Y,U⟩:=c7 scope.names (s.heap.objs.size+1) cl (s.heap.push {cls:= .type "dict",data:= .dict #[]});show wpAny _ _ _ _ _ {s with heap:=pushCells (s.heap.push {cls:= .type "dict",data:= .dict #[]}) scope.names};rw[Y,U];rw[List.forIn_nil];have q:=J (pushCells (s.heap.push {cls:= .type "dict",data:= .dict #[]}) (qo scope)) ((Heap.Ns.new s.heap (.type "dict")).keeps (pushCells_keeps _ _)) (λb o e=>pushCells_keeps _ _ b o (ah _ e)) ?_
 ·refine aa (af (af ?_))
  have:wZ scope (s.heap.objs.size+1)++cl=cellsFrom (s.heap.objs.size+1) (qo scope) cl:=by unfold wZ;rcases gN h1 with z|⟨x,z⟩<;>rw[z]<;>rfl
  rw[this] at q;exact q
 ·intro x B;rw[ja] at B;rcases gN h1 with z|⟨y,z⟩
  ·rw[z] at B;cases B
  ·rw[z]
   exact⟨{cls:= .type "cell",data:= .cell none},by
    have I:∀h:Heap,pushCells h [(y,NameKind.cell)]=h.push {cls:= .type "cell",data:= .cell none}:=λh=>by simp[pushCells]
    rw[I,show s.heap.objs.size+1=(s.heap.push {cls:= .type "dict",data:= .dict #[]}).objs.size from(Heap.size_push ..).symm];exact aw _ rfl,rfl⟩
def bw(X:Cx)(xs:List Str)(scope:Scope)(fp:List Addr)(s:Shared)(H:Hp):Cx where
 prog:=X.prog
 w:=X.w
 K:=X.K
 mg:=X.mg
 base:=X.base
 A:=X.A
 N:=xs++sJ scope X.N
 s₀:=s
 H₀:=H
 env:=compEnvC scope (wZ scope (s.heap.objs.size+1)++eU X.env.cells scope.names []) s.heap.objs.size X.env
 outer:=X.stack
 stack:=X.stack
 ex:=fp
 calm:=X.calm
 fn:=λy=>decide (scope.names.lookup y=some .cell)
 pn:=X.pn
 xe:=λ_ _=>False
structure CompScope(X:Cx)(scope:Scope):Prop where
 kind:scope.kind=.function
 one:(qo scope).length<=1
 locs:∀y∈scope.names,y.2=.local->scope.names.lookup y.1=some .local
 frees:∀y∈scope.names,y.2=.free->X.env.kindOf y.1=some .cell∨X.env.kindOf y.1=some .free
 apart:∀z∈X.N,(scope.names.lookup z=some .local->scope.names.lookup (vM z)=none)/\(z,NameKind.cell)∉scope.names
theorem CompScope.cells(C:CompScope X scope)(ok:X.Ok):∀y∈scope.names,y.2=.free->∃c,X.env.cells.lookup y.1=some c:=λy B I=>ok.has y.1 (C.frees y B I)
theorem CompScope.cell_of(C:CompScope X scope)(ok:X.Ok)(h:(eU X.env.cells scope.names []).lookup y=some c):(y,NameKind.free)∈scope.names/\X.env.cells.lookup y=some c:=by
 rcases mG h with⟨a,b⟩|q
 ·obtain⟨c',e⟩:=C.cells ok _ a rfl;have e':X.env.cells.lookup y=some c':=e;rw[e',Option.getD_some] at b;exact⟨a,by rw[b];exact e'⟩
 ·simp at q
theorem CompScope.cellx(C:CompScope X scope)(ok:X.Ok)(h:(wZ scope n++eU X.env.cells scope.names []).lookup y=some c):((y,NameKind.cell)∈scope.names/\c=n)∨((y,NameKind.cell)∉scope.names/\X.env.cells.lookup y=some c):=by
 rw[ja];unfold wZ at h;rcases gN C.one with z|⟨x,z⟩
 ·rw[z] at h ⊢;exact .inr ⟨by simp,(C.cell_of ok h).2⟩
 ·rw[z] at h ⊢;have h:List.lookup y ((x,n)::eU X.env.cells scope.names [])=some c:=h;rw[List.lookup_cons] at h;cases hy:y==x with
  |true=>
   rw[hy] at h;cases h;have:y=x:=by simpa using hy
   exact .inl ⟨by simp[this],rfl⟩
  |false=>
   rw[hy] at h;have:y≠x:=λe=>by simp[e] at hy
   exact .inr ⟨by simpa using this,(C.cell_of ok h).2⟩
theorem CompScope.lookx(C:CompScope X scope):(∀{c:Addr},(y,NameKind.cell)∉scope.names->(eU X.env.cells scope.names []).lookup y=some c->(wZ scope n++eU X.env.cells scope.names []).lookup y=some c)/\((y,NameKind.cell)∈scope.names->(wZ scope n++eU X.env.cells scope.names []).lookup y=some n):=by
 rw[ja];unfold wZ;rcases gN C.one with z|⟨x,z⟩
 ·rw[z];exact⟨λ_ h=>h,λh=>by simp at h⟩
 ·rw[z];refine⟨λh1 I=>?_,λh=>?_⟩
  ·have:y≠x:=λe=>h1 (by simp[e])
   have B:(y==x)=false:=by simpa using this
   show List.lookup y ((x,n)::eU X.env.cells scope.names [])=_;rw[List.lookup_cons,B];exact I
  ·have:y=x:=by simpa using h
   subst this;show List.lookup y ((y,n)::eU X.env.cells scope.names [])=_;simp[List.lookup_cons]
theorem xB{σ:St}{H:Hp}(I:Inv X pins σ H s)(C:CompScope X scope)(Y:∀b∈fp,iJ X pins H b)(ho:∀b∈fp,∃o,s.heap.get? b=some o):
  (bw X xs scope fp s H).Ok where
 mod:=I.ok.mod
 kind:=C.kind
 glob:=I.ok.glob
 blt:=I.ok.blt
 above:=ac _
 inj:=λy z c h1 h2=>by
  rcases C.cellx I.ok h1 with⟨a1,e1⟩|⟨_,q1⟩<;>rcases C.cellx I.ok h2 with⟨a2,e2⟩|⟨_,q2⟩
  ·rw[ja] at a1 a2;rcases gN C.one with zz|⟨x,zz⟩
   ·rw[zz] at a1;cases a1
   ·rw[zz] at a1 a2;have b1:y=x:=by simpa using a1
    have b2:z=x:=by simpa using a2
    rw[b1,b2]
  ·obtain⟨v,q⟩:=I.cell z c q2;exact absurd q.lt (by rw[e1];exact Nat.not_lt.mpr (Nat.le_succ _))
  ·obtain⟨v,q⟩:=I.cell y c q1;exact absurd q.lt (by rw[e2];exact Nat.not_lt.mpr (Nat.le_succ _))
  ·exact I.ok.inj y z c q1 q2
 has:=λy B=>by
  have B:(relabel scope X.env).names.lookup y=some .cell∨(relabel scope X.env).names.lookup y=some .free:=B;by_cases ho:(y,NameKind.cell)∈scope.names
  ·exact⟨_,C.lookx.2 ho⟩
  have U:scope.names.lookup y=some .free:=by
   rcases B with B|B
   ·rcases bQ B with q|⟨_,q⟩
    ·exact absurd (aQ q) ho
    ·exact q
   ·rcases bQ B with q|⟨z,_⟩
    ·exact q
    ·cases z
  exact⟨_,C.lookx.1 ho (fN (λc e=>by simp at e) (.inl (aQ U)))⟩
 cab:=λy c h hc=>by
  have h:scope.names.lookup y=some .cell:=of_decide_eq_true h;rcases C.cellx I.ok hc with⟨_,e1⟩|⟨z,_⟩
  ·rw[e1];exact Nat.le_succ _
  ·exact absurd (aQ h) z
 hd:=I.ok.hd
 frames:=I.ok.frames
 stk:= .inl rfl
 exf:=λb J=>by
  obtain⟨o,e⟩:=ho b J;obtain⟨f0,f1,f2,f3,Z,f5⟩:=Y b J;refine⟨aC (am e),λy c h=>?_⟩;rcases C.cellx I.ok h with⟨_,e1⟩|⟨_,q⟩
  ·rw[e1];exact bq (Nat.lt_succ_of_lt (am e))
  ·exact Z y c q
 bs:=I.bs
 bsz:=aB I.ok.bsz I.sz
 noex:=λb o e J=>by
  obtain⟨f0,f1,f2,f3,Z,f5⟩:=Y b J;rcases f3 with z|z
  ·exact I.ok.noex b o e z
  ·exact absurd (aA (am (I.ok.bs b o e).1) z) (a9 _)
 exfs:=λb J hs=>by
  obtain⟨f0,f1,f2,f3,Z,f5⟩:=Y b J;rcases List.mem_cons.mp (I.stkSub b hs) with z|z
  ·exact f1 z
  ·exact f2 z
 funs:=I.stack
 frf:=I.stkFree
theorem vo{σ:St}{H:Hp}{h':Heap}{tk:Nat}{m:Str->Option Value}(I:Inv X pins σ H s)(C:CompScope X scope)(hf:∀b∈fp,iJ X pins H b)(ho:∀b∈fp,∃o,s.heap.get? b=some o)
  (hn:h'.Ns s.heap.objs.size m)(k:∀b o,s.heap.get? b=some o->h'.get? b=some o)(hcl:∀x,(x,NameKind.cell)∈scope.names->h'.IsCell (s.heap.objs.size+1) none):Inv (bw X xs scope fp s H) pins (List.replicate xs.length none++σ) H {s with heap:=h',toks:=tk}:=by
 refine⟨xB I C hf ho,rfl,I.bare,Un.kept k,⟨m,hn,λi y v h1 h2 h3=>?_⟩,λy c h=>?_,I.hok.fresh (ac _),λy c h=>?_,λp hp=>?_,I.hok.kept k,?_⟩
 ·have h1:(xs++sJ scope X.N)[i]? =some y:=h1;by_cases hi:i<xs.length
  ·rw[ao (by simpa using hi),List.getElem?_replicate,if_pos hi] at h2
   cases h2
  ·rw[aE (Nat.not_lt.mp hi)] at h1;rw[aE (by simpa using hi),List.length_replicate] at h2
   unfold sJ at h1;rw[aq] at h1;obtain⟨Y,h1',J⟩:=Option.map_eq_some_iff.mp h1;have h3:(relabel scope X.env).names.lookup y=some .local∨(relabel scope X.env).names.lookup y=some .cell∨(relabel scope X.env).names.lookup y=some .free:=h3
   have U:∃kd,scope.names.lookup y=some kd:=by rcases h3 with q|q|q<;>rcases bQ q with q|⟨_,q⟩<;>exact⟨_,q⟩
   obtain⟨ap1,ap2⟩:=C.apart Y (aj h1')
   have nl:¬scope.names.lookup Y=some .local:=λhl=>by rw[if_pos hl] at J;obtain⟨kd,q⟩:=U;rw[<-J,ap1 hl] at q;cases q
   rw[if_neg nl] at J;subst J
   have hfr:scope.names.lookup Y=some .free:=by
    rcases h3 with q|q|q
    ·rcases bQ q with q|⟨z,_⟩
     ·exact absurd q nl
     ·cases z
    ·rcases bQ q with q|⟨_,q⟩
     ·exact absurd (aQ q) ap2
     ·exact q
    ·rcases bQ q with q|⟨z,_⟩
     ·exact q
     ·cases z
   have B:=aQ hfr;obtain⟨m0,hn0,hl0⟩:=I.loc
   have Z:Cp X.env.scope Y:=by
    rcases C.frees _ B rfl with q|q
    ·exact .inr (.inl q)
    ·exact .inr (.inr q)
   obtain⟨u,r,l⟩:=hl0 _ Y v h1' h2 Z;refine⟨u,r,.inr ⟨?_,?_⟩⟩
   ·rcases h3 with q|q|q
    ·rcases bQ q with q|⟨z,_⟩
     ·rw[hfr] at q;cases q
     ·cases z
    ·exact .inl q
    ·exact .inr q
   ·rcases l with⟨lk,_⟩|⟨_,c,hc,hcell⟩
    ·rcases C.frees _ B rfl with q|q
     ·rw[lk] at q;cases q
     ·rw[lk] at q;cases q
    ·refine⟨c,C.lookx.1 ap2 ?_,?_⟩
     ·have q:=fN (cells:=X.env.cells) (y:=Y) (names:=scope.names) (cs:=[]) (λc e=>by simp at e) (.inl B)
      rw[hc,Option.getD_some] at q;exact q
     ·obtain⟨o,e,d⟩:=hcell;exact⟨o,k _ _ e,d⟩
 ·rcases C.cellx I.ok h with⟨a,rfl⟩|⟨_,q⟩
  ·exact⟨none,hcl _ a⟩
  ·obtain⟨v,o,e,d⟩:=I.cell y c q;exact⟨v,o,k _ _ e,d⟩
 ·rcases C.cellx I.ok h with⟨a,rfl⟩|⟨_,q⟩
  ·exact I.hok.fresh (Nat.le_succ _)
  ·exact I.freeC y c q
 ·obtain⟨e,n,ne,nf,d⟩:=I.pin p hp;refine⟨k _ _ e,n,aC (am e),λz=>?_,d⟩;rcases List.mem_cons.mp (I.stkSub _ z) with q|q
  ·exact ne q
  ·exact nf q
 ·show(List.replicate xs.length none++σ).length=(xs++sJ scope X.N).length;rw[ai,ai,List.length_replicate,I.len,sJ,List.length_map]
def A4:TT:=λ_ H Q=>Q true H
def AG(X:Cx)(ifs:List Expr)(t:TT):Prop:=
 ∀(pins:List (Addr×Obj))(s:Shared)(σ:St)(H:Hp)(Q:Bool->Hp->Prop),Inv X pins σ H s->t σ H Q->
  wpAny (model X.prog X.w) X.A (forIn ifs true λc r=>if r=true then do let ok <-isTrue c X.env (eval c X.env);pure (ForInStep.yield ok) else pure (ForInStep.yield r)) (TP X pins σ Q) X.xe s
theorem wG:AG X [] A4:=λ_ _ _ H _ I h=>wpAny_tests_nil ⟨H,I,h⟩
theorem wF{c:Expr}{t:TT}(h:PT X c t):AG X [c] t:=λpins s σ H Q I q=>wpAny_tests_one (h pins s σ H Q I q)
def p5(k:Nat)(wi:TI)(g:TG)(tc:TT)(te:TE):TE:=λσ H Q=>wi σ H λJ H1=>∀D,H1 D=none->∃W:Nat->Nat->List V->Hp->Prop,(∃m,W 0 m [] (upd H1 D (.lst [])))/\∀i m ys H2,W i m ys H2->
 (J.stop i H2/\Q (.ref D) H2)∨(J.go i H2/\∃N:List V->Hp->Prop,(∀ys' H',N ys' H'->∃m',m'<m/\W (i+1) m' ys' H')/\
  ∀x H',J.yld i H2 x H'->∀os:List (Option V),os.length=k->g x (os++σ) H' λσ2 H3=>(∃ps:List (Option V),ps.length=k/\σ2=ps++σ)/\tc σ2 H3 λb H5=>if b=true then te σ2 H5 λy H4=>H4 D=some (.lst ys)/\ys.length<sizeLine/\N (ys++[y]) (upd H4 D (.lst (ys++[y]))) else N ys H5)
theorem nZ{σ σ':St}{H H':Hp}{s':Shared}{h':Heap}(I:Inv X pins σ H s)(Z:∀b∈fp,iJ X pins H b)(J:Inv (bw X xs scope fp s H) pins σ' H' s')
  (Y:Heap.SameBut s.heap.objs.size s'.heap h'):Inv X pins σ H' {s' with heap:=h'}:=by
 have hC:H' s.heap.objs.size=none:=J.free;have ne:∀b o,s.heap.get? b=some o->b≠s.heap.objs.size:=λb o e=>aC (am e)
 have u:Un (sK X.stack) fp H H' s.heap h':=
  ⟨λb o e n B U=>(Y.2 b (ne b o e)).trans (J.base.keep b o e n B U),λb o e n B U=>by
    obtain⟨sl,q⟩:=J.base.slot b o e n B U;exact⟨sl,(Y.2 b (ne b o e)).trans q⟩,J.base.free,λb o e U=>by
    obtain⟨o',q⟩:=J.base.there b o e U;exact⟨o',(Y.2 b (ne b o e)).trans q⟩,J.base.tups,J.base.frzs,J.base.tbls⟩
 have hok:gz X.prog X.w H' h':=λb ob e=>by
  refine(J.hok b ob e).stay (λc w' hc q=>(Y.2 c ?_).trans q) (λ_ q=>q) λ_ _ q=>q;intro z;rcases hc with y|y
  ·rw[z] at y;rw[<-y,hC] at e;cases e
  ·rw[z,hC] at y;cases y
 exact I.call' (s':={s' with heap:=h'}) J.os u hok J.bare λb B=>⟨(Z b B).2.2.2.1,(Z b B).2.1,(Z b B).2.2.2.2.1,(Z b B).2.2.2.2.2⟩
theorem lq{wi:TI}{g:TG}{tc:TT}{te:TE}(hc:X.calm=true)(C:CompScope X scope)
  (hi:PI X tg iter wi)(hg:∀fp s H,PG (bw X xs scope fp s H) tg g)(ht:∀fp s H,AG (bw X xs scope fp s H) ifs tc)(he:∀fp s H,PE (bw X xs scope fp s H) elt te)
  (hs:∀x,foldedSetIterable iter X.env x=pure x){σ:St}{H:Hp}{Q:VK}(I:Inv X pins σ H s)(h:p5 xs.length wi g tc te σ H Q)
  {use:Option (Value->Sem Unit)}{QQ:Value->Shared->Prop}{ppos:Pos}
  (fin:∀{fp:List Addr}{U s5:Shared}{Z H4:Hp}{D:Addr}{os:List (Option V)},Inv X pins σ Z U->(∀b∈fp,iJ X pins Z b)->Inv (bw X xs scope fp U Z) pins (os++σ) H4 s5->Q (.ref D) H4->compPost (model X.prog X.w) X.A X.xe use QQ (.ref D) U.heap.objs.size (.ok .next) s5):
  wpAny (model X.prog X.w) X.A (comprehension (.ListComp elt [⟨tg,iter,ifs,0⟩] scope pos) scope X.env ppos (newList []) false (eval iter X.env) use) QQ X.xe s:=by
 refine wpAny_comprehension_free rfl hs (iZ (C.cells I.ok)) C.kind C.locs (bL (hi pins s σ H _ I h) λv s1 h1=>bL h1 λitv B h2=>?_);obtain⟨it,fp,tn,J,H2,e,I2,T,st2,f2,R⟩:=h2;subst e;have hD:H2 B.heap.objs.size=none:=I2.hok.fresh (ac _);obtain⟨W,⟨m0,w0⟩,turn⟩:=R _ hD;refine wpAny_newObj_type (va C.one λh₁ hns₁ old hcl=>?_);dsimp only at hns₁ old hcl ⊢
 have I3:Inv X pins σ (upd H2 B.heap.objs.size (.lst [])) {B with heap:=B.heap.push {cls:= .type "list",dict:=none,data:= .seq ([]:List Value).toArray}}:=
  I2.laid (t':=B.toks) (o:= .lst []) (λb ob q=>ah _ q) (ac _) ⟨Nat.zero_le _,[],0,.nil,aw _ rfl⟩
 have f3:∀b∈fp,iJ X pins (upd H2 B.heap.objs.size (.lst [])) b:=λb Y=>by
  obtain⟨o,e,_⟩:=T.obj _ _ st2 b Y;obtain⟨g0,g⟩:=f2 b Y;exact⟨by rw[aG (aC (am e))];exact g0,g⟩
 have o3:∀b∈fp,∃o,(B.heap.push {cls:= .type "list",dict:=none,data:= .seq ([]:List Value).toArray}).get? b=some o:=λb Y=>by obtain⟨o,e,_⟩:=T.obj _ _ st2 b Y;exact⟨o,ah _ e⟩
 have K0:=vo (xs:=xs) (scope:=scope) (fp:=fp) (h':=h₁) (tk:=B.toks) I3 C f3 o3 hns₁ old hcl;have st3:tn 0 h₁:=T.keep _ _ _ st2 λb _ o e=>old b o (ah _ e);generalize hs3:({B with heap:=B.heap.push {cls:= .type "list",dict:=none,data:= .seq ([]:List Value).toArray}}:Shared)=U at I3 K0;have es3:B.heap.push {cls:= .type "list",dict:=none,data:= .seq ([]:List Value).toArray}=U.heap:=by rw[<-hs3]
 generalize hH3:upd H2 B.heap.objs.size (.lst [])=Z at I3 K0 f3 w0
 have stat:∀{H':Hp},(∀b∈fp,H' b=none)->∀b∈fp,iJ (bw X xs scope fp U Z) pins H' b:=λ{H'} hn b Y=>by
  obtain⟨o,e⟩:=o3 b Y;rw[es3] at e;obtain⟨g0,g1,g2,g3,g4,g5⟩:=f3 b Y;refine⟨hn b Y,aC (am e),λz=>?_,.inl Y,λy c h=>?_,g5⟩
  ·rcases List.mem_cons.mp (I3.stkSub _ z) with q|q
   ·exact g1 q
   ·exact g2 q
  ·rcases C.cellx I.ok h with⟨_,e1⟩|⟨_,q⟩
   ·rw[e1];exact bq (Nat.lt_succ_of_lt (am e))
   ·exact g4 y c q
 have loop:codeAny (model X.prog X.w) X.A (.compLoop (.ListComp elt [⟨tg,iter,ifs,0⟩] scope pos) 0 (.ref it) (.ref B.heap.objs.size) (bw X xs scope fp U Z).env)
   (compPost (model X.prog X.w) X.A X.xe use QQ (Value.ref B.heap.objs.size) U.heap.objs.size) {U with heap:=h₁,toks:=B.toks}:=by
  refine n4 (λn s'=>∃i os ys H',os.length=xs.length/\Inv (bw X xs scope fp U Z) pins (os++σ) H' s'/\tn i s'.heap/\(∀b∈fp,H' b=none)/\W i n ys H') ?_ m0 ⟨0,List.replicate xs.length none,[],Z,List.length_replicate ..,K0,st3,λb Y=>(f3 b Y).1,w0⟩;rintro n s4 ⟨i,os,ys,H4,hos,I4,st4,fr4,w4⟩;rcases turn i n ys H4 w4 with⟨stop,qn⟩|⟨go,N,hNN,step⟩
  ·refine bL (T.done (bw X xs scope fp U Z) rfl rfl rfl hc i pins s4 (os++σ) H4 _ I4 (stat fr4) st4 stop) λr s5 ⟨hr,I5⟩=>?_;subst hr;exact fin I3 f3 I5 qn
  ·refine bL (T.item (bw X xs scope fp U Z) rfl rfl rfl hc i pins s4 (os++σ) H4 _ I4 (stat fr4) st4 go) λr s5 hp=>?_;obtain⟨u,hr,h5⟩:=hp;subst hr;refine bL h5 λ_ s6 hp=>?_;obtain⟨yv,H6,I6,r6,y6,st6,fr6⟩:=hp;have I6':=I6.pinned (stat fr6) (T.obj _ _ st6)
   have keepS:∀{qs:List (Option V)}{H':Hp}{s':Shared},Inv (bw X xs scope fp U Z) (pins++jC fp s6.heap) (qs++σ) H' s'->tn (i+1) s'.heap/\∀b∈fp,H' b=none:=λ{qs H' s'} I'=>by refine⟨T.keep _ _ _ st6 λb Y o e=>(I'.pin (b,o) (aS _ (aS _ (eu Y e)))).1,λb Y=>?_⟩;obtain⟨o,e,d⟩:=T.obj _ _ st6 b Y;exact(I'.pin (b,o) (aS _ (aS _ (eu Y e)))).2.1
   refine aY (hg fp U Z _ s6 (os++σ) H6 yv u _ I6' r6 (step yv H6 y6 os hos)) (λ_ s7 ⟨σ7,H7,I7,⟨ps,hps,hσ⟩,q7⟩=>?_) λ_ _ z=>False.elim z;subst hσ;refine aY (ht fp U Z _ s7 (ps++σ) H7 _ I7 q7) (λbb s8 ⟨H8,I8,q8⟩=>?_) λ_ _ z=>False.elim z;cases bb with
   |false=>rw[if_neg aP] at q8 ⊢;obtain⟨m',hm,w8⟩:=hNN ys H8 q8;obtain⟨a1,a2⟩:=keepS I8;exact⟨m',hm,i+1,ps,ys,H8,hps,I8.unpinned,a1,a2,w8⟩
   |true=>
   rw[if_pos rfl] at q8 ⊢;refine aY (he fp U Z _ s8 (ps++σ) H8 _ I8 q8) (λv9 s9 ⟨y9,H9,I9,r9,hacc,hsz,q9⟩=>?_) λ_ _ z=>False.elim z;refine aY (k7 (X:=bw X xs scope fp U Z) _ s9 (ps++σ) H9 (.ref B.heap.objs.size) [y9] _ [v9] (λ_ H'=>N (ys++[y9]) H') I9 rfl (.cons r9 .nil) ⟨_,_,_,rfl,rfl,hacc,hsz,q9⟩) (λ_ s10 ⟨_,H10,I10,_,q10⟩=>?_) λ_ _ z=>False.elim z;obtain⟨m',hm,w10⟩:=hNN _ H10 q10;obtain⟨a1,a2⟩:=keepS I10;exact⟨m',hm,i+1,ps,_,H10,hps,I10.unpinned,a1,a2,w10⟩
 have eC:(B.heap.push {cls:= .type "list",dict:=none,data:= .seq ([]:List Value).toArray}).objs.size=U.heap.objs.size:=by rw[es3]
 rw[eC];have es4:({heap:=h₁,gens:=B.gens,drawn:=B.drawn,toks:=B.toks,os:=B.os}:Shared)={U with heap:=h₁,toks:=B.toks}:=by rw[<-hs3]
 rw[es4];exact codeAny_compStart_list loop (T.self _ 0 _ _ _ st3 loop)
theorem qk{J:TI}{g:TG}{tc:TT}{te:TE}(hc:X.calm=true)(C:CompScope X scope)
  (hi:PI X tg iter J)(hg:∀fp s H,PG (bw X xs scope fp s H) tg g)(ht:∀fp s H,AG (bw X xs scope fp s H) ifs tc)(he:∀fp s H,PE (bw X xs scope fp s H) elt te)
  (hs:∀x,foldedSetIterable iter X.env x=pure x):PE X (.ListComp elt [⟨tg,iter,ifs,0⟩] scope pos) (p5 xs.length J g tc te):=by
 intro pins s σ H Q I h;rw[eval_ListComp];refine lq (use:=none) hc C hi hg ht he hs I h λI3 f3 U Z=>?_;obtain⟨m5,B,_⟩:=id U.loc;exact⟨m5,B,λh' Y=>⟨.ref _,_,nZ I3 f3 U Y,rfl,Z⟩⟩
theorem oS{z:Str}{U:Pos}{spos:Pos}{wi:TI}{g:TG}{tc:TT}{te:TE}{i:Nat}(hc:X.calm=true)(C:CompScope X scope)(hN:X.N.Nodup)
  (hi:PI X tg iter wi)(hg:∀fp s H,PG (bw X xs scope fp s H) tg g)(ht:∀fp s H,AG (bw X xs scope fp s H) ifs tc)(he:∀fp s H,PE (bw X xs scope fp s H) elt te)
  (hs:∀x,foldedSetIterable iter X.env x=pure x)(hy:X.N[i]? =some z)(hl:Loc X.env.scope z)(hf:X.fn z=true∨X.env.scope.names.lookup z=some .local):
  PS X (.Assign [.Name z U] (.ListComp elt [⟨tg,iter,ifs,0⟩] scope pos) spos) (tF (p5 xs.length wi g tc te) (f6 i)):=by
 have B:∃b,swapsWith (.ListComp elt [⟨tg,iter,ifs,0⟩] scope pos) (some (.Name z U)) spos.line X.env=pure b:=⟨_,rfl⟩;obtain⟨b,B⟩:=B;cases b with
 |false=>exact uf hN hy hl (qk hc C hi hg ht he hs) B hf
 |true=>
  intro pins s σ H D I h;rw[exec_Assign_Name_used _ _ _ _ B];refine aa (wpAny_standAt (aa ?_));show wpAny _ X.A (do let _ <-comprehension (.ListComp elt [⟨tg,iter,ifs,0⟩] scope pos) scope X.env _ (newList []) false (eval iter X.env) (some (assign (.Name z U) X.env))) _ _ s
  refine aa (aY (lq (use:=some (assign (.Name z U) X.env)) (QQ:=λ_ s'=>SP X pins D .next s') hc C hi hg ht he hs I h λ{fp Z s5 H3 H4 Dd os} J f3 I5 qn=>?_) (λ_ s' hq=>af (af hq)) λ_ _ e=>e)
  have I6:Inv X pins σ H4 s5:=by have:=nZ J f3 I5 (Heap.SameBut.refl _ _);exact this
  obtain⟨m5,hn5,_⟩:=id I5.loc;have hC0:H4 Z.heap.objs.size=none:=I5.free;have Y:X.env.locals≠Z.heap.objs.size:=aC J.lt;show wpAny _ X.A (assign (.Name z U) X.env (.ref Dd)) _ _ _;refine wpAny_assign_Name (kU (v:= .ref Dd) I6 hN hy hl rfl (λs7 I7 hch=>?_) hf);obtain⟨a,sb,ha⟩:=hch
  have hCa:Z.heap.objs.size≠a:=by
   rcases ha with rfl|ha
   ·exact Y.symm
   ·obtain⟨v,q⟩:=J.cell z a ha;exact(aC q.lt).symm
  refine⟨m5,hn5.sameBut sb hCa,λh' sb'=>⟨_,H4,?_,qn⟩⟩;refine I7.turned (t':=s7.toks) (it:=Z.heap.objs.size) (λb o B e=>(sb'.2 b B).trans e) hC0 Y.symm (.inr J.sz) (λz c e=>?_) λp hp=>?_
  ·obtain⟨v,q⟩:=J.cell z c e;exact aC q.lt
  ·exact aC (am (J.pin p hp).1)
end L2
namespace Ev
open PySem PySem.Spec PyProof.Rows L2
variable{xs ys:List V}{a p:Addr}{H H':Hp}{m m' n:Nat}{ι ι':Nat->Addr}{vs:List (Key×V)}
inductive D where
 |non|bl (b:Bool)|int (i:Int)|str (x:Str)|tup (xs:List D)|fl (xs:List D)|ref (n:Nat)
 deriving Inhabited
inductive O where
 |lst (xs:List D)|dct (kvs:List (Key×D))|ins (c:Str)(fs:List (Str×D))|dcf (kvs:List (Key×D))
noncomputable abbrev aW:=List O
inductive R(α:Type) where
 |ok (a:α)(st:aW)
 |bad
abbrev M(α:Type):=aW->R α
noncomputable def ret{α:Type}(a:α):M α:=λst=>.ok a st
def aZ{α β:Type}(m:M α)(f:α->M β):M β:=λst=>match m st with
 | .ok a st'=>f a st'
 | .bad=>.bad
noncomputable def stuck{α:Type}:M α:=λ_=>.bad
def d9{α:Type}(o:Option α):M α:=λst=>match o with
 |some a=>.ok a st
 |none=>.bad
noncomputable def items:O->Option (List D)
 | .lst xs=>some xs
 |_=>none
inductive Sh where
 |sc (v:V)|t (xs:List D)|l (xs:List D)|d (kvs:List (Key×D))
noncomputable def shape(st:aW):D->Option Sh
 | .non=>some (.sc .non)
 | .bl b=>some (.sc (.bl b))
 | .int i=>some (.sc (.int i))
 | .str x=>some (.sc (.str x))
 | .tup xs=>some (.t xs)
 | .fl xs=>some (.l xs)
 | .ref n=>match st[n]? with
  |some (.lst xs)=>some (.l xs)
  |some (.dct kvs)=>some (.d kvs)
  |_=>none
noncomputable def cz(f:D->D->Option Bool):List D->List D->Option Bool
 |[],[]=>some true
 |[],_::_=>some false
 |_::_,[]=>some false
 |a::as,b::bs=>match f a b,cz f as bs with
  |some x,some y=>some (x&&y)
  |_,_=>none
def uM:Key->Bool
 | .inl _=>true
 | .inr _=>false
noncomputable def mj(f:D->D->Option Bool)(a b:D):Option Bool:=match a,b with
 | .ref i,.ref j=>if i=j then some true else f a b
 |_,_=>f a b
def cj(n:Nat)(st:aW)(a b:D):Option Bool:=match n with
 |0=>none
 |n+1=>match shape st a,shape st b with
  |some (.sc x),some (.sc y)=>some (kz x y)
  |some (.t xs),some (.t ys)=>cz (mj (cj n st)) xs ys
  |some (.l xs),some (.l ys)=>cz (mj (cj n st)) xs ys
  |some (.d xs),some (.d ys)=>if xs.map (·.1)=ys.map (·.1)/\(xs.map (·.1)).all uM=true then cz (mj (cj n st)) (xs.map (·.2)) (ys.map (·.2)) else none
  |some (.d _),some _=>none
  |some _,some (.d _)=>none
  |some _,some _=>some false
  |_,_=>none
def qZ(K:aD)(H:Hp)(a:Addr)(xs:List V):Prop:=
 (∃o,H a=some (.frz o (.lst xs)))∨
  ∃(o:Obj)(its:Array Value)(n:Nat),K.lookup a=some o/\o.cls=.type "list" /\o.dict=none/\o.data=.seq its n/\its.size<=sizeLine/\bh xs its.toList
theorem qZ.sql{K:aD}(h:qZ K H a xs):c8 K H a xs:=by
 rcases h with h|h
 ·exact .inl (.inr h)
 ·exact .inr h
mutual
inductive VRel(K:aD)(H:Hp)(ι:Nat->Addr)(m:Nat):D->V->Prop where
 |non:VRel K H ι m .non .non
 |bl (b:Bool):VRel K H ι m (.bl b) (.bl b)
 |int (i:Int):VRel K H ι m (.int i) (.int i)
 |str (x:Str):VRel K H ι m (.str x) (.str x)
 |tup {a:Addr}{ds:List D}{xs:List V}(h:fV K H a xs)(r:VRels K H ι m ds xs):VRel K H ι m (.tup ds) (.ref a)
 |fl {a:Addr}{ds:List D}{xs:List V}(h:qZ K H a xs)(r:VRels K H ι m ds xs):VRel K H ι m (.fl ds) (.ref a)
 |ref {n:Nat}(h:n<m):VRel K H ι m (.ref n) (.ref (ι n))
inductive VRels(K:aD)(H:Hp)(ι:Nat->Addr)(m:Nat):List D->List V->Prop where
 |nil:VRels K H ι m [] []
 |cons {d:D}{v:V}{ds:List D}{vs:List V}(h:VRel K H ι m d v)(t:VRels K H ι m ds vs):VRels K H ι m (d::ds) (v::vs)
end
structure Ext0(H H':Hp)(ι ι':Nat->Addr)(m m':Nat):Prop where
 le:m<=m'
 ad:∀n,n<m->ι' n=ι n
 tp:∀b xs,H b=some (.tup xs)->H' b=some (.tup xs)
 fz:∀b o u,H b=some (.frz o u)->H' b=some (.frz o u)
structure Ext(H H':Hp)(ι ι':Nat->Addr)(m m':Nat):Prop extends Ext0 H H' ι ι' m m' where
 fr:∀b o,H b=some o->(∀n,n<m->ι n≠b)->H' b=some o/\∀n,n<m'->ι' n≠b
theorem Ext.refl(H:Hp)(ι:Nat->Addr)(m:Nat):Ext H H ι ι m m:=⟨⟨ac _,λ_ _=>rfl,λ_ _ h=>h,λ_ _ _ h=>h⟩,λ_ _ h k=>⟨h,k⟩⟩
theorem Ext.trans{H1 U:Hp}{ι1 ι2:Nat->Addr}{I B:Nat}(a:Ext H H1 ι ι1 m I)(b:Ext H1 U ι1 ι2 I B):Ext H U ι ι2 m B:=
 ⟨⟨aB a.le b.le,λn J=>(b.ad n (aA J a.le)).trans (a.ad n J),λc xs e=>b.tp c xs (a.tp c xs e),λc o u e=>b.fz c o u (a.fz c o u e)⟩,λc o e k=>by obtain⟨Z,Y⟩:=a.fr c o e k;exact b.fr c o Z Y⟩
theorem fV.ext{K:aD}(e:Ext0 H H' ι ι' m m')(h:fV K H a xs):fV K H' a xs:=by
 rcases h with(h|⟨o,h⟩)|h
 ·exact .inl (.inl (e.tp _ _ h))
 ·exact .inl (.inr ⟨o,e.fz _ _ _ h⟩)
 ·exact .inr h
theorem qZ.ext{K:aD}(e:Ext0 H H' ι ι' m m')(h:qZ K H a xs):qZ K H' a xs:=by
 rcases h with⟨o,h⟩|h
 ·exact .inl ⟨o,e.fz _ _ _ h⟩
 ·exact .inr h
mutual
theorem VRel.ext0{K:aD}(e:Ext0 H H' ι ι' m m'):∀{d:D}{v:V},VRel K H ι m d v->VRel K H' ι' m' d v
 |_,_,.non=>.non
 |_,_,.bl b=>.bl b
 |_,_,.int i=>.int i
 |_,_,.str x=>.str x
 |_,_,.tup h r=>.tup (fV.ext e h) (VRels.ext0 e r)
 |_,_,.fl h r=>.fl (qZ.ext e h) (VRels.ext0 e r)
 |_,_,.ref (n:=n) h=>by rw[<-e.ad n h];exact .ref (aA h e.le)
theorem VRels.ext0{K:aD}(e:Ext0 H H' ι ι' m m'):∀{ds:List D}{vs:List V},VRels K H ι m ds vs->VRels K H' ι' m' ds vs
 |_,_,.nil=>.nil
 |_,_,.cons h t=>.cons (VRel.ext0 e h) (VRels.ext0 e t)
end
theorem VRel.ext{K:aD}{d:D}{v:V}(h:VRel K H ι m d v)(e:Ext H H' ι ι' m m'):VRel K H' ι' m' d v:=VRel.ext0 e.toExt0 h
theorem VRels.ext{K:aD}{d:List D}{v:List V}(h:VRels K H ι m d v)(e:Ext H H' ι ι' m m'):VRels K H' ι' m' d v:=VRels.ext0 e.toExt0 h
section
variable{K:aD}{H:Hp}{ι:Nat->Addr}{m:Nat}
theorem VRels.length:∀{ds:List D}{vs:List V},VRels K H ι m ds vs->ds.length=vs.length
 |_,_,.nil=>rfl
 |_,_,.cons _ t=>by rw[List.length_cons,List.length_cons,t.length]
theorem VRels.get:∀{ds:List D}{vs:List V}{i:Nat}{d:D},VRels K H ι m ds vs->ds[i]? =some d->∃v,vs[i]? =some v/\VRel K H ι m d v
 |_,_,_,_,.nil,e=>by simp at e
 |_,_,0,_,.cons r _,e=>by simp at e;subst e;exact⟨_,rfl,r⟩
 |_,_,i+1,d,.cons _ t,e=>by
  obtain⟨v,h1,B⟩:=t.get (i:=i) (d:=d) (by simpa using e)
  exact⟨v,by simpa using h1,B⟩
theorem VRels.append:∀{ds es:List D}{vs ws:List V},VRels K H ι m ds vs->VRels K H ι m es ws->VRels K H ι m (ds++es) (vs++ws)
 |_,_,_,_,.nil,s=>s
 |_,_,_,_,.cons r t,s=>.cons r (t.append s)
theorem VRels.set:∀{ds:List D}{vs:List V}{d:D}{v:V}(i:Nat),VRels K H ι m ds vs->VRel K H ι m d v->VRels K H ι m (ds.set i d) (vs.set i v)
 |_,_,_,_,_,.nil,_=>.nil
 |_,_,_,_,0,.cons _ t,r=>.cons r t
 |_,_,_,_,i+1,.cons q t,r=>.cons q (t.set i r)
theorem VRels.take:∀{ds:List D}{vs:List V}(n:Nat),VRels K H ι m ds vs->VRels K H ι m (ds.take n) (vs.take n)
 |_,_,0,_=>.nil
 |_,_,_+1,.nil=>.nil
 |_,_,n+1,.cons r t=>.cons r (t.take n)
theorem VRels.drop:∀{ds:List D}{vs:List V}(n:Nat),VRels K H ι m ds vs->VRels K H ι m (ds.drop n) (vs.drop n)
 |_,_,0,h=>h
 |_,_,_+1,.nil=>.nil
 |_,_,n+1,.cons _ t=>t.drop n
end
inductive DRels(K:aD)(H:Hp)(ι:Nat->Addr)(m:Nat):List (Key×D)->List (Key×V)->Prop where
 |nil:DRels K H ι m [] []
 |cons {k:Key}{d:D}{v:V}{ds:List (Key×D)}{vs:List (Key×V)}(h:VRel K H ι m d v)(t:DRels K H ι m ds vs):DRels K H ι m ((k,d)::ds) ((k,v)::vs)
theorem DRels.ext0{K:aD}(e:Ext0 H H' ι ι' m m'){ds:List (Key×D)}(h:DRels K H ι m ds vs):DRels K H' ι' m' ds vs:=by
 induction h with
 |nil=>exact .nil
 |cons h t ih=>exact .cons (VRel.ext0 e h) ih
theorem DRels.ext{K:aD}{ds:List (Key×D)}(h:DRels K H ι m ds vs)(e:Ext H H' ι ι' m m'):DRels K H' ι' m' ds vs:=h.ext0 e.toExt0
theorem DRels.length{K:aD}{ds:List (Key×D)}(h:DRels K H ι m ds vs):ds.length=vs.length:=by
 induction h with
 |nil=>rfl
 |cons h t ih=>rw[List.length_cons,List.length_cons,ih]
theorem DRels.append{K:aD}{ds es:List (Key×D)}{ws:List (Key×V)}(h:DRels K H ι m ds vs)(k:DRels K H ι m es ws):DRels K H ι m (ds++es) (vs++ws):=by
 induction h with
 |nil=>exact k
 |cons h t ih=>exact .cons h ih
inductive FRels(K:aD)(H:Hp)(ι:Nat->Addr)(m:Nat):List (Str×D)->List (Str×V)->Prop where
 |nil:FRels K H ι m [] []
 |cons {k:Str}{d:D}{v:V}{ds:List (Str×D)}{vs:List (Str×V)}(h:VRel K H ι m d v)(t:FRels K H ι m ds vs):FRels K H ι m ((k,d)::ds) ((k,v)::vs)
theorem FRels.ext0{K:aD}(e:Ext0 H H' ι ι' m m'){ds:List (Str×D)}{vs:List (Str×V)}(h:FRels K H ι m ds vs):FRels K H' ι' m' ds vs:=by
 induction h with
 |nil=>exact .nil
 |cons h t ih=>exact .cons (VRel.ext0 e h) ih
theorem FRels.look{K:aD}{f:Str}{ds:List (Str×D)}{vs:List (Str×V)}(h:FRels K H ι m ds vs){d:D}(e:ds.lookup f=some d):∃v,vs.lookup f=some v/\VRel K H ι m d v:=by
 induction h with
 |nil=>cases e
 | @cons k d' v ds vs h t ih=>
  rw[List.lookup_cons] at e ⊢;cases q:f==k with
  |true=>rw[q] at e;cases e;exact⟨v,rfl,h⟩
  |false=>rw[q] at e;exact ih e
noncomputable def putD(f:Str)(d:D):List (Str×D)->List (Str×D)
 |[]=>[(f,d)]
 |(g,x)::r=>if g=f then(g,d)::r else(g,x)::putD f d r
theorem FRels.put{K:aD}{f:Str}{d:D}{v:V}(q:VRel K H ι m d v){ds:List (Str×D)}{vs:List (Str×V)}(h:FRels K H ι m ds vs):FRels K H ι m (putD f d ds) (dk f v vs):=by
 induction h with
 |nil=>exact .cons q .nil
 | @cons k d' v' ds vs h t ih=>
  unfold putD dk;by_cases e:k=f
  ·rw[if_pos e,if_pos e];exact .cons q t
  ·rw[if_neg e,if_neg e];exact .cons h ih
theorem FRels.length{K:aD}{ds:List (Str×D)}{vs:List (Str×V)}(h:FRels K H ι m ds vs):ds.length=vs.length:=by
 induction h with
 |nil=>rfl
 |cons h t ih=>rw[List.length_cons,List.length_cons,ih]
def iI(K:aD)(H:Hp)(ι:Nat->Addr)(m:Nat)(a:Addr):O->Prop
 | .lst ds=>∃xs,H a=some (.lst xs)/\VRels K H ι m ds xs
 | .dct kvs=>∃vs,H a=some (.dK vs)/\DRels K H ι m kvs vs
 | .ins x fs=>∃C dx vs,PySem.W.nsIn K mainGlobals x=some (some (.ref C))/\H a=some (.ins C dx vs)/\FRels K H ι m fs vs/\fs.length<=900
 | .dcf kvs=>∃ob vs,H a=some (.frz ob (.dK vs))/\DRels K H ι m kvs vs
theorem iI.move{K:aD}{o:O}(h:iI K H ι m a o)(E:Ext0 H H' ι ι' m m')(I:H' a=H a):iI K H' ι' m' a o:=by
 cases o with
 |lst ds=>obtain⟨xs,h1,B⟩:=h;exact⟨xs,I.trans h1,VRels.ext0 E B⟩
 |dct ds=>obtain⟨xs,h1,B⟩:=h;exact⟨xs,I.trans h1,B.ext0 E⟩
 |ins x fs=>obtain⟨C,dx,xs,h0,h1,B,U⟩:=h;exact⟨C,dx,xs,h0,I.trans h1,B.ext0 E,U⟩
 |dcf ds=>obtain⟨J,xs,h1,B⟩:=h;exact⟨J,xs,I.trans h1,B.ext0 E⟩
theorem iI.there{K:aD}{o:O}(h:iI K H ι m a o):∃u,H a=some u/\(∀xs,u≠ .tup xs)/\∀I w,(∀kvs,w≠ .dK kvs)->u≠ .frz I w:=by
 cases o with
 |lst ds=>obtain⟨xs,h1,B⟩:=h;exact⟨_,h1,(λ_ z=>by cases z),(λ_ _ _ z=>by cases z)⟩
 |dct ds=>obtain⟨xs,h1,B⟩:=h;exact⟨_,h1,(λ_ z=>by cases z),(λ_ _ _ z=>by cases z)⟩
 |ins x fs=>obtain⟨C,dx,xs,h0,h1,B⟩:=h;exact⟨_,h1,(λ_ z=>by cases z),(λ_ _ _ z=>by cases z)⟩
 |dcf ds=>obtain⟨I,xs,h1,B⟩:=h;exact⟨_,h1,(λ_ z=>by cases z),(λ_ _ n z=>by cases z;exact n _ rfl)⟩
theorem iI.there2{K:aD}{o:O}(h:iI K H ι m a o)(J:∀kvs,o≠ .dcf kvs):∃u,H a=some u/\(∀xs,u≠ .tup xs)/\∀I w,u≠ .frz I w:=by
 cases o with
 |lst ds=>obtain⟨xs,h1,B⟩:=h;exact⟨_,h1,(λ_ z=>by cases z),(λ_ _ z=>by cases z)⟩
 |dct ds=>obtain⟨xs,h1,B⟩:=h;exact⟨_,h1,(λ_ z=>by cases z),(λ_ _ z=>by cases z)⟩
 |ins x fs=>obtain⟨C,dx,xs,h0,h1,B⟩:=h;exact⟨_,h1,(λ_ z=>by cases z),(λ_ _ z=>by cases z)⟩
 |dcf ds=>exact absurd rfl (J ds)
structure Sim(K:aD)(H:Hp)(ι:Nat->Addr)(st:aW):Prop where
 inj:∀i j,i<st.length->j<st.length->ι i=ι j->i=j
 ob:∀n o,st[n]? =some o->iI K H ι st.length (ι n) o
theorem Sim.laid{K:aD}{st:aW}(S:Sim K H ι st)(J:H p=none){ho:HO}{o:O}
  (hr:∀ι',(∀n,n<st.length->ι' n=ι n)->ι' st.length=p->iI K (upd H p ho) ι' (st.length+1) p o):
  ∃ι',Ext H (upd H p ho) ι ι' st.length (st.length+1)/\ι' st.length=p/\Sim K (upd H p ho) ι' (st++[o]):=by
 have Z:∀n o,st[n]? =some o->ι n≠p:=λn o e=>by have q:=S.ob n o e;obtain⟨u,h1,_⟩:=q.there;exact aH h1 J
 have E:Ext H (upd H p ho) ι (λn=>if n=st.length then p else ι n) st.length (st.length+1):=⟨⟨Nat.le_succ _,λn I=>by simp[Nat.ne_of_lt I],λb xs e=>by rw[aG (aH e J)];exact e,λb B u e=>by rw[aG (aH e J)];exact e⟩,λb B e k=>by
  refine⟨by rw[aG (aH e J)];exact e,λn I=>?_⟩
  by_cases hn':n=st.length
  ·rw[if_pos hn'];exact(aH e J).symm
  ·rw[if_neg hn'];exact k n (by omega)⟩
 refine⟨λn=>if n=st.length then p else ι n,E,by simp,?_⟩
 have lt:∀{n},n<st.length->∃o,st[n]? =some o:=λ{n} I=>⟨st[n],by simp[I]⟩
 refine⟨λi j hi hj e=>?_,λn B e=>?_⟩
 ·rw[ai,List.length_singleton] at hi hj;by_cases hi':i=st.length
  ·by_cases hj':j=st.length
   ·omega
   ·have q:p=ι j:=by simpa[hi',hj'] using e
    obtain⟨B,eo⟩:=lt (show j<st.length by omega)
    exact absurd q.symm (Z j B eo)
  ·by_cases hj':j=st.length
   ·have q:ι i=p:=by simpa[hi',hj'] using e
    obtain⟨B,eo⟩:=lt (show i<st.length by omega)
    exact absurd q (Z i B eo)
   ·exact S.inj i j (by omega) (by omega) (by simpa[hi',hj'] using e)
 ·rw[ai,List.length_singleton];by_cases I:n=st.length
  ·subst I;rw[aE (ac _),Nat.sub_self] at e;have e':o=B:=by simpa using e
   subst e';have:=hr (λn=>if n=st.length then p else ι n) (λn I=>by simp[Nat.ne_of_lt I]) (by simp)
   simpa using this
  ·have Y:n<st.length:=by have:=(av e).1;rw[ai,List.length_singleton] at this;omega
   rw[ao Y] at e;have old:=S.ob n B e;have U:ι n≠p:=Z n B e;have hι:(if n=st.length then p else ι n)=ι n:=by rw[if_neg I]
   rw[hι];exact old.move E.toExt0 (aG U)
theorem Sim.write{K:aD}{st:aW}(S:Sim K H ι st){ds es:List D}(e:st[n]? =some (.lst ds))(r:VRels K H ι st.length es ys):
  Ext H (upd H (ι n) (.lst ys)) ι ι st.length st.length/\Sim K (upd H (ι n) (.lst ys)) ι (st.set n (.lst es)):=by
 obtain⟨xs,h1,Y⟩:=S.ob n _ e;have I:n<st.length:=(av e).1
 have E:Ext H (upd H (ι n) (.lst ys)) ι ι st.length st.length:=by
  refine⟨⟨ac _,λ_ _=>rfl,λb zs q=>?_,λb o u q=>?_⟩,λb o q k=>⟨by rw[aG (k n I).symm];exact q,k⟩⟩
  ·rw[aG (b7 q h1 (by intro z;cases z))];exact q
  ·rw[aG (b7 q h1 (by intro z;cases z))];exact q
 refine⟨E,λi j hi U=>S.inj i j (by simpa using hi) (by simpa using U),λk o q=>?_⟩
 rw[au];by_cases hk:k=n
 ·subst hk;rw[aL I] at q;cases q;exact⟨ys,bf,r.ext E⟩
 ·rw[aF (Ne.symm hk)] at q;have J:k<st.length:=(av q).1;have B:ι k≠ι n:=λz=>hk (S.inj k n J I z);have old:=S.ob k o q;exact old.move E.toExt0 (aG B)
theorem Sim.add{K:aD}{st:aW}(S:Sim K H ι st){ds:List D}(U:H p=some (.lst ys))(ap:∀n,n<st.length->ι n≠p)(r:VRels K H ι st.length ds ys):
  ∃ι',(∀n,n<st.length->ι' n=ι n)/\ι' st.length=p/\Sim K H ι' (st++[.lst ds]):=by
 have up:Ext0 H H ι (λn=>if n=st.length then p else ι n) st.length (st.length+1):=⟨Nat.le_succ _,λn B=>by simp[Nat.ne_of_lt B],λ_ _ e=>e,λ_ _ _ e=>e⟩
 refine⟨λn=>if n=st.length then p else ι n,λn B=>by simp[Nat.ne_of_lt B],by simp,⟨λi j hi Y e=>?_,λn J e=>?_⟩⟩
 ·rw[ai,List.length_singleton] at hi Y;by_cases hi':i=st.length
  ·by_cases hj':j=st.length
   ·omega
   ·exact absurd (show ι j=p by simpa[hi',hj'] using e.symm) (ap j (by omega))
  ·by_cases hj':j=st.length
   ·exact absurd (show ι i=p by simpa[hi',hj'] using e) (ap i (by omega))
   ·exact S.inj i j (by omega) (by omega) (by simpa[hi',hj'] using e)
 ·rw[ai,List.length_singleton];by_cases B:n=st.length
  ·subst B;rw[aE (ac _),Nat.sub_self] at e;have e':O.lst ds=J:=by simpa using e
   subst e';refine⟨ys,?_,VRels.ext0 up r⟩;simpa using U
  ·have I:n<st.length:=by have:=(av e).1;rw[ai,List.length_singleton] at this;omega
   rw[ao I] at e;have old:=S.ob n J e;have hι:(if n=st.length then p else ι n)=ι n:=by rw[if_neg B]
   rw[hι];exact old.move up rfl
theorem Sim.writeD{K:aD}{st:aW}(S:Sim K H ι st){kvs B:List (Key×D)}{ys:List (Key×V)}(e:st[n]? =some (.dct kvs))(r:DRels K H ι st.length B ys):
  Ext H (upd H (ι n) (.dK ys)) ι ι st.length st.length/\Sim K (upd H (ι n) (.dK ys)) ι (st.set n (.dct B)):=by
 obtain⟨xs,h1,Z⟩:=S.ob n _ e;have J:n<st.length:=(av e).1
 have E:Ext H (upd H (ι n) (.dK ys)) ι ι st.length st.length:=by
  refine⟨⟨ac _,λ_ _=>rfl,λb zs q=>?_,λb o u q=>?_⟩,λb o q k=>⟨by rw[aG (k n J).symm];exact q,k⟩⟩
  ·rw[aG (b7 q h1 (by intro z;cases z))];exact q
  ·rw[aG (b7 q h1 (by intro z;cases z))];exact q
 refine⟨E,λi j hi Y=>S.inj i j (by simpa using hi) (by simpa using Y),λk o q=>?_⟩
 rw[au];by_cases hk:k=n
 ·subst hk;rw[aL J] at q;cases q;exact⟨ys,bf,r.ext E⟩
 ·rw[aF (Ne.symm hk)] at q;have U:k<st.length:=(av q).1;have I:ι k≠ι n:=λz=>hk (S.inj k n U J z);have old:=S.ob k o q;exact old.move E.toExt0 (aG I)
theorem Sim.addD{K:aD}{st:aW}(S:Sim K H ι st){ys:List (Key×V)}{ds:List (Key×D)}(U:H p=some (.dK ys))(ap:∀n,n<st.length->ι n≠p)(r:DRels K H ι st.length ds ys):
  ∃ι',(∀n,n<st.length->ι' n=ι n)/\ι' st.length=p/\Sim K H ι' (st++[.dct ds]):=by
 have up:Ext0 H H ι (λn=>if n=st.length then p else ι n) st.length (st.length+1):=⟨Nat.le_succ _,λn B=>by simp[Nat.ne_of_lt B],λ_ _ e=>e,λ_ _ _ e=>e⟩
 refine⟨λn=>if n=st.length then p else ι n,λn B=>by simp[Nat.ne_of_lt B],by simp,⟨λi j hi Y e=>?_,λn J e=>?_⟩⟩
 ·rw[ai,List.length_singleton] at hi Y;by_cases hi':i=st.length
  ·by_cases hj':j=st.length
   ·omega
   ·exact absurd (show ι j=p by simpa[hi',hj'] using e.symm) (ap j (by omega))
  ·by_cases hj':j=st.length
   ·exact absurd (show ι i=p by simpa[hi',hj'] using e) (ap i (by omega))
   ·exact S.inj i j (by omega) (by omega) (by simpa[hi',hj'] using e)
 ·rw[ai,List.length_singleton];by_cases B:n=st.length
  ·subst B;rw[aE (ac _),Nat.sub_self] at e;have e':O.dct ds=J:=by simpa using e
   subst e';refine⟨ys,?_,r.ext0 up⟩;simpa using U
  ·have I:n<st.length:=by have:=(av e).1;rw[ai,List.length_singleton] at this;omega
   rw[ao I] at e;have old:=S.ob n J e;have hι:(if n=st.length then p else ι n)=ι n:=by rw[if_neg B]
   rw[hι];exact old.move up rfl
end Ev
namespace PySem.SeqAt
open AutoSeq1 (wpAny_loadPart')
open MeetsSeq
variable{ns:List Int}{es es2:Array DictEntry}{ep ep2:Nat}{a b l:Addr}{f:Nat->Bool}
noncomputable def KD(es:Array DictEntry)(ns:List Int):Prop:=es.size=ns.length/\∀(i:Nat)(e:DictEntry)(n:Int),es[i]? =some e->ns[i]? =some n->(∃t,e.key=.int n t)/\e.hash=hashInt n
def xM(h:Heap)(d:Addr)(ns:List Int)(us:List Value):Prop:=
 ∃es ep,h.get? d=some {cls:= .type "dict",dict:=none,data:= .dict es ep,slots:= #[]}/\es.toList.map (·.val)=us/\ns.Nodup/\KD es ns
theorem BR(B:KD es ns)(prog:Program)(w:World):KeysOf (intKind prog w) es:=by
 obtain⟨I,B⟩:=B;intro e J;obtain⟨i,hi,rfl⟩:=Array.getElem_of_mem J;have Z:ns[i]? =some (ns[i]'(by omega)):=by simp[<-I,hi]
 obtain⟨⟨t,Y⟩,U⟩:=B i es[i] _ (by simp[hi]) Z
 exact⟨ns[i]'(by omega),by rw[Y];exact intKind_is _ _ _ _,U⟩
theorem B4(nd:ns.Nodup)(I:KD es ns)(prog:Program)(w:World){i:Nat}{n:Int}(h:ns[i]? =some n):es.findIdx? (λe=>(intKind prog w).is n e.key)=some i:=by
 obtain⟨U,I⟩:=I;obtain⟨hi,rfl⟩:=av h
 have key:∀j (B:j<es.size),(intKind prog w).is ns[i] es[j].key=decide (ns[i]=ns[j]'(by omega)):=λj B=>by
  obtain⟨⟨t,J⟩,_⟩:=I j es[j] (ns[j]'(by omega)) (by simp[B]) (by simp)
  rw[J];exact KeyKind.is_eq_decide (intKind_is _ _ _ _) _
 rw[Array.findIdx?_eq_some_iff_getElem];refine⟨by omega,by rw[key i (by omega)];simp,λj B=>?_⟩
 rw[key j (by omega)]
 have:ns[i]≠ns[j]:=λe=>by
  have:=List.pairwise_iff_getElem.mp nd j i (by omega) hi B
  exact this e.symm
 simp[this]
section
variable{prog:Program}{w:World}{A:Around}{E:Value->Shared->Prop}{s:Shared}
theorem xt{Q:Array DictEntry->Shared->Prop}(ho:s.heap.get? a=some {cls:= .type "dict",dict:=none,data:= .dict es ep,slots:= #[]})(h:Q es s):wpAny (model prog w) A (dictEntries a) Q E s:=by unfold dictEntries;exact aa (wpAny_loadPart' ho (af h))
theorem DQ{Q:Nat->Shared->Prop}(ho:s.heap.get? a=some {cls:= .type "dict",dict:=none,data:= .dict es ep,slots:= #[]})(h:Q ep s):wpAny (model prog w) A (dictEpoch a) Q E s:=by unfold dictEpoch;exact aa (wpAny_loadPart' ho (af h))
theorem jx{id:String}{Q:Bool->Shared->Prop}(zl:(l==sysModules)=false)(zb:(b==sysModules)=false)(U:s.heap.get? l=some {cls:= .type "dict",dict:=none,data:= .dict es ep,slots:= #[]})(hb:s.heap.get? b=some {cls:= .type "dict",dict:=none,data:= .dict es2 ep2,slots:= #[]})
  (nd:ns.Nodup)(h1:KD es ns)(h2:KD es2 ns)(he:∀(j:Nat)(e Y:DictEntry),es[j]? =some e->es2[j]? =some Y->EqAt A s e.val Y.val (f j))(h:Q ((List.range es.size).all f) s):
  wpAny (model prog w) A (Builtin.Dict.samePairs id l b) Q E s:=by
 have e1:=h1.1;have Y:=h2.1;unfold Builtin.Dict.samePairs Builtin.Dict.showsAll;rw[zl,zb];refine aa (af (aa (af (aa (xt U (aa (xt hb ?_)))))));rw[if_neg (by simp[e1,Y])]
 refine aa (DQ U ?_);rw[Std.Legacy.Range.forIn_eq_forIn_range'];refine aa (wpAny_forIn_list _ (λrest q s'=>s'=s/\q=(none,())/\∃k,k+rest.length=es.size/\rest=List.range' k rest.length/\(List.range k).all f=true) _ (λi rest q s' hI=>?_) (λq s' hI=>?_) _ _ ?_)
 ·obtain⟨rfl,rfl,k,hk,Z,ha⟩:=hI
  have hik:i=k/\rest=List.range' (k+1) rest.length:=by rw[List.length_cons,List.range'_succ] at Z;injection Z with q1 q2;exact⟨q1,q2⟩
  obtain⟨rfl,B⟩:=hik;rw[List.length_cons] at hk;have hi:i<es.size:=by omega
  refine aa (xt U ?_);rw[show es[i]? =some es[i] by simp[hi]]
  dsimp only;have hn:ns[i]? =some (ns[i]'(by omega)):=by simp
  obtain⟨⟨t,k1⟩,k2⟩:=h1.2 i es[i] _ (by simp[hi]) hn
  refine aa (wpAny_holding (aa ?_));rw[k2];refine wpAny_dictFind_of (knd:=intKind prog w) (k:=ns[i]'(by omega)) (by rw[k1];exact intKind_is _ _ _ _) hb rfl (BR h2 prog w) ?_
  rw[B4 nd h2 prog w hn];dsimp only;refine aa (xt hb ?_);have I:i<es2.size:=by omega
  rw[show es2[i]? =some es2[i] by simp[I]]
  dsimp only;refine wpAny_holding (he i _ _ (by simp[hi]) (by simp[I]) prog w _ _ ?_)
  cases hf:f i with
  |false=>
   have J:(List.range es.size).all f=false:=by
    rw[List.all_eq_false];exact⟨i,List.mem_range.mpr hi,by simp[hf]⟩
   rw[J] at h;exact af (af h)
  |true=>
   refine aa (DQ U ?_);rw[if_neg (by simp)]
   refine af ⟨rfl,rfl,i+1,by omega,B,?_⟩
   rw[List.range_succ,List.all_append,ha];simp[hf]
 ·obtain⟨rfl,rfl,k,hk,Z,ha⟩:=hI;have:k=es.size:=by simpa using hk
  subst this;rw[ha] at h;exact af h
 ·refine⟨rfl,rfl,0,by simp[Std.Legacy.Range.size],by simp[Std.Legacy.Range.size],rfl⟩
theorem sA(J:(l==sysModules)=false)(U:(b==sysModules)=false)(nd:ns.Nodup)(h1:KD es ns)(Z:KD es2 ns):
  Meets (Builtin.«dict.__eq__» ⟨[.ref l,.ref b],[]⟩) (λA R s=>s.heap.get? l=some {cls:= .type "dict",dict:=none,data:= .dict es ep,slots:= #[]}/\s.heap.get? b=some {cls:= .type "dict",dict:=none,data:= .dict es2 ep2,slots:= #[]}/\
   (∀(j:Nat)(e e2:DictEntry),es[j]? =some e->es2[j]? =some e2->EqAt A.in1 s e.val e2.val (f j))/\R (.ok (.ret (.bool ((List.range es.size).all f)))) s):=
 .of_wp λprog w A R s h=>by
  obtain⟨hp,g,d,tk,os⟩:=s;obtain⟨B,I,Y,h⟩:=h
  wp_walk using wpAny_loadPart' B,wpAny_loadPart' I
  refine wpAny_of_eq F.sub_dict_dict ?_;refine aa (af (aa (af (aa (jx (f:=f) J U B I nd h1 Z Y ?_)))));exact af ⟨_,rfl,by simpa using h⟩
theorem sy(J:(l==sysModules)=false)(U:(b==sysModules)=false)(nd:ns.Nodup)(h1:KD es ns)(Z:KD es2 ns):
  Meets (Builtin.«dict.__ne__» ⟨[.ref l,.ref b],[]⟩) (λA R s=>s.heap.get? l=some {cls:= .type "dict",dict:=none,data:= .dict es ep,slots:= #[]}/\s.heap.get? b=some {cls:= .type "dict",dict:=none,data:= .dict es2 ep2,slots:= #[]}/\
   (∀(j:Nat)(e e2:DictEntry),es[j]? =some e->es2[j]? =some e2->EqAt A.in1 s e.val e2.val (f j))/\R (.ok (.ret (.bool (!(List.range es.size).all f)))) s):=
 .of_wp λprog w A R s h=>by
  obtain⟨hp,g,d,tk,os⟩:=s;obtain⟨B,I,Y,h⟩:=h
  wp_walk using wpAny_loadPart' B,wpAny_loadPart' I
  refine wpAny_of_eq F.sub_dict_dict ?_;refine aa (af (aa (af (aa (jx (f:=f) J U B I nd h1 Z Y ?_)))));refine af ⟨_,rfl,?_⟩;cases q:(List.range es.size).all f<;>rw[q] at h<;>exact h
end
section
variable{A:Around}{s:Shared}
theorem RcAt.dicts{us vs:List Value}(U:(l==sysModules)=false)(Y:(b==sysModules)=false)(hl:xM s.heap l ns us)(hb:xM s.heap b ns vs)(hu:A.units<cLine)(he:∀j (h1:j<us.length)(h2:j<vs.length),EqAt A.in1 s us[j] vs[j] (f j)):
  RcAt A s (.ref l) (.ref b) ((List.range us.length).all f)/\RcNeAt A s (.ref l) (.ref b) (!(List.range us.length).all f):=by
 obtain⟨es,ep,ho,rfl,nd,k1⟩:=hl;obtain⟨es2,ep2,B,rfl,_,Z⟩:=hb
 have I:∀(j:Nat)(e J:DictEntry),es[j]? =some e->es2[j]? =some J->EqAt A.in1 s e.val J.val (f j):=λj e J q1 q2=>by
  obtain⟨i1,rfl⟩:=Array.getElem?_eq_some_iff.mp q1;obtain⟨i2,rfl⟩:=Array.getElem?_eq_some_iff.mp q2;have:=he j (by simpa using i1) (by simpa using i2)
  simpa using this
 rw[List.length_map,Array.length_toList]
 exact⟨λprog w E Q h=>richCompare_meets_room (op:= .Eq) ⟨_,ho,rfl⟩ ⟨_,B,rfl⟩ F.slot_dict_eq F.entry_dict_eq (F.args_dict_eq_2 _ _) (sA U Y nd k1 Z) ⟨ho,B,I,(λx=>nomatch x),h⟩ hu,
  λprog w E Q h=>richCompare_meets_room (op:= .NotEq) ⟨_,ho,rfl⟩ ⟨_,B,rfl⟩ F.slot_dict_ne F.entry_dict_ne (F.args_dict_ne_2 _ _) (sy U Y nd k1 Z) ⟨ho,B,I,(λx=>nomatch x),h⟩ hu⟩
end
end PySem.SeqAt
set_option genInjectivity false
namespace Ev
variable{α β:Type}{u v:Value}{x y:V}{s:Shared}{A:Around}{a l:Addr}{m n:Nat}{ι:Nat->Addr}{H:Hp}{st:aW}{σ:L2.St}{pins:List (Addr×Obj)}{X:Cx}
theorem bs{o:Option α}{f:α->Option β}{b:β}(h:o.bind f=some b):∃a,o=some a/\f a=some b:=by
 cases o with
 |none=>cases h
 |some a=>exact⟨a,rfl,h⟩
theorem fX{c:Prop}[Decidable c]{x:Option β}{b:β}(h:(if c then x else none)=some b):c/\x=some b:=by
 by_cases k:c
 ·rw[if_pos k] at h;exact⟨k,h⟩
 ·rw[if_neg k] at h;cases h
theorem Dm{c:Prop}[Decidable c]{x y:Option β}{b:β}(h:(if c then x else y)=some b):(c/\x=some b)∨y=some b:=by
 by_cases k:c
 ·rw[if_pos k] at h;exact .inl ⟨k,h⟩
 ·rw[if_neg k] at h;exact .inr h
theorem nA{o:Option α}{G:Option β}{F:α->Option β}{b:β}(h:o.elim G F=some b):(∃a,o=some a/\F a=some b)∨(o=none/\G=some b):=by
 cases o with
 |none=>exact .inr ⟨rfl,h⟩
 |some a=>exact .inl ⟨a,rfl,h⟩
theorem map_some{f:α->β}{o:Option α}{b:β}(h:o.map f=some b):∃a,o=some a/\b=f a:=by
 cases o with
 |none=>cases h
 |some a=>exact⟨a,rfl,(ag h).symm⟩
noncomputable def one{α:Type}:List α->Option α
 |[a]=>some a
 |_=>none
theorem cH{l:List α}{a:α}(h:one l=some a):l=[a]:=by rcases l with _|⟨b,_|⟨c,l⟩⟩<;>cases h;rfl
noncomputable def k4{α:Type}:List α->Option (α×α)
 |[a,b]=>some (a,b)
 |_=>none
theorem dY{l:List α}{p:α×α}(h:k4 l=some p):l=[p.1,p.2]:=by rcases l with _|⟨b,_|⟨c,_|⟨d,l⟩⟩⟩<;>cases h;rfl
open PySem PySem.Spec PyProof.Rows L2
open PySem.SeqAt
theorem AF(I:RelV y u)(B:RelV x v)(U:cD y=true)(J:cD x=true):RcAt A s u v (kz y x):=by
 cases y with
 |non=>
  cases I;cases x with
  |non=>cases B;exact RcAt.none_none
  |bl b=>cases B;exact RcAt.none_bool b
  |int b=>obtain⟨tb,rfl⟩:=B;exact RcAt.none_int b tb
  |str b=>obtain⟨tb,rfl⟩:=B;exact RcAt.none_str b tb
  |_=>exact jZ J
 |bl a=>
  cases I;cases x with
  |non=>cases B;exact RcAt.bool_none a
  |bl b=>cases B;exact RcAt.bool_bool a b
  |int b=>obtain⟨tb,rfl⟩:=B;exact RcAt.bool_int a b tb
  |str b=>obtain⟨tb,rfl⟩:=B;exact RcAt.bool_str a b tb
  |_=>exact jZ J
 |int a=>
  obtain⟨ta,rfl⟩:=I;cases x with
  |non=>cases B;exact RcAt.int_none a ta
  |bl b=>cases B;exact RcAt.int_bool a ta b
  |int b=>obtain⟨tb,rfl⟩:=B;exact RcAt.int_int a ta b tb
  |str b=>obtain⟨tb,rfl⟩:=B;exact RcAt.int_str a ta b tb
  |_=>exact jZ J
 |str a=>
  obtain⟨ta,rfl⟩:=I;cases x with
  |non=>cases B;exact RcAt.str_none a ta
  |bl b=>cases B;exact RcAt.str_bool a ta b
  |int b=>obtain⟨tb,rfl⟩:=B;exact RcAt.str_int a ta b tb
  |str b=>obtain⟨tb,rfl⟩:=B;exact RcAt.str_str a ta b tb
  |_=>exact jZ J
 |_=>exact jZ U
theorem vE(I:RelV y u)(B:RelV x v)(U:cD y=true)(J:cD x=true):RcNeAt A s u v (!kz y x):=by
 cases y with
 |non=>
  cases I;cases x with
  |non=>cases B;exact RcNeAt.none_none
  |bl b=>cases B;exact RcNeAt.none_bool b
  |int b=>obtain⟨tb,rfl⟩:=B;exact RcNeAt.none_int b tb
  |str b=>obtain⟨tb,rfl⟩:=B;exact RcNeAt.none_str b tb
  |_=>exact jZ J
 |bl a=>
  cases I;cases x with
  |non=>cases B;exact RcNeAt.bool_none a
  |bl b=>cases B;exact RcNeAt.bool_bool a b
  |int b=>obtain⟨tb,rfl⟩:=B;exact RcNeAt.bool_int a b tb
  |str b=>obtain⟨tb,rfl⟩:=B;exact RcNeAt.bool_str a b tb
  |_=>exact jZ J
 |int a=>
  obtain⟨ta,rfl⟩:=I;cases x with
  |non=>cases B;exact RcNeAt.int_none a ta
  |bl b=>cases B;exact RcNeAt.int_bool a ta b
  |int b=>obtain⟨tb,rfl⟩:=B;exact RcNeAt.int_int a ta b tb
  |str b=>obtain⟨tb,rfl⟩:=B;exact RcNeAt.int_str a ta b tb
  |_=>exact jZ J
 |str a=>
  obtain⟨ta,rfl⟩:=I;cases x with
  |non=>cases B;exact RcNeAt.str_none a ta
  |bl b=>cases B;exact RcNeAt.str_bool a ta b
  |int b=>obtain⟨tb,rfl⟩:=B;exact RcNeAt.str_int a ta b tb
  |str b=>obtain⟨tb,rfl⟩:=B;exact RcNeAt.str_str a ta b tb
  |_=>exact jZ J
 |_=>exact jZ U
theorem kq{items:Array Value}(J:s.heap.IsList l items)(I:A.units<cLine)(B:RelV x v)(U:cD x=true):RcAt A s (.ref l) v false:=by
 cases x with
 |non=>cases B;exact RcAt.list_none J I
 |bl b=>cases B;exact RcAt.list_bool b J I
 |int b=>obtain⟨tb,rfl⟩:=B;exact RcAt.list_int b tb J I
 |str b=>obtain⟨tb,rfl⟩:=B;exact RcAt.list_str b tb J I
 |_=>exact jZ U
theorem kt{items:Array Value}(J:s.heap.IsList l items)(I:A.units<cLine)(B:RelV x v)(U:cD x=true):RcAt A s v (.ref l) false:=by
 cases x with
 |non=>cases B;exact RcAt.none_list J I
 |bl b=>cases B;exact RcAt.bool_list b J I
 |int b=>obtain⟨tb,rfl⟩:=B;exact RcAt.int_list b tb J I
 |str b=>obtain⟨tb,rfl⟩:=B;exact RcAt.str_list b tb J I
 |_=>exact jZ U
theorem mP{items:Array Value}(J:s.heap.IsList l items)(I:A.units<cLine)(B:RelV x v)(U:cD x=true):RcNeAt A s (.ref l) v true:=by
 cases x with
 |non=>cases B;exact RcNeAt.list_none J I
 |bl b=>cases B;exact RcNeAt.list_bool b J I
 |int b=>obtain⟨tb,rfl⟩:=B;exact RcNeAt.list_int b tb J I
 |str b=>obtain⟨tb,rfl⟩:=B;exact RcNeAt.list_str b tb J I
 |_=>exact jZ U
theorem mQ{items:Array Value}(J:s.heap.IsList l items)(I:A.units<cLine)(B:RelV x v)(U:cD x=true):RcNeAt A s v (.ref l) true:=by
 cases x with
 |non=>cases B;exact RcNeAt.none_list J I
 |bl b=>cases B;exact RcNeAt.bool_list b J I
 |int b=>obtain⟨tb,rfl⟩:=B;exact RcNeAt.int_list b tb J I
 |str b=>obtain⟨tb,rfl⟩:=B;exact RcNeAt.str_list b tb J I
 |_=>exact jZ U
theorem iQ{items:Array Value}(J:s.heap.IsTuple l items)(I:A.units<cLine)(B:RelV x v)(U:cD x=true):RcAt A s (.ref l) v false:=by
 cases x with
 |non=>cases B;exact RcAt.tuple_none J I
 |bl b=>cases B;exact RcAt.tuple_bool b J I
 |int b=>obtain⟨tb,rfl⟩:=B;exact RcAt.tuple_int b tb J I
 |str b=>obtain⟨tb,rfl⟩:=B;exact RcAt.tuple_str b tb J I
 |_=>exact jZ U
theorem iR{items:Array Value}(J:s.heap.IsTuple l items)(I:A.units<cLine)(B:RelV x v)(U:cD x=true):RcAt A s v (.ref l) false:=by
 cases x with
 |non=>cases B;exact RcAt.none_tuple J I
 |bl b=>cases B;exact RcAt.bool_tuple b J I
 |int b=>obtain⟨tb,rfl⟩:=B;exact RcAt.int_tuple b tb J I
 |str b=>obtain⟨tb,rfl⟩:=B;exact RcAt.str_tuple b tb J I
 |_=>exact jZ U
theorem kL{items:Array Value}(J:s.heap.IsTuple l items)(I:A.units<cLine)(B:RelV x v)(U:cD x=true):RcNeAt A s (.ref l) v true:=by
 cases x with
 |non=>cases B;exact RcNeAt.tuple_none J I
 |bl b=>cases B;exact RcNeAt.tuple_bool b J I
 |int b=>obtain⟨tb,rfl⟩:=B;exact RcNeAt.tuple_int b tb J I
 |str b=>obtain⟨tb,rfl⟩:=B;exact RcNeAt.tuple_str b tb J I
 |_=>exact jZ U
theorem kM{items:Array Value}(J:s.heap.IsTuple l items)(I:A.units<cLine)(B:RelV x v)(U:cD x=true):RcNeAt A s v (.ref l) true:=by
 cases x with
 |non=>cases B;exact RcNeAt.none_tuple J I
 |bl b=>cases B;exact RcNeAt.bool_tuple b J I
 |int b=>obtain⟨tb,rfl⟩:=B;exact RcNeAt.int_tuple b tb J I
 |str b=>obtain⟨tb,rfl⟩:=B;exact RcNeAt.str_tuple b tb J I
 |_=>exact jZ U
theorem lH{b:Value}{k:Bool}(B:(Value.ref l==b)=false)(h:RcAt A s (.ref l) b k):EqAt A s (.ref l) b k:=λprog w E Q J=>by
 unfold eqBool;refine wpAny_holding ?_;refine wpAny_ite_split (λI=>absurd I (by rw[B];exact aP)) (λ_=>?_)
 exact aa (h prog w E _ (wpAny_truthy_bool J))
theorem lG{a:Value}{k:Bool}(B:(a==Value.ref l)=false)(h:RcAt A s a (.ref l) k):EqAt A s a (.ref l) k:=λprog w E Q J=>by
 unfold eqBool;refine wpAny_holding ?_;refine wpAny_ite_split (λI=>absurd I (by rw[B];exact aP)) (λ_=>?_)
 cases a<;>exact aa (h prog w E _ (wpAny_truthy_bool J))
def At(K:aD)(H:Hp)(ι:Nat->Addr)(m:Nat)(d:D)(u:Value):Prop:=∃v,VRel K H ι m d v/\RelV v u
def vP(K:aD)(H:Hp)(ι:Nat->Addr)(m:Nat)(ds:List D)(us:List Value):Prop:=∃vs,VRels K H ι m ds vs/\bh vs us
theorem vP.length{K:aD}{ds:List D}{us:List Value}(h:vP K H ι m ds us):ds.length=us.length:=by obtain⟨vs,a,b⟩:=h;rw[a.length,b.length]
inductive ShAt(K:aD)(H:Hp)(ι:Nat->Addr)(m:Nat)(s:Shared):Sh->Value->Prop where
 |sc {v:V}{u:Value}(f:cD v=true)(r:RelV v u):ShAt K H ι m s (.sc v) u
 |t {a:Addr}{xs:List D}{its:Array Value}(h:s.heap.IsTuple a its)(r:vP K H ι m xs its.toList):ShAt K H ι m s (.t xs) (.ref a)
 |l {a:Addr}{xs:List D}{its:Array Value}(h:s.heap.IsList a its)(r:vP K H ι m xs its.toList):ShAt K H ι m s (.l xs) (.ref a)
 |d {a:Addr}{kvs:List (Key×D)}(h:Cv s.heap a)(z:(a==sysModules)=false)(r:∀ns,kvs.map (·.1)=ns.map (Sum.inl:Int->Key)->∃us,xM s.heap a ns us/\vP K H ι m (kvs.map (·.2)) us):ShAt K H ι m s (.d kvs) (.ref a)
theorem nL:∀{ks:List Key},ks.all uM=true->∃ns:List Int,ks=ns.map (Sum.inl:Int->Key)
 |[],_=>⟨[],rfl⟩
 | .inl n::ks,h=>by
  obtain⟨ns,rfl⟩:=nL (ks:=ks) (by simpa[uM] using h)
  exact⟨n::ns,rfl⟩
 | .inr _::ks,h=>by simp[uM] at h
theorem DRels.keys{K:aD}{ds:List (Key×D)}{vs:List (Key×V)}(h:DRels K H ι m ds vs):ds.map (·.1)=vs.map (·.1):=by
 induction h with
 |nil=>rfl
 |cons h t ih=>rw[List.map_cons,List.map_cons,ih]
theorem DRels.vals{K:aD}{ds:List (Key×D)}{vs:List (Key×V)}(h:DRels K H ι m ds vs):VRels K H ι m (ds.map (·.2)) (vs.map (·.2)):=by
 induction h with
 |nil=>exact .nil
 |cons h t ih=>exact .cons h ih
theorem qy:∀{kvs:List (Key×V)}{vs:List (Key×Value)},KV kvs vs->kvs.map (·.1)=vs.map (·.1)
 |_,_,.nil=>rfl
 |_,_,.cons r t=>by rw[List.map_cons,List.map_cons,qy t,r.1]
theorem qx{P:Program}{w:World}:∀{kvs:List (Key×V)}{vs:List (Key×Value)}{es:List DictEntry},KV kvs vs->Pairs (bd P w) es vs->bh (kvs.map (·.2)) (es.map (·.val))
 |_,_,_,.nil,.nil=>.nil
 |_,_,_,.cons r t,.cons h1 h2 u=>.cons (by dsimp only;rw[h2];exact r.2) (qx t u)
theorem xz{P:Program}{w:World}{h:Heap}{o:Obj}{es:Array DictEntry}{ep:Nat}{vs:List (Key×Value)}{ns:List Int}(h1:h.get? a=some {cls:= .type "dict",dict:=none,data:= .dict es ep,slots:= #[]})(Y:KeysOf (bd P w) es)(U:Pairs (bd P w) es.toList vs)(J:(vs.map (·.1)).Nodup)(e:vs.map (·.1)=ns.map (Sum.inl:Int->Key)):xM h a ns (es.toList.map (·.val)):=by
 have key:∀{es:List DictEntry}{vs:List (Key×Value)},Pairs (bd P w) es vs->∀{j:Nat}{x:DictEntry}{k:Key},es[j]? =some x->(vs.map (·.1))[j]? =some k->gR k x.key=true:=by
  intro es vs p
  induction p with
  |nil=>intro j x k q;simp at q
  |cons a b c ih=>
   intro j x k q1 q2;cases j with
   |zero=>simp at q1 q2;subst q1 q2;exact a
   |succ j=>exact ih (by simpa using q1) (by simpa using q2)
 refine⟨es,ep,h1,rfl,?_,?_,λi x n q1 q2=>?_⟩
 ·rw[e] at J;exact(List.pairwise_map.mp J).imp λB z=>B (by rw[z])
 ·have l1:=U.length;have l2:=congrArg List.length e;simp at l1 l2;omega
 ·have I:=key U (j:=i) (x:=x) (k:= .inl n) (by simpa using q1) (by rw[e,aq,q2];rfl)
  rcases bC I with⟨i',t,e1,e2⟩|⟨y,t,e1,_⟩
  ·cases e1;obtain⟨k,g1,Z⟩:=Y x (Array.mem_of_getElem? q1);have:k=.inl n:=(bd P w).inj x.key k (.inl n) g1 I;subst this;exact⟨⟨t,e2⟩,Z⟩
  ·cases e1
theorem nc{d:D}{J:Sh}(I:Inv X pins σ H s)(S:Sim X.K H ι st)(h:At X.K H ι st.length d u)(e:shape st d=some J):
  ShAt X.K H ι st.length s J u:=by
 obtain⟨v,hv,r⟩:=h;cases hv with
 |non=>cases e;exact .sc rfl r
 |bl b=>cases e;exact .sc rfl r
 |int i=>cases e;exact .sc rfl r
 |str x=>cases e;exact .sc rfl r
 |tup h hr=>
  cases e;cases r;obtain⟨its,rv,p,_⟩:=I.tuple h;exact .t p ⟨_,hr,by simpa using rv⟩
 |fl h hr=>
  cases e;cases r;obtain⟨its,rv,p,_⟩:=I.list h.sql;exact .l p.isList ⟨_,hr,by simpa using rv⟩
 | @ref n hn=>
  cases r;simp only[shape] at e;cases q:st[n]? with
  |none=>rw[q] at e;cases e
  |some o=>
   rw[q] at e;have ho:=S.ob n o q;cases o with
   |lst xs=>
    cases e;obtain⟨vs,h1,B⟩:=ho;obtain⟨its,rv,p,_⟩:=I.list (c8.of h1);exact .l p.isList ⟨_,B,by simpa using rv⟩
   |dct kvs=>
    cases e;obtain⟨ws,ho,Z⟩:=ho;obtain⟨hz,hS,vs,rv,o,es,ep,h1,B,Y,h4,U,h6⟩:=(show bT X.prog X.w H s.heap (ι n) (.dK ws) from I.hok _ _ ho);obtain⟨c1,c2,c3⟩:=B;obtain⟨cls,dd,data,sl⟩:=o;simp only at c1 c2 c3 Y;subst c1 c2 c3 Y;exact .d ⟨es,ep,h1⟩ hS λns e=>⟨_,xz (o:=default) h1 h4 U h6 (by rw[<-qy rv,<-Z.keys];exact e),_,Z.vals,qx rv U⟩
   |_=>cases e
theorem all_cons{e:Nat->Bool}{x:Bool}:(List.range (n+1)).all (λj=>match j with|0=>x|j+1=>e j)=(x&&(List.range n).all e):=by rw[List.range_succ_eq_map,List.all_cons,List.all_map];rfl
theorem jM{o:Obj}(I:Inv X pins σ H s)(h:X.K.lookup a=some o):H a=none:=(I.bs a o (I.ok.mod.kin a o h)).2
theorem oP{xs ys:List V}(I:Inv X pins σ H s)(h:fV X.K H a xs)(h':c8 X.K H a ys):False:=by obtain⟨_,_,p,_⟩:=I.tuple h;obtain⟨_,_,q,_⟩:=I.list h';exact ne_of_list_tuple q.isList p rfl
theorem lN{xs:List V}(I:Inv X pins σ H s)(h:fV X.K H a xs):(∃zs,H a=some (.tup zs))∨(∃o u,(∀kvs,u≠ .dK kvs)/\H a=some (.frz o u))∨H a=none:=by
 rcases h with(h|⟨o,h⟩)|⟨o,_,_,h,_⟩
 ·exact .inl ⟨_,h⟩
 ·exact .inr (.inl ⟨_,_,(λ_ z=>by cases z),h⟩)
 ·exact .inr (.inr (jM I h))
theorem u7{xs:List V}(I:Inv X pins σ H s)(h:qZ X.K H a xs):(∃o u,(∀kvs,u≠ .dK kvs)/\H a=some (.frz o u))∨H a=none:=by
 rcases h with⟨o,h⟩|⟨o,_,_,h,_⟩
 ·exact .inl ⟨_,_,(λ_ z=>by cases z),h⟩
 ·exact .inr (jM I h)
theorem Sim.obj{K:aD}(S:Sim K H ι st)(h:n<st.length):∃u,H (ι n)=some u/\(∀xs,u≠ .tup xs)/\∀B w,(∀kvs,w≠ .dK kvs)->u≠ .frz B w:=
 (S.ob n st[n] (by simp[h])).there
mutual
theorem VRel.uniq(I:Inv X pins σ H s)(S:Sim X.K H ι st):∀{d d':D}{v:V},VRel X.K H ι st.length d v->VRel X.K H ι st.length d' v->d=d'
 |_,_,_,.non,h=>by cases h;rfl
 |_,_,_,.bl b,h=>by cases h;rfl
 |_,_,_,.int i,h=>by cases h;rfl
 |_,_,_,.str x,h=>by cases h;rfl
 |_,_,_,.tup h r,h'=>by
  cases h' with
  |tup q r'=>rw[I.tuple_inj h q] at r;rw[VRels.uniq I S r r']
  |fl q _=>exact(oP I h q.sql).elim
  |ref q=>
   obtain⟨u,e',J,B⟩:=S.obj q;rcases lN I h with⟨_,e⟩|⟨_,_,hk,e⟩|e<;>rw[e] at e'<;>first|(cases e';done)|(cases e';exact absurd rfl (J _))|(cases e';exact absurd rfl (B _ _ hk))
 |_,_,_,.fl h r,h'=>by
  cases h' with
  |tup q _=>exact(oP I q h.sql).elim
  |fl q r'=>rw[I.list_inj h.sql q.sql] at r;rw[VRels.uniq I S r r']
  |ref q=>
   obtain⟨u,e',J,B⟩:=S.obj q;rcases u7 I h with⟨_,_,hk,e⟩|e<;>rw[e] at e'<;>first|(cases e';done)|(cases e';exact absurd rfl (J _))|(cases e';exact absurd rfl (B _ _ hk))
 |_,_,_,.ref (n:=n) q,h'=>by
  generalize hz:V.ref (ι n)=z at h';cases h' with
  |tup h _=>
   injection hz with hz;rw[<-hz] at h;obtain⟨u,e',J,B⟩:=S.obj q;rcases lN I h with⟨_,e⟩|⟨_,_,hk,e⟩|e<;>rw[e] at e'<;>first|(cases e';done)|(cases e';exact absurd rfl (J _))|(cases e';exact absurd rfl (B _ _ hk))
  |fl h _=>
   injection hz with hz;rw[<-hz] at h;obtain⟨u,e',J,B⟩:=S.obj q;rcases u7 I h with⟨_,_,hk,e⟩|e<;>rw[e] at e'<;>first|(cases e';done)|(cases e';exact absurd rfl (J _))|(cases e';exact absurd rfl (B _ _ hk))
  |ref q'=>injection hz with hz;rw[S.inj _ _ q q' hz]
  |_=>cases hz
theorem VRels.uniq(I:Inv X pins σ H s)(S:Sim X.K H ι st):∀{ds B:List D}{vs:List V},VRels X.K H ι st.length ds vs->VRels X.K H ι st.length B vs->ds=B
 |_,_,_,.nil,h=>by cases h;rfl
 |_,_,_,.cons r t,h=>by
  cases h with
  |cons r' t'=>rw[VRel.uniq I S r r',VRels.uniq I S t t']
end
theorem At.uniq{a b:D}(I:Inv X pins σ H s)(S:Sim X.K H ι st)(Y:At X.K H ι st.length a u)(U:At X.K H ι st.length b u):a=b:=by obtain⟨v,h1,J⟩:=Y;obtain⟨w,Z,B⟩:=U;rw[J.inj B] at h1;exact h1.uniq I S Z
theorem u_{v:V}(h:cD v=true):kz v v=true:=by cases v<;>simp_all [kz,cD]
theorem oK{d:D}{v:V}(h:shape st d=some (.sc v)):cD v=true:=by
 cases d with
 |ref n=>simp only[shape] at h;split at h<;>cases h
 |_=>cases h<;>rfl
theorem eV{f:D->D->Option Bool}(B:∀x k,f x x=some k->k=true):∀{xs:List D}{k:Bool},cz f xs xs=some k->k=true
 |[],k,e=>(ag e).symm
 |x::xs,k,e=>by
  unfold cz at e;cases e1:f x x with
  |none=>rw[e1] at e;simp at e
  |some p=>
   cases e2:cz f xs xs with
   |none=>rw[e1,e2] at e;simp at e
   |some q=>rw[e1,e2] at e;have e':(p&&q)=k:=ag e;rw[<-e',B _ _ e1,eV B e2];rfl
theorem jN{f:D->D->Option Bool}(B:∀x k,f x x=some k->k=true){x:D}{k:Bool}(e:mj f x x=some k):k=true:=by
 unfold mj at e;split at e
 ·split at e
  ·exact(ag e).symm
  ·exact B _ _ e
 ·exact B _ _ e
theorem gV{st:aW}:∀(n:Nat){a:D}{k:Bool},cj n st a a=some k->k=true
 |0,_,_,e=>by unfold cj at e;cases e
 |n+1,a,k,e=>by
  unfold cj at e;cases ea:shape st a with
  |none=>rw[ea] at e;simp at e
  |some sa=>
   rw[ea] at e;cases sa with
   |sc v=>have e':kz v v=k:=ag e;rw[<-e',u_ (oK ea)]
   |t xs=>exact eV (λ_ _=>jN λ_ _=>gV n) e
   |l xs=>exact eV (λ_ _=>jN λ_ _=>gV n) e
   |d kvs=>obtain⟨_,e⟩:=fX e;exact eV (λ_ _=>jN λ_ _=>gV n) e
theorem qI(B:RelV y u)(I:cD y=true):(u==Value.ref l)=false:=by
 cases y with
 |non=>cases B;rfl
 |bl b=>cases B;rfl
 |int i=>obtain⟨t,rfl⟩:=B;rfl
 |str i=>obtain⟨t,rfl⟩:=B;rfl
 |_=>cases I
theorem qr(B:RelV y u)(I:cD y=true):(Value.ref l==u)=false:=by
 cases y with
 |non=>cases B;rfl
 |bl b=>cases B;rfl
 |int i=>obtain⟨t,rfl⟩:=B;rfl
 |str i=>obtain⟨t,rfl⟩:=B;rfl
 |_=>cases I
theorem qP{X:Cx}{pins:List (Addr×Obj)}{σ:L2.St}{H:Hp}{s:Shared}{ι:Nat->Addr}{st:aW}(I:Inv X pins σ H s)(S:Sim X.K H ι st){n:Nat}
  (Y:∀{a b:D}{u v:Value}{A:Around}{k:Bool},mj (cj n st) a b=some k->At X.K H ι st.length a u->At X.K H ι st.length b v->A.units+n<cLine->EqAt A s u v k):
  ∀{xs ys:List D}{us vs:List Value}{A:Around}{k:Bool},cz (mj (cj n st)) xs ys=some k->vP X.K H ι st.length xs us->vP X.K H ι st.length ys vs->A.units+n<cLine->
  ∃e:Nat->Bool,(∀j (h1:j<us.length)(J:j<vs.length),EqAt A s us[j] vs[j] (e j))/\k=((List.range (min us.length vs.length)).all e&&us.length==vs.length)
 |xs,ys,us,vs,A,k,e,ha,hb,hu=>by
  have U:=ha.length;have B:=hb.length;unfold cz at e;cases xs with
  |nil=>
   cases us with
   |cons _ _=>simp at U
   |nil=>
    refine⟨λ_=>true,λj h1 _=>absurd h1 (Nat.not_lt_zero _),?_⟩;cases ys with
    |nil=>
     cases vs with
     |cons _ _=>simp at B
     |nil=>rw[<-ag e];rfl
    |cons y ys=>
     cases vs with
     |nil=>simp at B
     |cons _ _=>rw[<-ag e];simp
  |cons x xs=>
   cases us with
   |nil=>simp at U
   |cons u us=>
    cases ys with
    |nil=>
     cases vs with
     |cons _ _=>simp at B
     |nil=>exact⟨λ_=>true,λj _ J=>absurd J (Nat.not_lt_zero _),by rw[<-ag e];simp⟩
    |cons y ys=>
     cases vs with
     |nil=>simp at B
     |cons v vs=>
      obtain⟨_,r1,q1⟩:=ha;obtain⟨_,Z,q2⟩:=hb;cases q1 with
      |cons w1 w2=>
       cases q2 with
       |cons z1 z2=>
        cases r1 with
        |cons m1 m2=>
         cases Z with
         |cons n1 n2=>
          simp only at e;cases e1:mj (cj n st) x y with
          |none=>rw[e1] at e;simp at e
          |some p=>
           cases e2:cz (mj (cj n st)) xs ys with
           |none=>rw[e1,e2] at e;simp at e
           |some q=>
            rw[e1,e2] at e;have hE:=Y (A:=A) e1 ⟨_,m1,w1⟩ ⟨_,n1,z1⟩ hu;obtain⟨f,hf,hk⟩:=qP I S Y (A:=A) e2 ⟨_,m2,w2⟩ ⟨_,n2,z2⟩ hu;refine⟨λj=>match j with|0=>p|j+1=>f j,λj h1 J=>?_,?_⟩
            ·cases j with
             |zero=>exact hE
             |succ j=>exact hf j (by simpa using h1) (by simpa using J)
            ·have e3:min (u::us).length (v::vs).length=min us.length vs.length+1:=by simp only[List.length_cons];omega
             have e4:((u::us).length==(v::vs).length)=(us.length==vs.length):=by simp
             rw[e3,e4,all_cons,<-ag e,hk,Bool.and_assoc]
theorem xr{f:D->D->Option Bool}{a b:D}{k:Bool}(h:f a b=some k->EqAt A s u v k)(e:mj f a b=some k)(Y:At X.K H ι st.length a u)(U:At X.K H ι st.length b v):EqAt A s u v k:=by
 unfold mj at e;split at e
 ·rename_i i j;split at e
  ·rename_i B;subst B;obtain⟨y,q1,J⟩:=Y;obtain⟨z,q2,I⟩:=U;cases q1;cases q2;cases J;cases I;rw[<-ag e];exact EqAt.same _
  ·exact h e
 ·exact h e
theorem mD{X:Cx}{pins:List (Addr×Obj)}{σ:L2.St}{H:Hp}{s:Shared}{ι:Nat->Addr}{st:aW}(I:Inv X pins σ H s)(S:Sim X.K H ι st):∀(n:Nat){a b:D}{u v:Value}{A:Around}{k:Bool},cj n st a b=some k->At X.K H ι st.length a u->At X.K H ι st.length b v->A.units+n<cLine->
  RcAt A s u v k/\RcNeAt A s u v (!k)/\EqAt A s u v k
 |0,_,_,_,_,_,_,e,_,_,_=>by unfold cj at e;cases e
 |n+1,a,b,u,v,A,k,e,pa,pb,hu=>by
  have B:A.units<cLine:=by omega
  have hu1:A.in1.units+n<cLine:=by show A.units+1+n<cLine;omega
  have e0:=e;unfold cj at e;cases ea:shape st a with
  |none=>rw[ea] at e;simp at e
  |some sa=>
   cases eb:shape st b with
   |none=>rw[ea,eb] at e;simp at e
   |some sb=>
    rw[ea,eb] at e;have ua:=nc I S pa ea;have ub:=nc I S pb eb
    have refs:∀{l l':Addr},u=.ref l->v=.ref l'->RcAt A s u v k->RcNeAt A s u v (!k)->RcAt A s u v k/\RcNeAt A s u v (!k)/\EqAt A s u v k:=λ{l l'} h1 Z h3 h4=>by
     refine⟨h3,h4,?_⟩;by_cases hl:l=l'
     ·have huv:u=v:=by rw[h1,Z,hl]
      subst huv;have:=pa.uniq I S pb;subst this;rw[gV _ e0];exact EqAt.same _
     ·subst h1 Z;exact EqAt.of_refs hl h3
    have seqs:∀{xs ys:List D}{us vs:List Value},cz (mj (cj n st)) xs ys=some k->vP X.K H ι st.length xs us->vP X.K H ι st.length ys vs->
      ∃e:Nat->Bool,(∀j (h1:j<us.length)(Z:j<vs.length),EqAt A.in1 s us[j] vs[j] (e j))/\k=((List.range (min us.length vs.length)).all e&&us.length==vs.length):=λq U J=>qP I S (λa b c d=>xr (X:=X) (H:=H) (ι:=ι) (st:=st) (λa=>(mD I S n a b c d).2.2) a b c) q U J hu1
    cases ua with
    |sc fa U=>
     cases ub with
     |sc fb J=>cases e;exact⟨AF U J fa fb,vE U J fa fb,Am U J fa fb⟩
     |t hb _=>cases e;exact⟨iR hb B U fa,kM hb B U fa,lG (qI U fa) (iR hb B U fa)⟩
     |l hb _=>cases e;exact⟨kt hb B U fa,mQ hb B U fa,lG (qI U fa) (kt hb B U fa)⟩
     |d hb _ _=>cases e
    | @t a1 xs its ha U=>
     cases ub with
     |sc fb J=>cases e;exact⟨iQ ha B J fb,kL ha B J fb,lH (qr J fb) (iQ ha B J fb)⟩
     | @t b1 ys its2 hb J=>
      obtain⟨f,hf,hk⟩:=seqs e U J
      have Y:∀j (h1:j<its.size)(Z:j<its2.size),EqAt A.in1 s its[j] its2[j] (f j):=λj h1 Z=>by
       have q:=hf j (by simpa using h1) (by simpa using Z)
       rw[Array.getElem_toList,Array.getElem_toList] at q;exact q
      have q1:=RcAt.tuples ha hb B Y;have q2:=RcNeAt.tuples ha hb B Y;have ek:((List.range (min its.size its2.size)).all f&&its.size==its2.size)=k:=by rw[hk];simp
      rw[ek] at q1 q2;exact refs rfl rfl q1 q2
     |l hb _=>cases e;exact refs rfl rfl (RcAt.tuple_list ha hb B) (RcNeAt.tuple_list ha hb B)
     |d hb _ _=>cases e
    | @l a1 xs its ha U=>
     cases ub with
     |sc fb J=>cases e;exact⟨kq ha B J fb,mP ha B J fb,lH (qr J fb) (kq ha B J fb)⟩
     |t hb _=>cases e;exact refs rfl rfl (RcAt.list_tuple ha hb B) (RcNeAt.list_tuple ha hb B)
     | @l b1 ys its2 hb J=>
      obtain⟨f,hf,hk⟩:=seqs e U J
      have Y:∀j (h1:j<its.size)(Z:j<its2.size),EqAt A.in1 s its[j] its2[j] (f j):=λj h1 Z=>by
       have q:=hf j (by simpa using h1) (by simpa using Z)
       rw[Array.getElem_toList,Array.getElem_toList] at q;exact q
      by_cases hsz:its.size=its2.size
      ·have q1:=RcAt.lists ha hb hsz B Y;have q2:=RcNeAt.lists ha hb hsz B Y;have ek:(List.range its.size).all f=k:=by rw[hk];simp[hsz]
       rw[ek] at q1 q2;exact refs rfl rfl q1 q2
      ·have ek:k=false:=by rw[hk];simp[hsz]
       subst ek;exact refs rfl rfl (RcAt.lists_lengths ha hb (by simpa using hsz) B) (RcNeAt.lists_lengths ha hb (by simpa using hsz) B)
     |d hb _ _=>cases e
    |d ha za U=>
     cases ub with
     |l hb _=>cases e
     |d hb zb J=>
      obtain⟨⟨k1,k2⟩,e⟩:=fX e;obtain⟨ns,en⟩:=nL k2;obtain⟨us,d1,a1⟩:=U ns en;obtain⟨vs,d2,a2⟩:=J ns (by rw[<-k1];exact en)
      obtain⟨f,hf,hk⟩:=seqs e a1 a2
      have l1:us.length=vs.length:=by have q1:=a1.length;have q2:=a2.length;have q3:=congrArg List.length k1;simp at q1 q2 q3;omega
      obtain⟨q1,q2⟩:=RcAt.dicts za zb d1 d2 B hf;have ek:(List.range us.length).all f=k:=by rw[hk];simp[l1]
      rw[ek] at q1 q2;exact refs rfl rfl q1 q2
     |_=>cases e
end Ev
namespace PySem
open Sem (wp)
variable{Q:Option Value->Shared->Prop}{g sl:Nat}
section
variable{prog:Program}{w:World}{A:Around}{E:Value->Shared->Prop}{s:Shared}{it v:Addr}
theorem m9{h':Heap}(B:A.handled=none)(hs:Heap.ExtBut it s.heap h')(I:∀h',Heap.ExtBut it s.heap h'->Q none {s with heap:=h'}):
  wpAny (model prog w) A.in1 (newExc (.type "StopIteration") []>>=λe=>raiseNew (α:=Fin) e) (λfin s'=>∃v,fin=.done (.ret v)/\wpAny (model prog w) A (pure (some v)) Q E s')
   (λe s'=>wpAny (model prog w) A (isInstance e (.type "StopIteration")>>=λb=>if b=true then pure none else throw e) Q E s') {s with heap:=h'}:=by
 refine aa ?_;simp only[newExc,newTuple];refine aa (wpAny_newObj_type (aa (m:=firstArgMember _ _) (wpAny_of_eq (a:=Value.none) (by first|rfl|(simp only[firstArgMember];rfl)) (wpAny_newObj_type ?_ (by size_fits)))) (by size_fits))
 simp only[raiseNew];refine aa (wpAny_handled ?_);rw[show A.in1.handled=none from B];refine aa (af (wpAny_throw ?_));refine aa (wpAny_isInstance (T:= "StopIteration") (b:=true) ⟨_,aw _ rfl,rfl⟩ isSubtype_stop (af (I _ ((hs.push _).push _))))
end
section
variable{prog:Program}{w:World}{A:Around}{E:Value->Shared->Prop}{s:Shared}{a it:Addr}{es:Array (Int×Value)}{ep i:Nat}{t:SetTable}
structure Heap.RawS(h:Heap)(a:Addr)(es:Array (Int×Value))(ep:Nat)(t:SetTable):Prop where
 ob:∃o,h.get? a=some o/\o.ExactSet/\o.data=.set es ep t
 fits:t.fits es.size=true
 plain:t.plain=true
theorem Heap.RawS.ty(x:s.heap.RawS a es ep t):s.TypeIs (.ref a) "set":=let⟨o,ho,hc,_⟩:=x.ob;⟨o,ho,hc.1⟩
theorem j4:entryFor table "set.__iter__"=some Builtin.«frozenset.__iter__»:=entryFor_alias (id':= "frozenset.__iter__") (by kernel_rfl) rfl (by decide+kernel) (by kernel_rfl)
theorem Bi{Q:Bool->Shared->Prop}(h:Q (w.params.followText "set-order") s):wpAny (model prog w) A setsByText Q E s:=by unfold setsByText;exact aa (wpAny_askSetting (af h))
theorem gQ:typeLookup (.type "set_iterator") (Str.ofString "__next__")=pure (some (.builtin "set_iterator.__next__")):=by rw[typeLookup_type,builtinLookup_eq_fast];kernel_rfl
theorem tN{Q:Value->Shared->Prop}(x:s.heap.RawS a es ep t)
  (J:Q (.ref s.heap.objs.size) {s with heap:=s.heap.push {cls:= .type "set_iterator",data:= .fields #[.int 0 0,.int 0 0,.ref a,.int es.size 0,.int ep 0]}}):wpAny (model prog w) A (pyIter (.ref a)) Q E s:=by
 obtain⟨o,ho,U,hd⟩:=x.ob;have I:=x.ty;refine wpAny_pyIter_slot I F.slot_set_iter (wpAny_call_entry F.slot_set_iter I j4 ?_ (F.args_set_iter_1 _));unfold Builtin.«frozenset.__iter__» Builtin.Frozenset.slot0 Builtin.Frozenset.sizeOf setEntries;refine aa (aa (af (af ?_)));refine aa (aa (aa (wpAny_setState_of ho hd x.fits (af (af ?_)))))
 have B:∀{Q:Bool->Shared->Prop},Q false s->wpAny (model prog w) A.in1 (setDrawn a) Q E s:=λ{Q} h=>by unfold setDrawn;refine aa (wpAny_setState_of ho hd x.fits ?_);dsimp only;refine aa (Bi (af (show Q (!w.params.followText "set-order" &&(!t.plain&&decide (es.size>1))) s from ?_)));rw[x.plain];simpa using h
 refine aa (B ?_);simp only[Bool.false_eq_true,if_false];refine aa (af (aa (wpAny_setEpoch_of ho hd x.fits (aa (wpAny_newObj_type (af ⟨_,rfl,"set_iterator",_,⟨_,aw _ rfl,rfl⟩,gQ,?_⟩))))));simpa[rawInt] using J
theorem cG:Slot "set_iterator" "__next__" "set_iterator.__next__":=
 .of (owner:= "set_iterator") (n:= "__next__") (by rw[typeLookup_type,builtinLookup_eq_fast];kernel_rfl) (by decide+kernel) (by decide+kernel) (by decide+kernel)
  (by first|exact .inl (by decide+kernel)|exact .inr (by decide+kernel)) (by rw[isSubtype_type];kernel_rfl)
theorem f7:entryFor table "set_iterator.__next__"=some Builtin.«set_iterator.__next__»:=entryFor_of_fast (by kernel_rfl)
theorem hV(a:Value):argsOk "set_iterator.__next__" ⟨[a],[]⟩:=by unfold argsOk;kernel_rfl
theorem oN{j:Nat}{h:Int}{v:Value}{Q:Option (Value×Nat)->Shared->Prop}(I:w.params.followText "set-order"=false)(B:t.led=true)(x:s.heap.RawS a es ep t)(h1:es[SetTable.below t.place sl]? =some (h,v))(U:t.place[SetTable.below t.place sl]? =some j)(J:Q (some (v,j+1)) s):wpAny (model prog w) A (setNext a sl g ep) Q E s:=by
 obtain⟨o,ho,Y,hd⟩:=x.ob;unfold setNext;refine aa (wpAny_setState_of ho hd x.fits ?_);dsimp only;refine aa (Bi ?_);rw[I];simp only[Bool.false_eq_true,if_false];show wpAny _ _ (if(!t.plain&&decide (es.size>1))=true then _ else _) _ _ s
 rw[x.plain];simp only[Bool.not_true,Bool.false_and,Bool.false_eq_true,if_false];refine aa (show wpAny _ _ (if(!t.led&& !es.isEmpty)=true then unsupported _ else pure ()) _ _ s from ?_)
 rw[B];simp only[Bool.not_true,Bool.false_and,Bool.false_eq_true,if_false];refine af ?_;rw[h1,U];exact af J
theorem oO{Q:Option (Value×Nat)->Shared->Prop}(I:w.params.followText "set-order"=false)(B:t.led=true)(x:s.heap.RawS a es ep t)(h1:es[SetTable.below t.place sl]? =none)(J:Q none s):wpAny (model prog w) A (setNext a sl g ep) Q E s:=by
 obtain⟨o,ho,U,hd⟩:=x.ob;unfold setNext;refine aa (wpAny_setState_of ho hd x.fits ?_);dsimp only;refine aa (Bi ?_);rw[I];simp only[Bool.false_eq_true,if_false];show wpAny _ _ (if(!t.plain&&decide (es.size>1))=true then _ else _) _ _ s
 rw[x.plain];simp only[Bool.not_true,Bool.false_and,Bool.false_eq_true,if_false];refine aa (show wpAny _ _ (if(!t.led&& !es.isEmpty)=true then unsupported _ else pure ()) _ _ s from ?_)
 rw[B];simp only[Bool.not_true,Bool.false_and,Bool.false_eq_true,if_false];refine af ?_;rw[h1];exact af J
theorem jw{Q:Option (Value×Nat)->Shared->Prop}(B:w.params.followText "set-order"=true)(x:s.heap.RawS a es ep t)(I:Q (((pickOrder (w.params.setOrder a ep) es)[g]?).map λe=>(e.2,sl)) s):wpAny (model prog w) A (setNext a sl g ep) Q E s:=by obtain⟨o,ho,J,hd⟩:=x.ob;unfold setNext;refine aa (wpAny_setState_of ho hd x.fits ?_);dsimp only;refine aa (Bi ?_);rw[B];simp only[if_true,bne_self_eq_false,Bool.false_eq_true,if_false];refine aa ?_;unfold setWalk;refine aa (wpAny_setState_of ho hd x.fits ?_);dsimp only;refine aa (Bi ?_);rw[B];simp only[if_true];exact aa (wpAny_askSetting (af (af I)))
noncomputable def Heap.RawSI(h:Heap)(it a:Addr)(sl i n ep:Nat):Prop:=∃o,h.get? it=some o/\o.cls=.type "set_iterator" /\o.data=.fields #[.int sl 0,.int i 0,.ref a,.int n 0,.int ep 0]
theorem Heap.RawSI.ty{n:Nat}(x:s.heap.RawSI it a sl i n ep):s.TypeIs (.ref it) "set_iterator":=let⟨o,ho,hc,_⟩:=x;⟨o,ho,hc⟩
theorem wj{sl':Nat}{v:Value}(B:s.heap.RawSI it a sl i es.size ep)(x:s.heap.RawS a es ep t)
  (hn:∀(E:Value->Shared->Prop)(Q':Option (Value×Nat)->Shared->Prop),Q' (some (v,sl')) s->wpAny (model prog w) A.in1 (setNext a sl i ep) Q' E s)
  (hQ:∀h',h'.RawSI it a sl' (i+1) es.size ep->Heap.SameBut it s.heap h'->Q (some v) {s with heap:=h'}):wpAny (model prog w) A (pyNext (.ref it)) Q E s:=by
 obtain⟨o,ho,hc,hd⟩:=id B;obtain⟨os,I,hcs,J⟩:=x.ob;have Y:=B.ty;unfold pyNext;refine aa (wpAny_attempt (wpAny_callSpecial?_slot (name:=Str.ofString "__next__") Y cG (wpAny_call_entry cG Y f7 ?_ (hV _))));unfold Builtin.«set_iterator.__next__»;refine aa (af (aa (wpAny_fieldsOf ho hd ?_)));dsimp only;unfold setEntries;refine aa (aa (wpAny_setState_of I J x.fits (af ?_)));rw[if_neg (by simp)]
 refine aa ?_;simp only[Int.toNat_natCast];refine hn _ _ ?_;dsimp only;have U:=Obj.data_mapFields hd (·.setIfInBounds 0 (rawInt (sl':Int)));have Z:=Heap.get?_update_self (Obj.mapFields (·.setIfInBounds 0 (rawInt (sl':Int)))) ho (Obj.isFreed_of_fields U);have d2:=Obj.data_mapFields U (·.setIfInBounds 1 (rawInt ((i:Int)+1)));have g2:=Heap.get?_update_self (Obj.mapFields (·.setIfInBounds 1 (rawInt ((i:Int)+1)))) Z (Obj.isFreed_of_fields d2);refine aa (wpAny_setField ho hd (by simp) (aa (wpAny_setField (s:={s with heap:=_}) Z U (by simp) (af ⟨_,rfl,af (hQ _ ⟨_,g2,?_,?_⟩ ?_)⟩))))
 ·exact(Obj.cls_mapFields ..).trans ((Obj.cls_mapFields ..).trans hc)
 ·rw[d2];simp[rawInt]
 ·exact(Heap.SameBut.update ..).trans (Heap.SameBut.update ..)
theorem yQ(hh:A.handled=none)(B:s.heap.RawSI it a sl i es.size ep)(x:s.heap.RawS a es ep t)
  (Z:∀(E:Value->Shared->Prop)(Y:Option (Value×Nat)->Shared->Prop),Y none s->wpAny (model prog w) A.in1 (setNext a sl i ep) Y E s)
  (hQ:∀h',Heap.ExtBut it s.heap h'->Q none {s with heap:=h'}):wpAny (model prog w) A (pyNext (.ref it)) Q E s:=by
 obtain⟨o,ho,hc,hd⟩:=id B;obtain⟨os,I,hcs,J⟩:=x.ob;have U:=B.ty;unfold pyNext;refine aa (wpAny_attempt (wpAny_callSpecial?_slot (name:=Str.ofString "__next__") U cG (wpAny_call_entry cG U f7 ?_ (hV _))));unfold Builtin.«set_iterator.__next__»;refine aa (af (aa (wpAny_fieldsOf ho hd ?_)));dsimp only;unfold setEntries;refine aa (aa (wpAny_setState_of I J x.fits (af ?_)));rw[if_neg (by simp)]
 refine aa ?_;simp only[Int.toNat_natCast];refine Z _ _ ?_;dsimp only;exact aa (wpAny_setField ho hd (by simp) (m9 hh (Heap.SameBut.update ..).extBut hQ))
end
end PySem
namespace Tab23
open PySem
noncomputable def add(s:List Int×SetTable)(h:Int):Option (List Int×SetTable):=if s.1.contains h then some s else match s.2.freeSlot h with
 |some (j,wd)=>if wd then none else
  let r:=s.2.put j
  if r.1.fits (s.1.length+1)&& !r.1.tooFull then some (s.1.take r.2++h::s.1.drop r.2,r.1) else none
 |none=>none
def sH:List Int->List Int×SetTable->Option (List Int×SetTable)
 |[],s=>some s
 |h::r,s=>(add s h).bind (sH r)
noncomputable def walk(t:SetTable)(hs:List Int):Nat->Nat->List Int
 |0,_=>[]
 |n+1,slot=>let i:=SetTable.below t.place slot
  match hs[i]?,t.place[i]? with
  |some h,some j=>h::walk t hs n (j+1)
  |_,_=>[]
noncomputable def all:Nat->List (List Int)
 |0=>[[]]
 |n+1=>(all n)++((all n).filter λl=>l.length==n).flatMap λl=>(List.range 10).map λ(i:Nat)=>(i:Int)::l
end Tab23
namespace PySem
variable{a l:Addr}{h h':Heap}{hs ns:List Int}{prog:Program}
theorem j2{α:Type}:∀(l:List α)(i:Nat)(h:i<l.length),List.Perm (l[i]::l.eraseIdx i) l
 |a::l,0,_=>.refl _
 |a::l,i+1,h=>by
  have B:=j2 l i (by simpa using h)
  have hi:i<l.length:=by simpa using h
  show List.Perm (l[i]::a::l.eraseIdx i) (a::l);exact(List.Perm.swap ..).trans (B.cons a)
theorem qh{α:Type}(next:Nat->Nat):∀(n k:Nat)(left:List α)(out:Array α),left.length=n->List.Perm (pickOrder.go next n k left out).toList (out.toList++left)
 |0,k,left,out,h=>by have:left=[]:=List.length_eq_zero_iff.mp h;subst this;rw[List.append_nil];exact .refl _
 |n+1,k,left,out,h=>by
  unfold pickOrder.go;have B:next k % left.length<left.length:=Nat.mod_lt _ (by omega)
  rw[ae B];dsimp only;have I:=qh next n (k+1) (left.eraseIdx (next k % left.length)) (out.push left[next k % left.length]) (by rw[List.length_eraseIdx_of_lt B];omega)
  refine I.trans ?_;rw[Array.toList_push,List.append_assoc];refine List.Perm.append_left _ ?_;exact j2 left _ B
theorem rP{α:Type}(next:Nat->Nat)(xs:Array α):List.Perm (pickOrder next xs).toList xs.toList:=by
 have:=qh next xs.size 0 xs.toList #[] (by simp)
 simpa[pickOrder] using this
open Sem (wp)
open PyProof.Rows (IntsAre)
noncomputable def Heap.RawN(h:Heap)(a:Addr)(hs:List Int)(t:SetTable):Prop:=
 ∃es ep,h.RawS a es ep t/\es.toList.map (·.1)=hs/\∀e∈es.toList,∃k:Tok,e.2=.int e.1 k/\hashInt e.1=e.1
theorem Heap.RawS.at{es:Array (Int×Value)}{ep:Nat}{t:SetTable}(x:h.RawS a es ep t)(k:∀o,h.get? a=some o->h'.get? a=some o):h'.RawS a es ep t:=
 ⟨let⟨o,ho,r⟩:=x.ob;⟨o,k o ho,r⟩,x.fits,x.plain⟩
theorem Heap.RawN.at{t:SetTable}(x:h.RawN a hs t)(k:∀o,h.get? a=some o->h'.get? a=some o):h'.RawN a hs t:=
 let⟨es,ep,r,q⟩:=x;⟨es,ep,r.at k,q⟩
section
variable{prog:Program}{w:World}{A:Around}{E:Value->Shared->Prop}{s:Shared}{a:Addr}{hs hs':List Int}{t t':SetTable}{n:Int}{tk:Tok}
theorem w9(prog:Program)(w:World){es:List (Int×Value)}{hs:List Int}(e:es.map (·.1)=hs)(I:∀e∈es,∃k:Tok,e.2=.int e.1 k/\hashInt e.1=e.1)(n:Int):hs.contains n=true↔∃x∈es,Value.isInt n x.2=true:=by
 subst e;rw[List.contains_iff_mem,List.mem_map];constructor
 ·rintro⟨x,B,rfl⟩;obtain⟨k,e,_⟩:=I x B;exact⟨x,B,by rw[e];exact intKind_is prog w x.1 k⟩
 ·rintro⟨x,B,e⟩;obtain⟨k,U,_⟩:=I x B;rw[U] at e;obtain⟨Y,J⟩:=Value.isInt_shape e;cases J;exact⟨x,B,rfl⟩
theorem tP{Q:Bool->Shared->Prop}(R:s.heap.RawN a hs t)(hn:hashInt n=n)(hz:hs.length<100)(B:Tab23.add (hs,t) n=some (hs',t'))
  (hQ:∀b h',Heap.SameBut a s.heap h'->h'.RawN a hs' t'->Q b {s with heap:=h',toks:=s.toks+1}):wpAny (model prog w) A (setAdd a (.int n tk)) Q E s:=by
 obtain⟨es,ep,x,hk,Z⟩:=id R;obtain⟨o,ho,hex,hd⟩:=x.ob;have hsz:es.size=hs.length:=by rw[<-hk,List.length_map,Array.length_toList]
 have Y:ElemsOf (intKind prog w) es.toList:=λe h=>by
  obtain⟨k,h1,h2⟩:=Z e h;exact⟨⟨e.1,by rw[h1];exact intKind_is prog w _ _,h2.symm⟩,by rw[h1];rfl⟩
 have U:(intKind prog w).is n (.int n tk)=true:=intKind_is prog w _ _;have hb:es.size<scanBound:=by unfold scanBound;omega
 unfold setAdd;refine wpAny_holding (aa ((intKind prog w).pyHash U ?_));unfold setAddHashed setAddHashedIn;refine wpAny_holding (aa (wpAny_setState_of (s:={s with toks:=s.toks+1}) ho hd x.fits ?_));dsimp only;rw[byScan_of (x:= .int n tk) rfl hb Y,if_pos rfl];unfold setAddByScan;refine aa (aa (wpAny_rule (aa (wpAny_setScan_of (s:={s with toks:=s.toks+1}) U ho hd x.fits Y ?_))));have mf:=w9 prog w hk Z n;cases hr:es.toList.findIdx? (λe=>(intKind prog w).is n e.2) with
 |some j=>obtain⟨hj,hp,_⟩:=List.findIdx?_eq_some_iff_getElem.mp hr;have hc:hs.contains n=true:=mf.mpr ⟨_,List.getElem_mem hj,hp⟩;simp only[Tab23.add,hc,if_true] at B;cases B;exact af (af (hQ _ s.heap (Heap.SameBut.refl a s.heap) R))
 |none=>
  have hc:¬hs.contains n=true:=λz=>by obtain⟨e,h1,h2⟩:=mf.mp z;have:=List.findIdx?_eq_none_iff.mp hr e h1;rw[show(intKind prog w).is n e.2=true from h2] at this;cases this
  simp only[Tab23.add,hc,if_false] at B;cases hf:t.freeSlot n with
  |none=>rw[hf] at B;cases B
  |some p=>
   obtain⟨j,wd⟩:=p;rw[hf] at B;dsimp only at B;cases wd with
   |true=>cases B
   |false=>
    simp only[Bool.false_eq_true,if_false] at B;split at B
    ·rename_i I;rw[Bool.and_eq_true] at I;obtain⟨c1,c2⟩:=I;cases B;have hl:(SetTable.insertAt es (t.put j).2 (n,Value.int n tk)).toList=es.toList.take (t.put j).2++(n,Value.int n tk)::es.toList.drop (t.put j).2:=SetTable.toList_insertAt ..
     have J:(SetTable.insertAt es (t.put j).2 (n,Value.int n tk)).size=hs.length+1:=by rw[<-Array.length_toList,hl,ai,List.length_cons,List.length_take,List.length_drop,Array.length_toList,hsz];omega
     have hL:layNew t es n (.int n tk)=(SetTable.insertAt es (t.put j).2 (n,.int n tk),(t.put j).1,false,false):=by unfold layNew;rw[hf];dsimp only;unfold SetTable.orStandIn;rw[J,c1,if_pos rfl];rfl
     have hh:(intKind prog w).hash n=n:=hn;dsimp only;rw[hh,hL];dsimp only;refine aa (af ?_);rw[show(t.put j).1.plain=true from x.plain,if_pos rfl];refine aa (af ?_);rw[if_pos rfl];refine aa (wpAny_storeSet_of (s:={s with toks:=s.toks+1}) ho hd ?_ (by rw[J,sizeLine_eq];omega))
     rw[show(!false&&(t.put j).1.tooFull)=false by simpa using c2]
     simp only[Bool.false_eq_true,if_false];refine af (af (hQ _ _ (Heap.SameBut.update s.heap a _) ⟨SetTable.insertAt es (t.put j).2 (n,.int n tk),ep+1,⟨⟨_,Heap.get?_update_self _ ho (by rw[putSet_of _ _ hd];rfl),?_⟩,by rw[J];exact c1,x.plain⟩,?_,?_⟩))
     ·rw[putSet_of _ _ hd];exact⟨hex,rfl⟩
     ·rw[hl,List.map_append,List.map_cons,List.map_take,List.map_drop,hk]
     ·intro e h;rw[hl] at h;rcases List.mem_append.mp h with h|h
      ·exact Z e (List.mem_of_mem_take h)
      ·rcases List.mem_cons.mp h with rfl|h
       ·exact⟨tk,rfl,hn⟩
       ·exact Z e (List.mem_of_mem_drop h)
    ·cases B
theorem xI(B:Tab23.add (hs,t) n=some (hs',t')):hs'.length<=hs.length+1:=by
 unfold Tab23.add at B;dsimp only at B;split at B
 ·cases B;omega
 ·split at B
  ·split at B
   ·cases B
   ·split at B
    ·cases B;simp only[List.length_append,List.length_take,List.length_cons,List.length_drop];omega
    ·cases B
  ·cases B
variable{R:Result->Shared->Prop}{I S:Addr}{fp wr:List Addr}{P:Nat->Value->Prop}{St:Nat->Heap->Prop}{ns hsE:List Int}{tE:SetTable}
theorem zU(W:Walks prog w A.in1 I fp wr ns.length P St)(hS:S∉fp)(hv:∀i v,P i v->∃t:Tok,v=.int (ns.getD i 0) t)(hn:∀x∈ns,hashInt x=x)(hz:ns.length<100):
  ∀(k i:Nat)(s:Shared)(hs:List Int)(t:SetTable),ns.length - i=k->i<=ns.length->St i s.heap->s.heap.RawN S hs t->hs.length<=i->Tab23.sH (ns.drop i) (hs,t)=some (hsE,tE)->
   (∀h' tk,(∀b o,b∉wr->b≠S->s.heap.get? b=some o->h'.get? b=some o)->h'.RawN S hsE tE->R (.ok (.ret .none)) {s with heap:=h',toks:=tk})->
   codeAny (model prog w) A (.builtin "set.update.loop" ⟨[.ref S,.ref I],[]⟩) R s:=by
 intro k
 induction k with
 |zero=>
  intro i s hs t e hi st RS hl J hR;have:i=ns.length:=by omega
  subst this;rw[List.drop_length] at J;cases J;refine codeAny_builtin PyProof.Rows.F.entry_set_update_loop ?_;rw[Around.under_plainId PyProof.Rows.F.plain_set_update_loop _];refine aa (W.done s _ _ st λh' tk Y=>af (hR h' tk (λb o h1 _ q=>Y b o h1 q) (RS.at λo q=>Y S o (λz=>hS (W.sub _ z)) q)))
 |succ k ih=>
  intro i s hs t e hi st RS hl J hR;have B:i<ns.length:=by omega
  rw[List.drop_eq_getElem_cons B] at J;unfold Tab23.sH at J;cases q:Tab23.add (hs,t) ns[i] with
  |none=>rw[q] at J;cases J
  |some p=>
   obtain⟨Z,t2⟩:=p;rw[q] at J;refine codeAny_builtin PyProof.Rows.F.entry_set_update_loop ?_;rw[Around.under_plainId PyProof.Rows.F.plain_set_update_loop _];refine aa (W.item i s _ _ B st λv h1 tk1 hP st1 U=>?_);obtain⟨t0,rfl⟩:=hv i v hP;have eg:ns.getD i 0=ns[i]:=by simp[B]
   rw[eg];refine aa (wpAny_holding (tP (s:={s with heap:=h1,toks:=tk1}) (RS.at λo z=>U S o (λy=>hS (W.sub _ y)) z) (hn _ (List.getElem_mem B)) (by omega) q λb h2 sb R2=>?_))
   refine af ⟨plainId_quiet PyProof.Rows.F.plain_set_update_loop _,ih (i+1) _ Z t2 (by omega) (by omega) (W.frame _ h1 _ st1 λb hb o z=>?_) R2 (by have:=xI q;omega) J λh' tk Y RE=>hR h' tk (λb o n1 n2 z=>Y b o n1 n2 ?_) RE⟩
   ·exact(sb.2 b λy=>hS (by rw[<-y];exact hb)).trans z
   ·exact(sb.2 b n2).trans (U b o n1 z)
end
structure SqN(prog:Program)(w:World)(T:String)(l:Addr)(ns:List Int)(OK:Heap->Prop):Prop where
 type:∀s:Shared,OK s.heap->s.TypeIs (.ref l) T
 keep:∀h h':Heap,OK h->(∀o,h.get? l=some o->h'.get? l=some o)->OK h'
 lt:∀h,OK h->l<h.objs.size
 sub1:isSubtype (.type T) (.type "set")=pure false
 sub2:isSubtype (.type T) (.type "frozenset")=pure false
 nd:(Value.type T==Value.type "dict")=false
 iter:∀(A:Around)(s:Shared),A.handled=none->OK s.heap->∃(oI:Obj)(St:Nat->Heap->Prop),
  (∀(E:Value->Shared->Prop)(Q:Value->Shared->Prop),Q (.ref s.heap.objs.size) {s with heap:=s.heap.push oI}->wpAny (model prog w) A (pyIter (.ref l)) Q E s)/\
  Walks prog w A s.heap.objs.size [s.heap.objs.size,l] [s.heap.objs.size] ns.length (λi v=>∃t:Tok,v=.int (ns.getD i 0) t) St/\St 0 (s.heap.push oI)
theorem Walks.weak{w:World}{A:Around}{I:Addr}{fp wr:List Addr}{n:Nat}{P B:Nat->Value->Prop}{St:Nat->Heap->Prop}(W:Walks prog w A I fp wr n P St)(k:∀i v,P i v->B i v):Walks prog w A I fp wr n B St:=
 ⟨W.sub,W.frame,λi s Q E hi st U=>W.item i s Q E hi st λv h' tk J=>U v h' tk (k i v J),W.done,W.self⟩
theorem sub_tuple_set:isSubtype (.type "tuple") (.type "set")=pure false:=by rw[isSubtype_type];kernel_rfl
theorem jr:isSubtype (.type "tuple") (.type "frozenset")=pure false:=by rw[isSubtype_type];kernel_rfl
theorem tL{w:World}{vs:List Value}(hi:IntsAre vs ns):SqN prog w "list" l ns (λh=>h.IsList l vs.toArray):=by
 have I:=PyProof.Rows.IntsAre.length hi;refine⟨λs h=>h.typeIs,λh h' x k=>x.at λo q=>k o q,λh x=>let⟨o,ho,_⟩:=x;am ho,F.sub_list_set,F.sub_list_frozenset,by decide,λA s B x=>⟨_,λi h=>h.IsListIter s.heap.objs.size l i/\h.IsList l vs.toArray,λE Q q=>wpAny_pyIter_list x q,?_,⟨⟨_,aw _ rfl,rfl,rfl⟩,x.push _⟩⟩⟩
 have W:=Walks.list (prog:=prog) (w:=w) (A:=A) B s.heap.objs.size l (aC (let⟨o,ho,_⟩:=x;am ho)) vs.toArray;rw[show vs.toArray.size=ns.length from(List.size_toArray ..).trans I] at W;exact W.weak λi v h=>PyProof.Rows.IntsAre.int_at hi i v (by simpa using h)
theorem rq{w:World}{vs:List Value}(hi:IntsAre vs ns):SqN prog w "tuple" l ns (λh=>h.IsTuple l vs.toArray):=by
 have I:=PyProof.Rows.IntsAre.length hi;refine⟨λs h=>h.typeIs,λh h' x k=>let⟨o,ho,r⟩:=x;⟨o,k o ho,r⟩,λh x=>let⟨o,ho,_⟩:=x;am ho,sub_tuple_set,jr,by decide,λA s B x=>⟨_,λi h=>h.IsTupleIter s.heap.objs.size l i/\h.IsTuple l vs.toArray,λE Q q=>wpAny_pyIter_tuple x q,?_,⟨⟨_,aw _ rfl,rfl,rfl⟩,x.push _⟩⟩⟩
 have W:=Walks.tuple (prog:=prog) (w:=w) (A:=A) B s.heap.objs.size l (aC (let⟨o,ho,_⟩:=x;am ho)) vs.toArray;rw[show vs.toArray.size=ns.length from(List.size_toArray ..).trans I] at W;exact W.weak λi v h=>PyProof.Rows.IntsAre.int_at hi i v (by simpa using h)
section
variable{prog:Program}{w:World}{A:Around}{E:Value->Shared->Prop}{s:Shared}
noncomputable abbrev iU(b:Bool):Obj:={cls:= .type "set",dict:=none,data:= .set #[] 0 (.fresh 0 0 b)}
theorem rX(a:Value){Q₁:Value->Shared->Prop}(h:Q₁ (.ref s.heap.objs.size) {s with heap:=s.heap.push (iU (!w.params.followText "set-order"))}):
  codeAny (model prog w) A (.call (.builtin "set.__new__") ⟨[.type "set",a],[]⟩) (wants Q₁ E) s:=by
 refine codeAny_of_tree (show wpAny _ A.in1 (do checkBuiltinCall "set.__new__" ⟨[.type "set",a],[]⟩;again (.builtin "set.__new__" ⟨[.type "set",a],[]⟩)) _ _ s from ?_)
 refine aa (wpAny_of_eq (F.newCall_set_1 a) (af ⟨plainId_quiet F.plain_set_new _,codeAny_builtin F.entry_set_new ?_⟩));rw[Around.under_plainId F.plain_set_new _];unfold Builtin.«set.__new__» Builtin.Frozenset.newClass;have B:=sub_set_self;obtain⟨I,g,d,tk,os⟩:=s;dsimp only
 wp_walk
 refine wpAny_askSetting (af ?_);dsimp only;simp only[newObj];exact aa (wpAny_alloc (af (af h)))
theorem pC{T:String}{t:SetTable}{OK:Heap->Prop}{Q:Value->Shared->Prop}(K:SqN prog w T l ns OK)(hh:A.handled=none)(J:OK s.heap)(hn:∀x∈ns,hashInt x=x)(hz:ns.length<100)
  (ha:Tab23.sH ns ([],.fresh 0 0 (!w.params.followText "set-order"))=some (hs,t))
  (h:∀(h':Heap)(tk:Nat),h'.RawN s.heap.objs.size hs t->(∀b o,s.heap.get? b=some o->h'.get? b=some o)->Q (.ref s.heap.objs.size) {s with heap:=h',toks:=tk}):
  wpAny (model prog w) A (call (.type "set") [.ref l]) Q E s:=by
 have Z:=K.lt _ J;obtain⟨c,tl,hmro⟩:=F.called_set.mro;have Y:=F.called_set.made;have hsub:=F.called_set.sub;refine wpAny_call (codeAny_of_tree (show wpAny _ _ (callAny (.type "set") _) _ _ _ from ?_));refine af ⟨Code.quiet_builtin _ (by decide+kernel),codeAny_builtin F.entry_type_call ?_⟩
 rw[Around.under_plain (weight_type_call_type "set" [.ref l] []) rfl];have h1:=F.called_set.notType;have h2:=F.called_set.canCreate;have hct:=F.typeCall_set_1 (.ref l)
 repeat (any_goals (first|assumption|wp_step))
 refine codeAny_mono (rX (.ref l) (E:=E) (Q₁:=λobj s₁=>obj=.ref s.heap.objs.size/\s₁={s with heap:=s.heap.push (iU (!w.params.followText "set-order"))}) ⟨rfl,rfl⟩) λr s₁ U=>?_;generalize w.params.followText "set-order"=bb at ha U;cases r with
 |error e=>exact U
 |ok fl=>
  cases fl with
  |ret obj=>
   obtain⟨rfl,rfl⟩:=U;have hS:(s.heap.push (iU (!bb))).get? s.heap.objs.size=some (iU (!bb)):=aw _ rfl;have hT:Shared.TypeIs {s with heap:=s.heap.push (iU (!bb))} (.ref s.heap.objs.size) "set":=⟨_,hS,rfl⟩;have hli:=F.called_set.init.lookup;have hbi:=F.called_set.init.bind (.ref s.heap.objs.size)
   repeat (any_goals (first|assumption|wp_step))
   refine codeAny_mono (codeAny_call_builtin (R:=wants (λr s₂=>r=.none/\∃h' tk,s₂={s with heap:=h',toks:=tk}/\h'.RawN s.heap.objs.size hs t/\∀b o,s.heap.get? b=some o->h'.get? b=some o) E) F.called_set.init.plain F.entry_set_init (check_set_init_1 hT ?_)) λr₂ s₂ hr₂=>?_
   ·have B:=K.keep s.heap (s.heap.push (iU (!bb))) J λo q=>ah _ q;have ht:Shared.TypeIs {s with heap:=s.heap.push (iU (!bb))} (.ref l) T:=K.type {s with heap:=s.heap.push (iU (!bb))} B;have k1:=K.sub1;have k2:=K.sub2;have k3:=K.nd;unfold Builtin.«set.__init__» noKeywords Builtin.Frozenset.updateFrom;generalize hPI:pyIter=PI
    wp_walk
    subst hPI;obtain⟨oI,St,it,W,st⟩:=K.iter A.in1.in1.in1 {s with heap:=s.heap.push (iU (!bb))} (by simp[hh]) B
    refine wpAny_of_in1 (it _ _ (aa (wpAny_runValue ?_)));have I:(s.heap.push (iU (!bb))).objs.size=s.heap.objs.size+1:=Heap.size_push ..;have hS2:((s.heap.push (iU (!bb))).push oI).get? s.heap.objs.size=some (iU (!bb)):=ah _ hS;refine zU W (λz=>(List.mem_cons.mp z).elim (λy=>absurd (y.trans I) (aC (aO _))) λy=>absurd (List.mem_singleton.mp y) (bq Z)) (λi v q=>q) hn hz ns.length 0 _ [] _ (by omega) (Nat.zero_le _) st ⟨#[],0,⟨⟨_,hS2,⟨rfl,rfl,rfl⟩,rfl⟩,rfl,rfl⟩,rfl,λe q=>by cases q⟩ (ac _) ha λh' tk hk RE=>?_
    exact af (af ⟨rfl,h',tk,rfl,RE,λb o q=>hk b o (λz=>by rw[List.mem_singleton.mp z] at q;exact absurd (am q) (Nat.not_lt_of_ge (I▸Nat.le_succ _))) (λz=>by subst z;exact absurd (am q) (a9 _)) (ah _ (ah _ q))⟩)
   ·cases r₂ with
    |error e=>exact hr₂
    |ok fl₂=>
     cases fl₂ with
     |ret r=>
      obtain⟨rfl,h',tk,rfl,h3,h4⟩:=hr₂
      repeat (any_goals (first|assumption|wp_step))
      exact h _ _ h3 h4
     |_=>exact hr₂.elim
  |_=>exact U.elim
end
end PySem
namespace PySem.W
open PySem PySem.Calls PyProof.Rows
noncomputable def slotAt(t:SetTable)(bt:Bool)(i:Nat):Nat:=if bt then 0 else match i with
 |0=>0
 |i+1=>(t.place.getD i 0)+1
def gb(t:SetTable)(n:Nat):Bool:=(List.range n).all (λi=>SetTable.below t.place (slotAt t false i)==i)&&(SetTable.below t.place (slotAt t false n)==n)&&(t.place.size==n)
theorem gI:Slot "set_iterator" "__iter__" "set_iterator.__iter__":=
 .of (owner:= "set_iterator") (n:= "__iter__") (by rw[typeLookup_type,builtinLookup_eq_fast];kernel_rfl) (by decide+kernel) (by decide+kernel) (by decide+kernel)
  (by first|exact .inl (by decide+kernel)|exact .inr (by decide+kernel)) (by rw[isSubtype_type];kernel_rfl)
theorem kJ:entryFor table "set_iterator.__iter__"=some Builtin.«dict_keyiterator.__iter__»:=entryFor_alias (id':= "dict_keyiterator.__iter__") (by kernel_rfl) rfl (by decide+kernel) (by kernel_rfl)
theorem mN(a:Value):argsOk "set_iterator.__iter__" ⟨[a],[]⟩:=by unfold argsOk;kernel_rfl
section
variable{prog:Program}{w:World}{A:Around}{E:Value->Shared->Prop}{s:Shared}{a:Addr}{es:Array (Int×Value)}{ep:Nat}{t:SetTable}
theorem tO{Q:Bool->Shared->Prop}(B:s.TypeIs (.ref a) "set")(h:Q false s):wpAny (model prog w) A (Builtin.List.listLengthHint (.ref a)) Q E s:=by
 unfold Builtin.List.listLengthHint;refine aa (wpAny_specialOf B PySem.F.slot_set_len.lookup ?_);generalize vM:("set.__len__":String)=id0
 wp_delta
 rw[show splitId id0=some ("set","__len__") from by subst vM;decide+kernel]
 subst vM;refine aa (wpAny_isInstance (T:= "set") (b:=true) B sub_set_self ?_);refine wpAny_ite_split (λz=>absurd z (by decide)) λ_=>wpAny_ite_split (λ_=>aa (wpAny_typeOf B (af h))) λz=>absurd (by decide+kernel) z
noncomputable def cy(w:World)(a:Addr)(es:Array (Int×Value))(ep:Nat):List (Int×Value):=if w.params.followText "set-order"=true then(pickOrder (w.params.setOrder a ep) es).toList else es.toList
theorem fq:List.Perm (cy w a es ep) es.toList:=by
 unfold cy;split
 ·exact rP _ _
 ·exact .refl _
theorem rA(hh:A.handled=none)(I:Addr)(hne:a≠I)(hl:w.params.followText "set-order"=false->t.led=true/\gb t es.size=true):
  Walks prog w A I [I,a] [I] es.size (λi v=>∃h,(cy w a es ep)[i]? =some (h,v)) (λi h=>h.RawSI I a (slotAt t (w.params.followText "set-order") i) i es.size ep/\h.RawS a es ep t) where
 sub:=λb B=>by simp at B;simp[B]
 frame:=λ_ _ _ st hk=>⟨let⟨o,ho,r⟩:=st.1;⟨o,hk I (by simp) o ho,r⟩,st.2.at λo q=>hk a (by simp) o q⟩
 item:=λi s Q E hi st U=>by
  obtain⟨it,x⟩:=st;have hz:(cy w a es ep).length=es.size:=by rw[fq.length_eq,Array.length_toList]
  have hg:(cy w a es ep)[i]? =some ((cy w a es ep)[i]'(by omega)):=ae (by omega)
  refine wj (v:=((cy w a es ep)[i]'(by omega)).2) (sl':=slotAt t (w.params.followText "set-order") (i+1)) it x (λE' Q' q=>?_) λh' Z sb=>U _ h' s.toks ⟨_,hg⟩ ⟨Z,x.at λo z=>(sb.2 a hne).trans z⟩ λb o B z=>sb.extBut b o (λy=>B (by simp[y])) z
  cases B:w.params.followText "set-order" with
  |true=>
   refine jw B x ?_;have e:(cy w a es ep)=(pickOrder (w.params.setOrder a ep) es).toList:=by unfold cy;rw[if_pos B]
   have e2:(pickOrder (w.params.setOrder a ep) es)[i]? =some ((cy w a es ep)[i]'(by omega)):=by rw[<-Array.getElem?_toList,<-e];exact hg
   rw[e2];rw[B] at q;exact q
  |false=>
   obtain⟨l1,l2⟩:=hl B;unfold gb at l2;rw[Bool.and_eq_true,Bool.and_eq_true,List.all_eq_true] at l2;obtain⟨⟨l2,Y⟩,l4⟩:=l2;have l5:SetTable.below t.place (slotAt t false i)=i:=by simpa using l2 i (List.mem_range.mpr hi)
   have l6:t.place.size=es.size:=by simpa using l4
   have e:(cy w a es ep)=es.toList:=by unfold cy;rw[if_neg (by rw[B];decide)]
   have J:i<t.place.size:=by omega
   rw[B] at q;refine oN (h:=((cy w a es ep)[i]'(by omega)).1) (j:=t.place[i]) B l1 x (by rw[l5,<-Array.getElem?_toList,<-e];exact hg) (by rw[l5];simp[J]) ?_
   have:slotAt t false (i+1)=t.place[i]+1:=by simp[slotAt,J]
   rw[<-this];exact q
 done:=λs Q E st U=>by
  obtain⟨it,x⟩:=st;have hz:(cy w a es ep).length=es.size:=by rw[fq.length_eq,Array.length_toList]
  refine yQ hh it x (λE' Q' q=>?_) λh' he=>U h' s.toks λb o B z=>he b o (λy=>B (by simp[y])) z
  cases B:w.params.followText "set-order" with
  |true=>
   refine jw B x ?_;have e:(cy w a es ep)=(pickOrder (w.params.setOrder a ep) es).toList:=by unfold cy;rw[if_pos B]
   have e2:(pickOrder (w.params.setOrder a ep) es)[es.size]? =none:=by rw[<-Array.getElem?_toList,<-e];exact aT (by omega)
   rw[e2];exact q
  |false=>
   obtain⟨l1,l2⟩:=hl B;unfold gb at l2;rw[Bool.and_eq_true,Bool.and_eq_true,List.all_eq_true] at l2;obtain⟨⟨_,Y⟩,_⟩:=l2;have Y:SetTable.below t.place (slotAt t false es.size)=es.size:=by simpa using Y
   exact oO B l1 x (by rw[Y];simp) q
 self:=λi s Q E st U=>by have hT:=st.1.ty;refine wpAny_pyIter_slot hT gI (wpAny_call_entry gI hT kJ (show wpAny _ _ (ret (.ref I)) _ _ s from af ⟨_,rfl,"set_iterator",_,hT,cG.lookup,U⟩) (mN _))
theorem wk(I:w.params.followText "set-order"=false->t.led=true/\gb t es.size=true):KdlSrc prog w "set" a a es.size (λi v=>∃h,(cy w a es ep)[i]? =some (h,v)) (λh=>h.RawS a es ep t) where
 type:=λ_ x=>x.ty
 there:=λ_ x=>⟨let⟨_,ho,_⟩:=x.ob;am ho,let⟨_,ho,_⟩:=x.ob;am ho⟩
 keep:=λ_ _ x J=>x.at λo e=>J a (.inl rfl) o e
 notList:=by decide
 notTuple:=by decide
 hint:=λ_ _ _ _ x B=>tO x.ty B
 iter:=λA s U x=>⟨_,_,λ_ _ B=>tN x B,rA (t:=t) (ep:=ep) U _ (let⟨_,ho,_⟩:=x.ob;aC (am ho)) I,⟨⟨_,aw _ rfl,rfl,by simp[slotAt]⟩,x.at λo q=>ah _ q⟩⟩
end
end PySem.W
namespace Tab23
noncomputable def insI(x:Int):List Int->List Int
 |[]=>[x]
 |y::r=>if x<=y then x::y::r else y::insI x r
def cJ:List Int->List Int
 |[]=>[]
 |x::r=>insI x (cJ r)
def ie(ns:List Int):List Int:=cJ (ns.foldl (λl x=>if l.contains x then l else l++[x]) [])
theorem insI_perm(x:Int):∀l,(insI x l).Perm (x::l)
 |[]=>.refl _
 |y::r=>by
  unfold insI;split
  ·exact .refl _
  ·exact((insI_perm x r).cons y).trans (.swap ..)
theorem cm:∀l,(cJ l).Perm l
 |[]=>.refl _
 |x::r=>(insI_perm x _).trans ((cm r).cons x)
theorem qD(x:Int):∀l:List Int,l.Pairwise (· <= ·)->(insI x l).Pairwise (· <= ·)
 |[],_=>by simp[insI]
 |y::r,h=>by
  have h':=List.pairwise_cons.mp h;unfold insI;split
  ·rename_i I;refine List.pairwise_cons.mpr ⟨λz B=>?_,h⟩;rcases List.mem_cons.mp B with rfl|B
   ·exact I
   ·exact Int.le_trans I (h'.1 z B)
  ·rename_i I;refine List.pairwise_cons.mpr ⟨λz B=>?_,qD x r h'.2⟩;rcases List.mem_cons.mp ((insI_perm x r).mem_iff.mp B) with rfl|B
   ·omega
   ·exact h'.1 z B
theorem lS:∀l:List Int,(cJ l).Pairwise (· <= ·)
 |[]=>.nil
 |x::r=>qD x _ (lS r)
theorem pU:∀{a b:List Int},a.Perm b->a.Pairwise (· <= ·)->b.Pairwise (· <= ·)->a=b
 |[],b,p,_,_=>(List.perm_nil.mp p.symm).symm▸rfl
 |x::a,[],p,_,_=>by cases(List.perm_nil.mp p)
 |x::a,y::b,p,ha,hb=>by
  have I:=List.pairwise_cons.mp ha;have B:=List.pairwise_cons.mp hb
  have e:x=y:=by
   have h1:x∈y::b:=p.mem_iff.mp (.head _);have J:y∈x::a:=p.mem_iff.mpr (.head _);rcases List.mem_cons.mp h1 with e|h1
   ·exact e
   ·rcases List.mem_cons.mp J with e|J
    ·exact e.symm
    ·have:=I.1 y J;have:=B.1 x h1;omega
  subst e;rw[pU (List.Perm.cons_inv p) I.2 B.2]
theorem lT{a b:List Int}(p:a.Perm b)(h:a.Pairwise (· <= ·)):a=cJ b:=pU (p.trans (cm b).symm) h (lS b)
def CA(led:Bool)(xs:List Int):Bool:=match sH xs ([],.fresh 0 0 led) with
 |some (hs,t)=>PySem.W.gb t hs.length&&(t.led==led)&&cJ hs==ie xs&&xs.all (λx=>PySem.hashInt x==x)&&decide (hs.length<=2)
 |none=>false
theorem D6:((all 2).all (CA true)&&(all 2).all (CA false))=true:=by decide+kernel
theorem jf:∀{n:Nat}{xs:List Int},xs.length<=n->(∀x∈xs,0<=x/\x<10)->xs∈all n
 |0,xs,h,_=>by
  have:xs=[]:=List.length_eq_zero_iff.mp (by omega)
  subst this;exact .head _
 |n+1,xs,h,hb=>by
  unfold all;rw[List.mem_append];by_cases hl:xs.length<=n
  ·exact .inl (jf hl hb)
  ·right;cases xs with
   |nil=>simp at hl
   |cons x r=>
    have I:r.length=n:=by simp at h hl;omega
    have J:=hb x (.head _);rw[List.mem_flatMap];refine⟨r,List.mem_filter.mpr ⟨jf (by omega) λy B=>hb y (.tail _ B),by simpa using I⟩,List.mem_map.mpr ⟨x.toNat,List.mem_range.mpr (by omega),?_⟩⟩
    have:((x.toNat:Nat):Int)=x:=by omega
    rw[this]
theorem BM(B:Bool){xs:List Int}(h:xs.length<=2)(J:∀x∈xs,0<=x/\x<10):∃hs t,sH xs ([],.fresh 0 0 B)=some (hs,t)/\PySem.W.gb t hs.length=true/\t.led=B/\cJ hs=ie xs/\(∀x∈xs,PySem.hashInt x=x)/\hs.length<=2:=by
 have k:=D6;rw[Bool.and_eq_true,List.all_eq_true,List.all_eq_true] at k
 have I:CA B xs=true:=by
  cases B with
  |true=>exact k.1 xs (jf h J)
  |false=>exact k.2 xs (jf h J)
 unfold CA at I;split at I
 ·rename_i hs t e;simp only[Bool.and_eq_true,List.all_eq_true,beq_iff_eq,decide_eq_true_eq] at I;exact⟨hs,t,e,I.1.1.1.1,I.1.1.1.2,I.1.1.2,I.1.2,I.2⟩
 ·cases I
end Tab23
namespace PySem.W
open PySem PySem.Calls PyProof.Rows Tab23
section
variable{prog:Program}{w:World}{A:Around}{E:Value->Shared->Prop}{s:Shared}
theorem qC:∀{l:List (Int×Value)},(∀e∈l,∃k:Tok,e.2=.int e.1 k/\hashInt e.1=e.1)->IntsAre (l.map (·.2)) (l.map (·.1))
 |[],_=>.nil
 |e::r,h=>by obtain⟨k,h1,_⟩:=h e (.head _);rw[List.map_cons,List.map_cons,h1];exact .cons _ _ (qC λx B=>h x (.tail _ B))
theorem oJ{a:Addr}{hs:List Int}{t:SetTable}{Q:Value->Shared->Prop}(U:A.handled=none)(R:s.heap.RawN a hs t)(hz:hs.length<64)(hl:w.params.followText "set-order"=false->t.led=true)(hw:gb t hs.length=true)
  (h:∀(h':Heap)(tk:Nat)(D:Addr)(out:Array Value)(c:Nat),(∀b o,s.heap.get? b=some o->h'.get? b=some o)->s.heap.get? D=none->h'.get? D=some (seqObj "list" out c)->IntsAre out.toList (cJ hs)->Q (.ref D) {s with heap:=h',toks:=tk}):
  wpAny (model prog w) A (call (.builtin "sorted") [.ref a]) Q E s:=by
 obtain⟨es,ep,x,J,he⟩:=R;have hsz:es.size=hs.length:=by rw[<-J,List.length_map,Array.length_toList]
 have K:=wk (prog:=prog) (w:=w) (a:=a) (es:=es) (ep:=ep) (t:=t) λz=>⟨hl z,by rw[hsz];exact hw⟩
 refine call_function_entry kind_sorted plain_sorted entry_sorted (args_sorted1 _) ?_;unfold Builtin.«sorted»;refine aa (m:=checkCount "sorted" 1 1 _) (af (aa (kdu_collect (A:=A.in1) K U x (by rw[sizeLine_eq];omega) λh' tk acc I B=>?_)))
 have e1:acc.toList=(cy w a es ep).map (·.2):=by
  have hz:(cy w a es ep).length=es.size:=by rw[fq.length_eq,Array.length_toList]
  refine List.ext_getElem? λj=>?_;by_cases hj:j<acc.toList.length
  ·have Y:acc.toList[j]? =some (acc.toList[j]):=ae hj;obtain⟨U,e⟩:=B.2 j _ (by rw[<-Array.getElem?_toList];exact Y)
   rw[Y,aq,e];rfl
  ·have:es.size<=j:=by rw[Array.length_toList,B.1] at hj;omega
   rw[aT (by omega),aT (by rw[List.length_map];omega)]
 have hI:IntsAre acc.toList ((cy w a es ep).map (·.1)):=by rw[e1];exact qC λe q=>he e (fq.mem_iff.mp q)
 have hp:((cy w a es ep).map (·.1)).Perm hs:=by rw[<-J];exact fq.map _
 have hn:acc.toList.length<64:=by rw[Array.length_toList,B.1];omega
 refine aa (wpAny_newList ?_ (by rw[sizeLine_eq];omega))
 have ho:(h'.push (seqObj "list" acc.toList.toArray 0)).get? h'.objs.size=some (seqObj "list" acc.toList.toArray 0):=aw _ rfl;refine aa (wpAny_holding (wpAny_call_entry slot_list_sort ⟨_,ho,rfl⟩ entry_list_sort (list_sort_tree ho hI hn λout Z a1 a2 a3=>⟨_,rfl,?_⟩) (args_list_sort _)));obtain⟨c,hc⟩:=sortedHeap_at (out:=out) ho
 have hb:s.heap.get? h'.objs.size=none:=by
  cases e:s.heap.get? h'.objs.size with
  |none=>rfl
  |some o=>exact absurd (am (I _ _ e)) (a9 _)
 refine af ⟨_,rfl,h _ tk h'.objs.size out c (λb o q=>?_) hb hc (by rw[<-lT (a2.trans hp) a3];exact a1)⟩
 have q2:=I b o q;rw[sortedHeap_old (aC (am q2)) (by rw[Heap.size_push];exact Nat.lt_succ_of_lt (am q2))]
 exact ah _ q2
end
end PySem.W
namespace Ev
open PySem PySem.Spec PyProof.Rows L2
variable{v vx vy:V}{d x y:D}{vs:List V}{X:Cx}{st:aW}{ι:Nat->Addr}{H:Hp}{m:Nat}{ux uy:Value}
def bB:List (Key×D)->Key->Option D
 |[],_=>none
 |p::r,k=>if p.1=k then some p.2 else bB r k
noncomputable abbrev Loc:=List (Option D)
inductive Bo where
 |add|sub|mul|fdiv|mod|pow
inductive Bt where
 |len|list|tuple|dict|sorted
inductive Sk where
 |seq|rng|en
noncomputable def Sk.isEn:Sk->Bool
 | .en=>true
 |_=>false
inductive Ex where
 |c (d:D)|v (i:Nat)|tup (es:List Ex)|lst (es:List Ex)|emp
 |bin (op:Bo)(a b:Ex)|not (a:Ex)|and (a b:Ex)|or (a b:Ex)
 |cmp (op:CmpOp)(a b:Ex)|chain (op op':CmpOp)(a b c:Ex)
 |ix (a b:Ex)|sl (a lo hi:Ex)(hl hh:Bool)
 |fn (f:Nat) (args:List Ex)|bt (f:Bt)(args:List Ex)
 |comp (sk:Sk)(two:Bool)(src test:Ex)(ht:Bool)(elt:Ex)
 |dict1 (k v:Ex)|pop (o:Ex)(fr:Bool)
 |fld (a:Ex)(f:Str)(cs ics:List Str)
 |new (x:Str) (f:Nat) (args:List Ex)|meth (o:Ex)(m:Str)(ms:List (Str×Nat))(args:List Ex)
 |isi (a:Ex)(tp:Bool)|sit (a:Ex)|dget (a b c:Ex)|dget1 (a b:Ex)|sset (a:Ex)|sde (a b c:Ex)
noncomputable def alloc(xs:List D):M D:=λst=>.ok (.ref st.length) (st++[.lst xs])
noncomputable def allocD:M D:=λst=>.ok (.ref st.length) (st++[.dct []])
def bG(st:aW):D->Option (List D)
 | .tup xs=>some xs
 | .fl xs=>some xs
 | .ref n=>match st[n]? with
  |some (.lst xs)=>some xs
  |_=>none
 |_=>none
def uh(fr:Bool)(x:D):M D:=λst=>match x with
 | .ref n=>match st[n]? with
  |some (.lst xs)=>match xs[if fr then 0 else xs.length - 1]? with
   |some y=>.ok y (st.set n (.lst (if fr then xs.drop 1 else xs.dropLast)))
   |none=>.bad
  |_=>.bad
 |_=>.bad
noncomputable def big:Int:=18446744073709551616
noncomputable def ii(f:Int->Int->M D)(x y:D):M D:=match x with
 | .int i=>(match y with
  | .int j=>f i j
  |_=>stuck)
 |_=>stuck
noncomputable def addD(x y:D):M D:=match x with
 | .int i=>(match y with
  | .int j=>ret (.int (i+j))
  |_=>stuck)
 | .ref m=>(match y with
  | .ref n=>λst=>match st[m]?,st[n]? with
   |some (.lst as),some (.lst bs)=>if as.length+bs.length<=1000000 then alloc (as++bs) st else .bad
   |_,_=>.bad
  |_=>stuck)
 |_=>stuck
def zS(x y:D):M D:=match x with
 | .int i=>(match y with
  | .int j=>λst=>if((-big<i/\i<big)∨(-big<j/\j<big))∨(i.natAbs<2^1000/\j.natAbs<2^1000) then .ok (.int (i*j)) st else .bad
  |_=>stuck)
 |_=>stuck
def cF(op:Bo)(x y:D):M D:=match op with
 | .add=>addD x y
 | .sub=>ii (λi j=>ret (.int (i - j))) x y
 | .mul=>zS x y
 | .fdiv=>ii (λi j st=>if j≠0/\j.natAbs<2^200 then .ok (.int (i.fdiv j)) st else .bad) x y
 | .mod=>ii (λi j st=>if j≠0 then .ok (.int (i.fmod j)) st else .bad) x y
 | .pow=>ii (λi j st=>if 0<=j/\j<=1000/\i.natAbs<1000 then .ok (.int (i^j.toNat)) st else .bad) x y
def eY(st:aW)(x:D):List D->Option Bool
 |[]=>some false
 |y::ys=>match cj 60 st y x,eY st x ys with
  |some a,some b=>some (a||b)
  |_,_=>none
def iK(o:D):M Unit:=λst=>match o with
 | .ref n=>match st[n]? with
  |some (.lst _)=>.ok () st
  |_=>.bad
 |_=>.bad
def gS:D->Option Key
 | .int i=>some (.inl i)
 | .str s=>some (.inr s)
 |_=>none
def iE(st:aW)(x y:D):Option Bool:=match y with
 | .ref n=>match st[n]? with
  |some (.dct kvs)=>match gS x with
   |some k=>some (bB kvs k).isSome
   |none=>none
  |_=>none
 |_=>none
noncomputable def BU(x y:D):Option Bool:=match y with
 | .non=>some (match x with| .non=>true|_=>false)
 |_=>none
def bK(op:CmpOp)(x y:D):M D:=λst=>match op with
 | .Eq=>match cj 60 st x y with
  |some k=>.ok (.bl k) st
  |none=>.bad
 | .NotEq=>match cj 60 st x y with
  |some k=>.ok (.bl (!k)) st
  |none=>.bad
 | .Lt=>match x,y with
  | .int i,.int j=>.ok (.bl (decide (i<j))) st
  |_,_=>.bad
 | .LtE=>match x,y with
  | .int i,.int j=>.ok (.bl (decide (i<=j))) st
  |_,_=>.bad
 | .Gt=>match x,y with
  | .int i,.int j=>.ok (.bl (decide (j<i))) st
  |_,_=>.bad
 | .In=>match bG st y with
  |some ys=>match eY st x ys with
   |some k=>.ok (.bl k) st
   |none=>.bad
  |none=>match iE st x y with
   |some k=>.ok (.bl k) st
   |none=>.bad
 | .NotIn=>match bG st y with
  |some ys=>match eY st x ys with
   |some k=>.ok (.bl (!k)) st
   |none=>.bad
  |none=>match iE st x y with
   |some k=>.ok (.bl (!k)) st
   |none=>.bad
 | .Is=>match BU x y with
  |some k=>.ok (.bl k) st
  |none=>.bad
 | .IsNot=>match BU x y with
  |some k=>.ok (.bl (!k)) st
  |none=>.bad
 |_=>.bad
def Cj(st:aW)(x:D)(k:Key):R D:=match x with
 | .ref n=>match st[n]? with
  |some (.dct kvs)=>match bB kvs k with
   |some d=>.ok d st
   |none=>.bad
  |_=>.bad
 |_=>.bad
def index(x y:D):M D:=λst=>match x,y with
 |x,.int i=>match bG st x with
  |some xs=>match lD xs i with
   |some d=>.ok d st
   |none=>.bad
  |none=>Cj st x (.inl i)
 |x,.str k=>Cj st x (.inr k)
 |_,_=>.bad
def D2:D->Option (Key×D)
 | .tup xs=>(k4 xs).bind λp=>(gS p.1).map λk=>(k,p.2)
 |_=>none
def rN:List D->Option (List (Key×D))
 |[]=>some []
 |x::r=>(D2 x).bind λp=>(rN r).map λq=>p::q
def bM(kvs:List (Key×D))(k:Key)(v:D):List (Key×D):=if(kvs.any λkv=>decide (kv.1=k)) then kvs.map (λkv=>if kv.1=k then(kv.1,v) else kv) else kvs++[(k,v)]
def qL(ps:List (Key×D)):List (Key×D):=ps.foldl (λacc p=>bM acc p.1 p.2) []
def c5(st:aW):D->Option (List (Key×D))
 | .ref n=>match st[n]? with
  |some (.dct kvs)=>some kvs
  |_=>none
 |_=>none
noncomputable def k6:List D->Option (List Int)
 |[]=>some []
 | .int i::r=>(k6 r).map λns=>i::ns
 |_=>none
def fA:List (Key×D)->Option (List Int)
 |[]=>some []
 |(.inl n,_)::r=>(fA r).map λns=>n::ns
 |_=>none
def numsOf(st:aW):D->Option (List Int)
 | .ref n=>match st[n]? with
  |some (.lst xs)=>k6 xs
  |some (.dct kvs)=>fA kvs
  |_=>none
 |_=>none
def tK(x:D):M D:=λst=>match bG st x with
 |some xs=>match k6 xs with
  |some ns=>if ns.length<=2/\ns.all (λn=>decide (0<=n/\n<10))=true then alloc ((Tab23.ie ns).map .int) st else .bad
  |none=>.bad
 |none=>.bad
def om(f:Bt)(x:D):M D:=match f with
 | .len=>λst=>match bG st x with
  |some xs=>.ok (.int xs.length) st
  |none=>match c5 st x with
   |some kvs=>.ok (.int kvs.length) st
   |none=>.bad
 | .list=>λst=>match bG st x with
  |some xs=>alloc xs st
  |none=>.bad
 | .tuple=>λst=>match bG st x with
  |some xs=>.ok (.tup xs) st
  |none=>.bad
 | .dict=>(match x with
  | .ref n=>λst=>match st[n]? with
   |some (.lst xs)=>(match rN xs with
    |some ps=>.ok (.ref st.length) (st++[.dct (qL ps)])
    |none=>.bad)
   |some (.dct kvs)=>.ok (.ref st.length) (st++[.dct kvs])
   |_=>.bad
  |_=>stuck)
 | .sorted=>λst=>match numsOf st x with
  |some ns=>if ns.length<64 then alloc ((Tab23.cJ ns).map .int) st else .bad
  |none=>.bad
def dD(f:Bt)(ds:List D):M D:=match ds with
 |[x]=>om f x
 |_=>stuck
inductive Src where
 |its (xs:List D)|at(n:Nat)|en (n:Nat)|di (n:Nat)|dv (n:Nat)
def kD:Key->D
 | .inl i=>.int i
 | .inr s=>.str s
noncomputable def bO(n:Nat):List D:=(List.range n).map λ(i:Nat)=>D.int (i:Int)
def cY(rng:Bool)(d:D):Option Src:=match rng,d with
 |true,.int j=>if -1000000<=j/\j<=1000000 then some (.its (bO j.toNat)) else none
 |false,.tup xs=>some (.its xs)
 |false,.fl xs=>some (.its xs)
 |false,.ref n=>some (.at n)
 |_,_=>none
noncomputable def dF(i:Int)(n:Nat):List D:=(List.range n).map λ(k:Nat)=>D.int (i - (k:Int))
def lU:D->Option Src
 | .int i=>if -1000000<=i/\i<=1000000 then some (.its (dF i (i+1).toNat)) else none
 |_=>none
noncomputable def gW(k:Nat):List D->List D
 |[]=>[]
 |x::xs=>.tup [.int (k:Int),x]::gW (k+1) xs
theorem d0:∀(xs:List D)(k i:Nat),(gW k xs)[i]? =xs[i]?.map λx=>.tup [.int ((k+i:Nat):Int),x]
 |[],k,i=>by simp[gW]
 |x::xs,k,0=>by simp[gW]
 |x::xs,k,i+1=>by
  simp only[gW,List.getElem?_cons_succ];rw[d0 xs (k+1) i,show k+1+i=k+(i+1) by omega]
noncomputable def qQ:D->Option Src
 | .ref n=>some (.en n)
 |_=>none
def c9(s:Src)(i:Nat)(st:aW):Option (Option D):=match s with
 | .its xs=>some xs[i]?
 | .at n=>match st[n]? with
  |some (.lst xs)=>some xs[i]?
  |_=>none
 | .en n=>match st[n]? with
  |some (.lst xs)=>some (xs[i]?.map λx=>.tup [.int (i:Int),x])
  |_=>none
 | .di n=>match st[n]? with
  |some (.dcf kvs)=>some (kvs[i]?.map λp=>.tup [kD p.1,p.2])
  |_=>none
 | .dv n=>match st[n]? with
  |some (.dcf kvs)=>some (kvs[i]?.map λp=>p.2)
  |_=>none
def bF(s:Src)(st:aW):Nat:=match s with
 | .its xs=>xs.length
 | .at n=>match st[n]? with
  |some (.lst xs)=>xs.length
  |_=>0
 | .en n=>match st[n]? with
  |some (.lst xs)=>xs.length
  |_=>0
 | .di n=>match st[n]? with
  |some (.dcf kvs)=>kvs.length
  |_=>0
 | .dv n=>match st[n]? with
  |some (.dcf kvs)=>kvs.length
  |_=>0
def dH(f:D->M (Option D))(s:Src):Nat->Nat->List D->M (List D)
 |0,_,_=>stuck
 |k+1,i,acc=>λst=>match c9 s i st with
  |some (some x)=>aZ (f x) (λo=>match o with
   |some y=>dH f s k (i+1) (acc++[y])
   |none=>dH f s k (i+1) acc) st
  |some none=>.ok acc st
  |none=>.bad
def cX(f:D->M (Option D))(s:Src):M D:=λst=>if bF s st<=1000000 then aZ (dH f s (bF s st+1) 0 []) alloc st else .bad
noncomputable def g_:D->Option Bool
 | .bl b=>some b
 |_=>none
noncomputable def kF:D->Option Int
 | .int i=>some i
 |_=>none
noncomputable def cutD(xs:List D)(lo hi:Option Int):List D:=(xs.drop (HT.cC xs.length 0 lo)).take (HT.cC xs.length xs.length hi - HT.cC xs.length 0 lo)
def slice(x:D)(lo hi:Option Int):M D:=λst=>match x with
 | .tup xs=>if HT.cC xs.length 0 lo=0/\HT.cC xs.length xs.length hi=xs.length then .bad else .ok (.tup (cutD xs lo hi)) st
 |x=>match bG st x with
  |some xs=>alloc (cutD xs lo hi) st
  |none=>.bad
def vg(x y:D):M D:=λst=>match gS x with
 |some k=>.ok (.ref st.length) (st++[.dct [(k,y)]])
 |none=>.bad
def Aj(f:Str)(cs ics:List Str)(x:D):M D:=λst=>match x with
 | .ref n=>match st[n]? with
  |some (.ins c fs)=>match fs.lookup f with
   |some d=>if c∈ics then .ok d st else .bad
   |none=>.bad
  |_=>.bad
 |_=>.bad
def qu(m:Str)(ms:List (Str×Nat))(x:D):M Nat:=λst=>match x with
 | .ref n=>match st[n]? with
  |some (.ins c fs)=>match fs.lookup m,ms.lookup c with
   |none,some j=>.ok j st
   |_,_=>.bad
  |_=>.bad
 |_=>.bad
inductive Rs where
 |v (d:D)|x (n:Nat)
noncomputable def Rs.val?:Rs->Option D
 | .v d=>some d
 | .x _=>none
abbrev fe:=Nat->List D->M Rs
def uC(g:fe)(x:Str)(f:Nat)(ds:List D):M D:=λst=>aZ (g f (.ref st.length::ds)) (λr=>match r with
 | .v .non=>ret (.ref st.length)
 |_=>stuck) (st++[.ins x []])
def z6(tp:Bool)(x:D):M D:=λst=>match x with
 | .tup _=>if tp then .ok (.bl true) st else .bad
 | .ref n=>match st[n]? with
  |some (.lst _)=>if tp then .bad else .ok (.bl true) st
  |_=>.bad
 |_=>.bad
def yP(x:D):M D:=λst=>match c5 st x with
 |some kvs=>if kvs.length=0 then alloc [] st else .bad
 |none=>.bad
def gY(o:D):M Unit:=λst=>match c5 st o with
 |some _=>.ok () st
 |none=>.bad
def vi(x k z:D):M D:=λst=>match c5 st x with
 |some kvs=>match gS k with
  |some k=>.ok ((bB kvs k).getD z) st
  |none=>.bad
 |none=>.bad
def pr(x k:D):M D:=λst=>match c5 st x with
 |some kvs=>match gS k with
  |some k=>.ok ((bB kvs k).getD .non) st
  |none=>.bad
 |none=>.bad
def srcOf:Sk->D->Option Src
 | .seq=>cY false
 | .rng=>cY true
 | .en=>qQ
def own(two:Bool)(x:D):M (List D):=match two with
 |false=>ret [x]
 |true=>match x with
  | .tup xs=>if xs.length=2 then ret xs else stuck
  |_=>stuck
def fi(c e:Loc->M D)(ht two:Bool)(loc:Loc)(x:D):M (Option D):=aZ (own two x) λds=>aZ (if ht then aZ (c (ds.map some++loc)) λz=>d9 (g_ z) else ret true) λk=>if k then aZ (e (ds.map some++loc)) λy=>ret (some y) else ret none
def yR(o i v:D):M D:=λst=>match o with
 | .ref n=>match st[n]? with
  |some (.dct kvs)=>match gS i with
   |some k=>if kvs.length<1000000 then(match bB kvs k with
    |some d=>.ok d st
    |none=>.ok v (st.set n (.dct (bM kvs k v)))) else .bad
   |none=>.bad
  |_=>.bad
 |_=>.bad
mutual
noncomputable def run(g:fe):Ex->Loc->M D
 | .c d,_=>ret d
 | .v i,loc=>d9 (loc[i]?.join)
 | .tup es,loc=>aZ (runs g es loc) λds=>ret (.tup ds)
 | .lst es,loc=>aZ (runs g es loc) alloc
 | .emp,_=>allocD
 | .bin op a b,loc=>aZ (run g a loc) λx=>aZ (run g b loc) λy=>cF op x y
 | .not a,loc=>aZ (run g a loc) λx=>aZ (d9 (g_ x)) λb=>ret (.bl (!b))
 | .and a b,loc=>aZ (run g a loc) λx=>aZ (d9 (g_ x)) λk=>if k then run g b loc else ret (.bl false)
 | .or a b,loc=>aZ (run g a loc) λx=>aZ (d9 (g_ x)) λk=>if k then ret (.bl true) else run g b loc
 | .cmp op a b,loc=>aZ (run g a loc) λx=>aZ (run g b loc) λy=>bK op x y
 | .chain op op' a b c,loc=>aZ (run g a loc) λx=>aZ (run g b loc) λy=>aZ (bK op x y) λz=>aZ (d9 (g_ z)) λk=>if k then aZ (run g c loc) λw=>bK op' y w else ret (.bl false)
 | .ix a b,loc=>aZ (run g a loc) λx=>aZ (run g b loc) λy=>index x y
 | .sl a lo hi hl hh,loc=>aZ (run g a loc) λx=>aZ (if hl then aZ (run g lo loc) λz=>aZ (d9 (kF z)) λi=>ret (some i) else ret none) λl=>
   aZ (if hh then aZ (run g hi loc) λz=>aZ (d9 (kF z)) λi=>ret (some i) else ret none) λh=>slice x l h
 | .fn f args,loc=>aZ (runs g args loc) λds=>aZ (g f ds) λr=>d9 r.val?
 | .bt f args,loc=>aZ (runs g args loc) λds=>dD f ds
 | .fld a f cs ics,loc=>aZ (run g a loc) λx=>Aj f cs ics x
 | .new x f args,loc=>aZ (runs g args loc) λds=>uC g x f ds
 | .meth o m ms args,loc=>aZ (run g o loc) λx=>aZ (qu m ms x) λj=>aZ (runs g args loc) λds=>aZ (g j (x::ds)) λr=>d9 r.val?
 | .dict1 a b,loc=>aZ (run g a loc) λx=>aZ (run g b loc) λy=>vg x y
 | .comp sk two src test ht elt,loc=>aZ (run g src loc) λd=>aZ (d9 (srcOf sk d)) λs=>cX (fi (run g test) (run g elt) ht two loc) s
 | .pop o fr,loc=>aZ (run g o loc) λx=>uh fr x
 | .isi a tp,loc=>aZ (run g a loc) λx=>z6 tp x
 | .sit a,loc=>aZ (run g a loc) λx=>yP x
 | .dget a b c,loc=>aZ (run g a loc) λx=>aZ (gY x) λ_=>aZ (run g b loc) λk=>aZ (run g c loc) λz=>vi x k z
 | .sde a b c,loc=>aZ (run g a loc) λx=>aZ (gY x) λ_=>aZ (run g b loc) λk=>aZ (run g c loc) λz=>yR x k z
 | .dget1 a b,loc=>aZ (run g a loc) λx=>aZ (gY x) λ_=>aZ (run g b loc) λk=>pr x k
 | .sset a,loc=>aZ (run g a loc) λx=>tK x
noncomputable def runs(g:fe):List Ex->Loc->M (List D)
 |[],_=>ret []
 |e::es,loc=>aZ (run g e loc) λd=>aZ (runs g es loc) λds=>ret (d::ds)
end
inductive S where
 |set (i:Nat)(e:Ex)|setix (o i e:Ex)|ret (e:Ex)|app (o e:Ex)
 |ite (c:Ex)(a b:List S)|for_ (i:Nat)(rng:Bool)(src:Ex)(body:List S)|forD (i:Nat)(a:Ex)(body:List S)
 |whil (c:Ex)(body:List S)
 |setf (o:Ex)(f:Str)(e:Ex)(cs ics:List Str)
 |forE (is:List Nat)(src:Ex)(body:List S)|forU (is:List Nat)(src:Ex)(body:List S)
 |forI (is:List Nat)(o:Ex)(body:List S)|forW (i:Nat)(o:Ex)(body:List S)
 |aug (i:Nat)(e:Ex)|augx (o i e:Ex)
 |ext (o e:Ex)|clr (o:Ex)|cont
 |stop
inductive Fl where
 |nx (loc:Loc)|rt (d:D)|ex (n:Nat)(loc:Loc)|ct (loc:Loc)
def gJ(o i v:D):M Unit:=λst=>match o with
 | .ref n=>match st[n]? with
  |some (.lst xs)=>match i with
   | .int k=>match uG xs.length k with
    |some j=>.ok () (st.set n (.lst (xs.set j v)))
    |none=>.bad
   |_=>.bad
  |some (.dct kvs)=>match gS i with
   |some k=>if kvs.length<1000000 then .ok () (st.set n (.dct (bM kvs k v))) else .bad
   |none=>.bad
  |_=>.bad
 |_=>.bad
noncomputable def append(o v:D):M Unit:=λst=>match o with
 | .ref n=>match st[n]? with
  |some (.lst xs)=>if xs.length<1000000 then .ok () (st.set n (.lst (xs++[v]))) else .bad
  |_=>.bad
 |_=>.bad
def iA(f:D->Loc->M Fl)(s:Src):Nat->Nat->Loc->M Fl
 |0,_,_=>stuck
 |k+1,i,loc=>λst=>match c9 s i st with
  |some (some x)=>aZ (f x loc) (λr=>match r with
   | .nx loc'=>iA f s k (i+1) loc'
   | .ct loc'=>iA f s k (i+1) loc'
   | .rt d=>ret (.rt d)
   | .ex n l=>ret (.ex n l)) st
  |some none=>.ok (.nx loc) st
  |none=>.bad
def eF(f:D->Loc->M Fl)(s:Src)(loc:Loc):M Fl:=λst=>iA f s (bF s st+1) 0 loc st
noncomputable def fg(c:Loc->M D)(f:Loc->M Fl):Nat->Loc->M Fl
 |0,_=>stuck
 |k+1,loc=>aZ (c loc) λx=>aZ (d9 (g_ x)) λb=>if b then aZ (f loc) (λr=>match r with
   | .nx loc'=>fg c f k loc'
   | .ct loc'=>fg c f k loc'
   | .rt d=>ret (.rt d)
   | .ex n l=>ret (.ex n l)) else ret (.nx loc)
noncomputable def Ai:Nat:=1000000000
def ib:List Nat->List D->Loc->Loc
 |i::is,d::ds,loc=>ib is ds (loc.set i (some d))
 |_,_,loc=>loc
noncomputable def items?(n:Nat)(d:D):M (List D):=λst=>match d with
 | .tup xs=>if xs.length=n then .ok xs st else .bad
 |_=>.bad
def vC(x y:D):M D:=λst=>match x,y with
 | .int i,.int j=>.ok (.int (i+j)) st
 |_,_=>.bad
def getL(x k:D):M D:=λst=>match x with
 | .ref n=>match st[n]? with
  |some (.lst xs)=>match k with
   | .int j=>if 0<=j then(match lD xs j with
    |some d=>.ok d st
    |none=>.bad) else .bad
   |_=>.bad
  |_=>.bad
 |_=>.bad
def putL(x k v:D):M Unit:=λst=>match x with
 | .ref n=>match st[n]? with
  |some (.lst xs)=>match k with
   | .int j=>(match uG xs.length j with
    |some i=>.ok () (st.set n (.lst (xs.set i v)))
    |none=>.bad)
   |_=>.bad
  |_=>.bad
 |_=>.bad
def sq(d:D):M Nat:=λst=>match d with
 | .ref n=>match st[n]? with
  |some (.dct kvs)=>.ok n (st.set n (.dcf kvs))
  |_=>.bad
 |_=>.bad
def rm(n:Nat)(r:Fl):M Fl:=λst=>match st[n]? with
 |some (.dcf kvs)=>match r with
  | .ex _ _=>.bad
  |r=>.ok r (st.set n (.dct kvs))
 |_=>.bad
noncomputable def extend(o v:D):M Unit:=λst=>match o,v with
 | .ref n,.ref m=>match st[n]?,st[m]? with
  |some (.lst xs),some (.lst ys)=>if xs.length+ys.length<=10000000 then .ok () (st.set n (.lst (xs++ys))) else .bad
  |_,_=>.bad
 |_,_=>.bad
def pB(o:D):M Unit:=λst=>match o with
 | .ref n=>match st[n]? with
  |some (.lst _)=>.ok () (st.set n (.lst []))
  |_=>.bad
 |_=>.bad
def ng(cs ics:List Str)(o:D)(f:Str)(v:D):M Unit:=λst=>match o with
 | .ref n=>match st[n]? with
  |some (.ins c fs)=>if fs.length<900/\c∈ics then .ok () (st.set n (.ins c (putD f v fs))) else .bad
  |_=>.bad
 |_=>.bad
mutual
noncomputable def exec(g:fe):S->Loc->M Fl
 | .set i e,loc=>aZ (run g e loc) λd=>ret (.nx (loc.set i (some d)))
 | .setix o i e,loc=>aZ (run g e loc) λd=>aZ (run g o loc) λx=>aZ (run g i loc) λk=>aZ (gJ x k d) λ_=>ret (.nx loc)
 | .ret e,loc=>aZ (run g e loc) λd=>ret (.rt d)
 | .app o e,loc=>aZ (run g o loc) λx=>aZ (iK x) λ_=>aZ (run g e loc) λd=>aZ (append x d) λ_=>ret (.nx loc)
 | .ite c a b,loc=>aZ (run g c loc) λx=>aZ (d9 (g_ x)) λk=>if k then execs g a loc else execs g b loc
 | .for_ i rng src body,loc=>aZ (run g src loc) λd=>aZ (d9 (cY rng d)) λs=>eF (λx loc'=>execs g body (loc'.set i (some x))) s loc
 | .forD i a body,loc=>aZ (run g a loc) λx=>aZ (d9 (lU x)) λs=>eF (λx loc'=>execs g body (loc'.set i (some x))) s loc
 | .whil c body,loc=>fg (run g c) (execs g body) Ai loc
 | .setf o f e cs ics,loc=>aZ (run g e loc) λd=>aZ (run g o loc) λx=>aZ (ng cs ics x f d) λ_=>ret (.nx loc)
 | .aug i e,loc=>aZ (run g (.v i) loc) λx=>aZ (run g e loc) λy=>aZ (vC x y) λz=>ret (.nx (loc.set i (some z)))
 | .augx o i e,loc=>aZ (run g o loc) λx=>aZ (run g i loc) λk=>aZ (getL x k) λy=>aZ (run g e loc) λz=>aZ (vC y z) λw=>aZ (putL x k w) λ_=>ret (.nx loc)
 | .forE is src body,loc=>aZ (run g src loc) λd=>aZ (d9 (qQ d)) λs=>eF (λx loc'=>aZ (items? is.length x) λds=>execs g body (ib is ds loc')) s loc
 | .forU is src body,loc=>aZ (run g src loc) λd=>aZ (d9 (cY false d)) λs=>eF (λx loc'=>aZ (items? is.length x) λds=>execs g body (ib is ds loc')) s loc
 | .forI is o body,loc=>aZ (run g o loc) λd=>aZ (sq d) λn=>aZ (eF (λx loc'=>aZ (items? is.length x) λds=>execs g body (ib is ds loc')) (.di n) loc) λr=>rm n r
 | .forW i o body,loc=>aZ (run g o loc) λd=>aZ (sq d) λn=>aZ (eF (λx loc'=>execs g body (loc'.set i (some x))) (.dv n) loc) λr=>rm n r
 | .ext o e,loc=>aZ (run g o loc) λx=>aZ (iK x) λ_=>aZ (run g e loc) λd=>aZ (extend x d) λ_=>ret (.nx loc)
 | .clr o,loc=>aZ (run g o loc) λx=>aZ (pB x) λ_=>ret (.nx loc)
 | .cont,loc=>ret (.ct loc)
 | .stop,_=>stuck
noncomputable def execs(g:fe):List S->Loc->M Fl
 |[],loc=>ret (.nx loc)
 |s::ss,loc=>aZ (exec g s loc) λr=>match r with
  | .nx loc'=>execs g ss loc'
  | .ct l=>ret (.ct l)
  | .rt d=>ret (.rt d)
  | .ex n l=>ret (.ex n l)
end
structure Fn where
 ar:Nat
 nl:Nat
 body:List S
noncomputable def qW(g:fe)(f:Fn)(ds:List D):M Rs:=if ds.length=f.ar then aZ (execs g f.body (ds.map some++List.replicate (f.nl - ds.length) none)) λr=>match r with
  | .nx _=>ret (.v .non)
  | .rt d=>ret (.v d)
  | .ex n _=>ret (.x n)
  | .ct _=>stuck
 else stuck
noncomputable def calls(tab:List Fn):Nat->fe
 |0,_,_=>stuck
 |k+1,f,ds=>match tab[f]? with
  |some fn=>qW (calls tab k) fn ds
  |none=>stuck
def cg(K:aD)(H:Hp)(ι:Nat->Addr)(st:aW)(r:R D)(Q:VK):Prop:=match r with
 | .ok d st'=>∀H' ι' v,Ext H H' ι ι' st.length st'.length->Sim K H' ι' st'->VRel K H' ι' st'.length d v->Q v H'
 | .bad=>False
section
variable{K:aD}{H:Hp}{ι:Nat->Addr}{st:aW}{Q:VK}
theorem cg.same(S:Sim K H ι st)(P:cg K H ι st (.ok d st) Q)(r:VRel K H ι st.length d v):Q v H:=P H ι v (Ext.refl _ _ _) S r
theorem cg.mono{H1:Hp}{ι1:Nat->Addr}{st1:aW}{r:R D}(P:cg K H ι st r Q)(E:Ext H H1 ι ι1 st.length st1.length):cg K H1 ι1 st1 r Q:=by
 cases r with
 |ok d st'=>exact λH' ι' v J I B=>P H' ι' v (E.trans J) I B
 |bad=>exact P
theorem cg.alloc{xs:List D}(S:Sim K H ι st)(P:cg K H ι st (alloc xs st) Q)(r:VRels K H ι st.length xs vs):∀p,H p=none->Q (.ref p) (upd H p (.lst vs)):=λp B=>by
 obtain⟨ι',E,e,I⟩:=S.laid (o:= .lst xs) (ho:= .lst vs) B (λι' h1 U=>⟨vs,bf,VRels.ext0 ⟨Nat.le_succ _,h1,λb xs e=>by rw[aG (aH e B)];exact e,λb J u e=>by rw[aG (aH e B)];exact e⟩ r⟩)
 have l:(st++[O.lst xs]).length=st.length+1:=by simp
 refine P _ ι' _ (by rw[l];exact E) I ?_
 rw[<-e,l];exact .ref (aO _)
theorem cg.allocD(S:Sim K H ι st)(P:cg K H ι st (allocD st) Q):∀p,H p=none->Q (.ref p) (upd H p (.dK [])):=λp B=>by
 obtain⟨ι',E,e,I⟩:=S.laid (o:= .dct []) (ho:= .dK []) B (λι' h1 J=>⟨[],bf,.nil⟩);have l:(st++[O.dct []]).length=st.length+1:=by simp
 refine P _ ι' _ (by rw[l];exact E) I ?_
 rw[<-e,l];exact .ref (aO _)
theorem cg.tup{xs:List D}(S:Sim K H ι st)(P:cg K H ι st (.ok (.tup xs) st) Q)(r:VRels K H ι st.length xs vs):∀p,H p=none->Q (.ref p) (upd H p (.tup vs)):=λp B=>by
 have U:∀n,n<st.length->ι n≠p:=λn I=>by obtain⟨_,h,_⟩:=S.obj I;exact aH h B
 have E:Ext H (upd H p (.tup vs)) ι ι st.length st.length:=⟨⟨ac _,λ_ _=>rfl,λb xs e=>by rw[aG (aH e B)];exact e,λb J u e=>by rw[aG (aH e B)];exact e⟩,λb J e k=>⟨by rw[aG (aH e B)];exact e,k⟩⟩
 refine P _ ι _ E ⟨S.inj,λn o e=>?_⟩ (.tup (fV.of bf) (r.ext E));have I:n<st.length:=(av e).1;have old:=S.ob n o e;exact old.move E.toExt0 (aG (U n I))
theorem VRel.seq{xs:List D}(S:Sim K H ι st)(r:VRel K H ι st.length d v)(e:bG st d=some xs):∃a vs,v=.ref a/\(c8 K H a vs∨fV K H a vs)/\VRels K H ι st.length xs vs:=by
 cases r with
 |non=>cases e
 |bl b=>cases e
 |int i=>cases e
 |str x=>cases e
 |tup h r=>cases e;exact⟨_,_,rfl,.inr h,r⟩
 |fl h r=>cases e;exact⟨_,_,rfl,.inl h.sql,r⟩
 | @ref n hn=>
  simp only[bG] at e;cases q:st[n]? with
  |none=>rw[q] at e;cases e
  |some o=>
   rw[q] at e;cases o with
   |lst zs=>cases e;obtain⟨vs,h1,B⟩:=S.ob n _ q;exact⟨_,vs,rfl,.inl (c8.of h1),B⟩
   |_=>cases e
theorem VRels.inv1(r:VRels K H ι st.length [d] vs):∃v,vs=[v]/\VRel K H ι st.length d v:=by
 cases r with
 |cons h t=>cases t;exact⟨_,rfl,h⟩
end
def rD(K:aD)(op:D->D->M D):R2:=λvx vy H Q=>∃ι st dx dy,Sim K H ι st/\VRel K H ι st.length dx vx/\VRel K H ι st.length dy vy/\cg K H ι st (op dx dy st) Q
noncomputable def Bo.op:Bo->Operator
 | .add=> .Add
 | .sub=> .Sub
 | .mul=> .Mult
 | .fdiv=> .FloorDiv
 | .mod=> .Mod
 | .pow=> .Pow
theorem uu:kA X (binaryOp .FloorDiv) (rI (λ_ j=>j≠0/\j.natAbs<2^200) λi j=>.int (i.fdiv j)):=Cz λi j _ _ _ _ _ B q=>floordiv_int B.1 q (.inl (PyProof.noPylong_of_log2 (by
 have h0:j.natAbs≠0:=by have:=B.1;omega
 have:j.natAbs.log2<200:=(Nat.log2_lt h0).mpr B.2;omega)))
theorem wW:kA X (binaryOp .Mult) (rI (λi j=>AI i j∨(i.natAbs<2^1000/\j.natAbs<2^1000)) λi j=>.int (i*j)):=Cz λ_ _ _ _ _ _ _ B q=>mul_int q (by
 rcases B with B|B
 ·exact B.ok
 ·exact .of_bits (aB (PyProof.Rows.intBits_le B.1) (by decide)) (aB (PyProof.Rows.intBits_le B.2) (by decide)))
theorem zN(op:Bo):kA X (binaryOp op.op) (rD X.K (cF op)):=by
 intro pins s σ H vx vy ux uy Q I J B h;obtain⟨ι,st,dx,dy,S,Y,U,P⟩:=h;have sz:sizeLine=16777216:=sizeLine_eq;cases op with
 |add=>cases dx with
  |int i=>cases dy with
   |int j=>cases Y;cases U;exact zO pins s σ H _ _ _ _ Q I J B ⟨_,_,rfl,rfl,cg.same S P (.int _)⟩
   |_=>exact False.elim P
  |ref m=>cases dy with
   |ref n=>
    simp only[cF,addD] at P;split at P
    ·rename_i as bs e1 e2;split at P
     ·rename_i hl;cases Y with
      |ref h1=>
       cases U with
       |ref h2=>
        obtain⟨v1,g1,r1⟩:=S.ob _ _ e1;obtain⟨v2,g2,r2⟩:=S.ob _ _ e2;have l1:=r1.length;have l2:=r2.length;exact zM pins s σ H _ _ _ _ Q I J B ⟨_,_,_,_,rfl,rfl,g1,g2,by omega,P.alloc S (r1.append r2)⟩
     ·exact False.elim P
    ·exact False.elim P
   |_=>exact False.elim P
  |_=>exact False.elim P
 |sub=>cases dx with
  |int i=>cases dy with
   |int j=>cases Y;cases U;exact zK pins s σ H _ _ _ _ Q I J B ⟨_,_,rfl,rfl,cg.same S P (.int _)⟩
   |_=>exact False.elim P
  |_=>exact False.elim P
 |mul=>cases dx with
  |int i=>cases dy with
   |int j=>
    simp only[cF,zS] at P;split at P
    ·rename_i Z;cases Y;cases U;exact wW pins s σ H _ _ _ _ Q I J B ⟨_,_,rfl,rfl,Z,P.same S (.int _)⟩
    ·exact False.elim P
   |_=>exact False.elim P
  |_=>exact False.elim P
 |fdiv=>cases dx with
  |int i=>cases dy with
   |int j=>
    simp only[cF,ii] at P;split at P
    ·rename_i Z;cases Y;cases U;exact uu pins s σ H _ _ _ _ Q I J B ⟨_,_,rfl,rfl,Z,P.same S (.int _)⟩
    ·exact False.elim P
   |_=>exact False.elim P
  |_=>exact False.elim P
 |mod=>cases dx with
  |int i=>cases dy with
   |int j=>
    simp only[cF,ii] at P;split at P
    ·rename_i Z;cases Y;cases U;exact wX pins s σ H _ _ _ _ Q I J B ⟨_,_,rfl,rfl,Z,P.same S (.int _)⟩
    ·exact False.elim P
   |_=>exact False.elim P
  |_=>exact False.elim P
 |pow=>cases dx with
  |int i=>cases dy with
   |int j=>
    simp only[cF,ii] at P;split at P
    ·rename_i Z;cases Y;cases U;exact zL pins s σ H _ _ _ _ Q I J B ⟨_,_,rfl,rfl,⟨Z.1,by omega,by omega⟩,P.same S (.int _)⟩
    ·exact False.elim P
   |_=>exact False.elim P
  |_=>exact False.elim P
open Classical in
noncomputable def sx(K:aD)(H:Hp)(ι:Nat->Addr)(st:aW)(x:D)(z:Value):Bool:=if h:∃d,At K H ι st.length d z then(cj 60 st h.choose x).getD false else false
theorem Av{pins:List (Addr×Obj)}{σ:L2.St}{s:Shared}(I:Inv X pins σ H s)(S:Sim X.K H ι st){u:Value}(h:At X.K H ι st.length y u):sx X.K H ι st x u=(cj 60 st y x).getD false:=by unfold sx;have h':∃d,At X.K H ι st.length d u:=⟨y,h⟩;rw[dif_pos h',h'.choose_spec.uniq I S h]
theorem kg{X:Cx}{pins:List (Addr×Obj)}{σ:L2.St}{H:Hp}{s:Shared}{ι:Nat->Addr}{st:aW}(I:Inv X pins σ H s)(S:Sim X.K H ι st){x:D}{ux:Value}{A:Around}(U:At X.K H ι st.length x ux)(B:A.units+60<cLine):
  ∀{ys:List D}{us:List Value}{k:Bool},eY st x ys=some k->vP X.K H ι st.length ys us->(∀u∈us,SeqAt.EqAt A s u ux (sx X.K H ι st x u))/\us.any (sx X.K H ι st x)=k
 |[],us,k,h,r=>by
  have l:=r.length;cases us with
  |cons _ _=>simp at l
  |nil=>exact⟨λu B=>(by cases B),ag h⟩
 |y::ys,us,k,h,r=>by
  have l:=r.length;cases us with
  |nil=>simp at l
  |cons u us=>
   obtain⟨_,Z,q1⟩:=r;cases q1 with
   |cons w1 w2=>
    cases Z with
    |cons m1 m2=>
     unfold eY at h;cases e1:cj 60 st y x with
     |none=>rw[e1] at h;simp at h
     |some a=>
      cases e2:eY st x ys with
      |none=>rw[e1,e2] at h;simp at h
      |some b=>
       rw[e1,e2] at h;obtain⟨he,hk⟩:=kg I S U B e2 ⟨_,m2,w2⟩;obtain⟨_,_,hE⟩:=mD I S 60 (A:=A) e1 ⟨_,m1,w1⟩ U B;have Y:sx X.K H ι st x u=a:=by rw[Av I S ⟨_,m1,w1⟩,e1];rfl
       refine⟨λz J=>?_,?_⟩
       ·rcases List.mem_cons.mp J with rfl|J
        ·rw[Y];exact hE
        ·exact he z J
       ·rw[List.any_cons,Y,hk];exact ag h
theorem DRels.look{K:aD}{k:Key}{kvs:List (Key×D)}{vs:List (Key×V)}(h:DRels K H ι m kvs vs):
  (match bB kvs k with|some d=>∃v,eh vs k=some v/\VRel K H ι m d v|none=>eh vs k=none):=by
 induction h with
 |nil=>exact sY
 | @cons k' d v ds vs hv t ih=>
  unfold bB;by_cases e:k'=k
  ·rw[if_pos e];exact⟨v,gG e,hv⟩
  ·rw[if_neg e,gH (p:=(k',v)) (r:=vs) e];exact ih
theorem eA{K:aD}{k:Key}(h:gS x=some k)(r:VRel K H ι m x v):v=kV k:=by cases r<;>cases h<;>rfl
theorem eE{K:aD}{k:Bool}(e:BU x y=some k)(U:VRel K H ι m x vx)(J:VRel K H ι m y vy)(B:RelV vx ux)(I:RelV vy uy):plainIs ux uy=true/\(ux==uy)=k:=by
 unfold BU at e;split at e
 ·cases J;cases I;have e:=ag e;subst e;cases U with
  |non=>cases B;exact⟨rfl,rfl⟩
  |bl b=>cases B;exact⟨rfl,rfl⟩
  |int i=>obtain⟨t,rfl⟩:=B;exact⟨rfl,rfl⟩
  |str i=>obtain⟨t,rfl⟩:=B;exact⟨rfl,rfl⟩
  |tup _ _=>cases B;exact⟨rfl,rfl⟩
  |fl _ _=>cases B;exact⟨rfl,rfl⟩
  |ref _=>cases B;exact⟨rfl,rfl⟩
 ·cases e
theorem vj{K:aD}{kvs:List (Key×D)}(S:Sim K H ι st)(e:c5 st y=some kvs)(B:VRel K H ι st.length y vy):∃n a vs,y=.ref n/\st[n]? =some (.dct kvs)/\a=ι n/\vy=.ref a/\H a=some (.dK vs)/\DRels K H ι st.length kvs vs:=by
 cases y with
 |ref n=>
  simp only[c5] at e;cases q:st[n]? with
  |none=>rw[q] at e;cases e
  |some o=>
   rw[q] at e;cases o with
   |dct kvs'=>cases e;cases B;obtain⟨vs,h1,r⟩:=S.ob _ _ q;exact⟨n,_,vs,rfl,q,rfl,rfl,h1,r⟩
   |_=>cases e
 |_=>cases e
theorem lm{K:aD}{k:Bool}(S:Sim K H ι st)(e:iE st x y=some k)(I:VRel K H ι st.length x vx)(B:VRel K H ι st.length y vy):∃a,vy=.ref a/\∃o,fW H a vx o/\o.isSome=k:=by
 unfold iE at e;split at e
 ·split at e
  ·rename_i kvs q;cases B;obtain⟨vs,h1,r⟩:=S.ob _ _ q;refine⟨_,rfl,?_⟩;split at e
   ·rename_i s U;have e:=ag e;subst e;have J:=eA U I;subst J;refine⟨_,fW.k (k:=s) h1,?_⟩;have l:=r.look (k:=s);cases q2:bB kvs s with
    |none=>rw[q2] at l;rw[show eh vs s=none from l];rfl
    |some d=>rw[q2] at l;obtain⟨v,l,_⟩:=l;rw[show eh vs s=some v from l];rfl
   ·cases e
  ·cases e
 ·cases e
theorem ik(hu:X.A.units+100<cLine)(op:CmpOp):kA X (compareOp op) (rD X.K (bK op)):=by
 intro pins s σ H vx vy ux uy Q I Z J h;obtain⟨ι,st,dx,dy,S,hx,U,P⟩:=h;have ax:At X.K H ι st.length dx ux:=⟨_,hx,Z⟩;have ay:At X.K H ι st.length dy uy:=⟨_,U,J⟩;unfold bK at P;split at P
 ·split at P
  ·rename_i k e;obtain⟨h1,_,_⟩:=mD I S 60 (A:=X.A) e ax ay (by omega)
   exact h1 _ _ _ _ ⟨.bl k,H,I,rfl,P.same S (.bl k)⟩
  ·exact False.elim P
 ·split at P
  ·rename_i k e;obtain⟨_,h1,_⟩:=mD I S 60 (A:=X.A) e ax ay (by omega)
   exact h1 _ _ _ _ ⟨.bl (!k),H,I,rfl,P.same S (.bl (!k))⟩
  ·exact False.elim P
 ·split at P
  ·cases hx;cases U;exact BI pins s σ H _ _ _ _ Q I Z J ⟨_,_,rfl,rfl,P.same S (.bl _)⟩
  ·exact False.elim P
 ·split at P
  ·cases hx;cases U;exact BJ pins s σ H _ _ _ _ Q I Z J ⟨_,_,rfl,rfl,P.same S (.bl _)⟩
  ·exact False.elim P
 ·split at P
  ·cases hx;cases U;exact BK pins s σ H _ _ _ _ Q I Z J ⟨_,_,rfl,rfl,P.same S (.bl _)⟩
  ·exact False.elim P
 ·split at P
  ·rename_i ys es;split at P
   ·rename_i k Y;obtain⟨a,vs,rfl,B,rv⟩:=U.seq S es;cases J;rcases B with B|B
    ·obtain⟨its,r',pl,hz⟩:=I.list B;obtain⟨hE,hk⟩:=kg I S (A:=X.A.in1) ax (by show X.A.units+1+60<cLine;omega) Y ⟨_,rv,r'⟩
     refine SeqAt.in_listAt _ pl.isList (λw hw=>hE w (by simpa using hw)) ⟨.bl _,H,I,rfl,?_⟩
     rw[show its.toArray.any (sx X.K H ι st dx)=its.any (sx X.K H ι st dx) by simp,hk]
     exact P.same S (.bl k)
    ·obtain⟨its,r',pl,hz⟩:=I.tuple B;obtain⟨hE,hk⟩:=kg I S (A:=X.A.in1) ax (by show X.A.units+1+60<cLine;omega) Y ⟨_,rv,r'⟩
     refine SeqAt.in_tupleAt _ pl (λw hw=>hE w (by simpa using hw)) ⟨.bl _,H,I,rfl,?_⟩
     rw[show its.toArray.any (sx X.K H ι st dx)=its.any (sx X.K H ι st dx) by simp,hk]
     exact P.same S (.bl k)
   ·exact False.elim P
  ·split at P
   ·rename_i k Y;obtain⟨a,rfl,o,g,ho⟩:=lm S Y hx U;cases J;exact Dy (by omega) I g Z λs' I'=>⟨.bl k,H,I',by rw[ho];rfl,P.same S (.bl k)⟩
   ·exact False.elim P
 ·split at P
  ·rename_i ys es;split at P
   ·rename_i k Y;obtain⟨a,vs,rfl,B,rv⟩:=U.seq S es;cases J;rcases B with B|B
    ·obtain⟨its,r',pl,hz⟩:=I.list B;obtain⟨hE,hk⟩:=kg I S (A:=X.A.in1) ax (by show X.A.units+1+60<cLine;omega) Y ⟨_,rv,r'⟩
     refine SeqAt.notIn_listAt _ pl.isList (λw hw=>hE w (by simpa using hw)) ⟨.bl _,H,I,rfl,?_⟩
     rw[show its.toArray.any (sx X.K H ι st dx)=its.any (sx X.K H ι st dx) by simp,hk]
     exact P.same S (.bl (!k))
    ·obtain⟨its,r',pl,hz⟩:=I.tuple B;obtain⟨hE,hk⟩:=kg I S (A:=X.A.in1) ax (by show X.A.units+1+60<cLine;omega) Y ⟨_,rv,r'⟩
     refine SeqAt.notIn_tupleAt _ pl (λw hw=>hE w (by simpa using hw)) ⟨.bl _,H,I,rfl,?_⟩
     rw[show its.toArray.any (sx X.K H ι st dx)=its.any (sx X.K H ι st dx) by simp,hk]
     exact P.same S (.bl (!k))
   ·exact False.elim P
  ·split at P
   ·rename_i k Y;obtain⟨a,rfl,o,g,ho⟩:=lm S Y hx U;cases J;exact xA (by omega) I g Z λs' I'=>⟨.bl (!k),H,I',by rw[ho];rfl,P.same S (.bl (!k))⟩
   ·exact False.elim P
 ·split at P
  ·rename_i k e;obtain⟨h1,h2⟩:=eE e hx U Z J;exact wpAny_is_plain h1 ⟨.bl k,H,I,by rw[h2];rfl,P.same S (.bl k)⟩
  ·exact False.elim P
 ·split at P
  ·rename_i k e;obtain⟨h1,h2⟩:=eE e hx U Z J;exact wpAny_isNot_plain h1 ⟨.bl (!k),H,I,by rw[h2];rfl,P.same S (.bl (!k))⟩
  ·exact False.elim P
 ·exact False.elim P
theorem qY{K:aD}{ds:List D}{i:Int}(r:VRels K H ι m ds vs)(e:lD ds i=some d):∃v,lD vs i=some v/\VRel K H ι m d v:=by
 unfold lD at e ⊢;rw[<-r.length];cases q:uG ds.length i with
 |none=>rw[q] at e;cases e
 |some j=>rw[q] at e;exact r.get e
theorem vf(hu:X.A.units+100<cLine){value slice:Expr}{pins:List (Addr×Obj)}{s:Shared}{σ:L2.St}{Q:VK}{dx:D}{k:Key}(I:L2.Inv X pins σ H s)(S:Sim X.K H ι st)(Y:VRel X.K H ι st.length dx vx)
  (U:RelV vx ux)(J:RelV (kV k) uy)(hs:subscripted slice false ux uy=operate [ux,uy] (getItem ux uy))(P:cg X.K H ι st (Cj st dx k) Q):wpAny (model X.prog X.w) X.A (subscriptTail value slice ux uy) (EP X pins σ Q) X.xe s:=by
 unfold Cj at P;split at P
 ·rename_i n;split at P
  ·rename_i kvs e1;split at P
   ·rename_i d ek;cases Y;cases U;obtain⟨vs,h1,r⟩:=S.ob _ _ e1;have l:=r.look (k:=k);rw[ek] at l;obtain⟨w,Z,B⟩:=l;have g:fW H (ι n) (kV k) (some w):=by rw[<-Z];exact fW.k (k:=k) h1
    exact tail_any (nW I g) PySem.F.slot_dict_getitem.lookup (sC (by omega) I g J λw' s' I' rw2=>⟨w,H,I',rw2,P.same S B⟩) hs
   ·exact False.elim P
  ·exact False.elim P
 ·exact False.elim P
theorem Do(hu:X.A.units+100<cLine):CG X (rD X.K index):=by
 intro value slice pins s σ H vx vy ux uy Q I Y U h hs;obtain⟨ι,st,dx,dy,S,hx,Z,P⟩:=h;have sz:sizeLine=16777216:=sizeLine_eq;unfold index at P;split at P
 ·split at P
  ·rename_i xs es;split at P
   ·rename_i d ed;cases Z;obtain⟨a,vs,rfl,J,rv⟩:=hx.seq S es;obtain⟨w,ew,B⟩:=qY rv ed;rcases J with J|J
    ·exact xh value slice pins s σ H _ _ _ _ Q I Y U ⟨_,_,_,_,rfl,rfl,J,ew,P.same S B⟩ hs
    ·exact z5 value slice pins s σ H _ _ _ _ Q I Y U ⟨_,_,_,_,rfl,rfl,J,ew,P.same S B⟩ hs
   ·exact False.elim P
  ·cases Z;exact vf (k:= .inl _) hu I S hx Y U hs P
 ·cases Z;exact vf (k:= .inr _) hu I S hx Y U hs P
 ·exact False.elim P
end Ev
namespace PySem
open Sem (wp)
open AutoSeq1 (wpAny_loadPart')
section
end
end PySem
namespace L2
open PySem PySem.Spec PyProof.Rows
end L2
namespace PySem
open Sem (wp)
open AutoSeq1 (wpAny_loadPart')
namespace F
theorem et:plainId "dict.update.loop"=true:=by decide+kernel
theorem j3:entryFor table "dict.update.loop"=some Builtin.«dict.update.loop»:=entryFor_of_fast (by kernel_rfl)
theorem kE:typeLookup (.type "list") "keys"=pure none:=by rw[typeLookup_type,builtinLookup_eq_fast];kernel_rfl
end F
section
variable{prog:Program}{w:World}{K:Type}[DecidableEq K]{kn:KeyKind prog w K}{A:Around}{E:Value->Shared->Prop}
def pJ(kn:KeyKind prog w K)(h:Heap)(items:Array Value)(ps:List (K×Value)):Prop:=
 items.size=ps.length/\∀(j:Nat)(x:K×Value),ps[j]? =some x->∃(t:Addr)(o:Obj)(n:Nat) (u:Value),items[j]? =some (.ref t)/\h.get? t=some o/\o.cls=.type "tuple" /\o.data=.seq #[u,x.2] n/\kn.is x.1 u=true
noncomputable def eX(ps acc:List (K×Value)):List (K×Value):=ps.foldl (λacc x=>stored acc x.1 x.2) acc
theorem lj:∀(ps acc:List (K×Value)),(eX ps acc).length<=acc.length+ps.length
 |[],acc=>by show acc.length<=_;omega
 |x::r,acc=>by
  have h1:=lj r (stored acc x.1 x.2);have B:(stored acc x.1 x.2).length<=acc.length+1:=by unfold stored;split<;>simp
  show(eX r (stored acc x.1 x.2)).length<=_;rw[List.length_cons];omega
theorem ph{ps acc:List (K×Value)}{x:K×Value}:eX (ps++[x]) acc=stored (eX ps acc) x.1 x.2:=by unfold eX;rw[List.foldl_append];rfl
theorem nz{R:Result->Shared->Prop}(hh:A.handled=none){h0:Heap}{d it l:Addr}(hd0:h0.get? d=none)(hi0:h0.get? it=none)(U:d≠it){items:Array Value}{ps:List (K×Value)}(hsz:items.size<=sizeLine)
  (hl:h0.IsList l items)(hp:pJ kn h0 items ps):∀(k i:Nat)(s:Shared),items.size - i=k->i<=items.size->s.heap.IsListIter it l i->(∀b o,h0.get? b=some o->s.heap.get? b=some o)->s.heap.DictOf kn d (eX (ps.take i) [])->
  (∀h' tk,h'.DictOf kn d (eX ps [])->(∀b o,h0.get? b=some o->h'.get? b=some o)->R (.ok (.ret .none)) {s with heap:=h',toks:=tk})->
  codeAny (model prog w) A (.builtin "dict.update.loop" ⟨[.ref d,.ref it,rawInt i,.none],[]⟩) R s:=by
 have nd:∀{b:Addr}{o:Obj},h0.get? b=some o->b≠d:=λe z=>by rw[z,hd0] at e;cases e
 have ni:∀{b:Addr}{o:Obj},h0.get? b=some o->b≠it:=λe z=>by rw[z,hi0] at e;cases e
 intro k
 induction k with
 |zero=>
  intro i s hk hi J kp hd hR;have hin:i=items.size:=by omega
  subst hin;refine codeAny_builtin F.j3 ?_;rw[Around.under_plainId F.et _];show wpAny _ A.in1 (pyNext (.ref it)>>=_) _ _ s;refine aa (wpAny_pyNext_list_end hh J (hl.at λo e=>kp _ _ e) (by simp) λh' eb=>?_)
  show wpAny _ _ (Builtin.Dict.addKeywords d []>>=_) _ _ _;refine aa (af (af ?_));rw[hp.1,List.take_length] at hd;exact hR h' s.toks (hd.at λo e=>eb d o U e) (λb o e=>eb b o (ni e) (kp b o e))
 |succ k ih=>
  intro i s hk hi J kp hd hR;have hlt:i<items.size:=by omega
  have Y:i<ps.length:=by rw[<-hp.1];exact hlt
  obtain⟨t,ot,nt,u,e1,e2,e3,e4,e5⟩:=hp.2 i ps[i] (by simp[Y])
  refine codeAny_builtin F.j3 ?_;rw[Around.under_plainId F.et _];show wpAny _ A.in1 (pyNext (.ref it)>>=_) _ _ s;refine aa (wpAny_pyNext_list_item J (hl.at λo e=>kp _ _ e) e1 λh1 Z I=>?_)
  replace I:Heap.SameBut it s.heap h1:=I
  have kp1:∀b o,h0.get? b=some o->h1.get? b=some o:=λb o e=>I.extBut b o (ni e) (kp b o e);have t1:h1.get? t=some ot:=kp1 t ot e2;refine aa (wpAny_holding (aa (wpAny_tryCatch ?_)));unfold Builtin.Dict.pairItems;refine aa (wpAny_typeOf (T:= "tuple") ⟨ot,t1,e3⟩ ?_);rw[if_pos (by decide)]
  refine aa (wpAny_seqItems t1 e4 (af ?_));show wpAny _ _ (holding [u,ps[i].2] (dictSet d u ps[i].2)) _ _ _;have hd1:h1.DictOf kn d (eX (ps.take i) []):=hd.at λo e=>I.extBut d o U e;have fl:=lj (ps.take i) ([]:List (K×Value))
  have hfl:(eX (ps.take i) []).length<=sizeLine:=by rw[List.length_take] at fl;simp at fl;omega
  refine wpAny_holding (wpAny_dictSet_pairs (s:={s with heap:=h1}) e5 hd1 (λh2 hd2 B=>?_) hfl)
  replace B:Heap.SameBut d h1 h2:=B
  refine af ⟨plainId_quiet F.et _,?_⟩;have c1:((i+1:Nat):Int)=(i:Int)+1:=by omega
  have ht:ps.take (i+1)=ps.take i++[ps[i]]:=by rw[List.take_succ,ae Y];rfl
  rw[<-ph,<-ht] at hd2;have:=λtk=>ih (i+1) {s with heap:=h2,toks:=tk} (by omega) (by omega) (Z.at λo q=>(B.2 it (Ne.symm U)).trans q) (λb o e=>(B.2 b (nd e)).trans (kp1 b o e)) hd2 hR
  rw[c1] at this;exact this _
theorem o4{s:Shared}{a:Addr}{xs:Array Value}{k:Nat}{Q:Option Value->Shared->Prop}(J:s.heap.get? a=some {cls:= .type "list",data:= .seq xs k})(Z:A.handled=none)
  (h:∀h' tk,(∀b o,s.heap.get? b=some o->h'.get? b=some o)->Q none {s with heap:=h',toks:=tk}):wpAny (model prog w) A (getAttr? (.ref a) "keys") Q E s:=by
 obtain⟨Y,g,d,tk,os⟩:=s;have U:∀B,(⟨Y,g,d,B,os⟩:Shared).TypeIs (.ref a) "list":=λ_=>⟨_,J,rfl⟩;have f1:=sub_AttributeError;have f3:=F.slot_list_getattribute.lookup;have f4:=F.slot_list_getattribute.bind (.ref a);have f5:=am_list_getattr_none;unfold getAttr? getAttrBy? getAttrBy
 repeat (any_goals (first|assumption|exact U _|((with_reducible show wpAny _ _ (call (Value.builtin "list.__getattribute__") _ _) _ _ _);refine call_meets F.slot_list_getattribute (U _) am_entry_list_getattribute (F.args_list_getattribute_2 _ _) (meets_getattribute_miss_list a xs k #[] "keys" _ F.kE (by decide+kernel) (by size_fits)) ⟨J,Z,λh' B e I=>?_⟩)|wp_step))
 obtain⟨t',u',he⟩:=I.there;show wpAny _ _ (getattributeRaised _ _ _ _ _ _ _) _ _ _;unfold getattributeRaised
 repeat (any_goals (first|assumption|wp_step))
 exact h _ _ I.keeps
theorem j7{s:Shared}{l:Addr}{items:Array Value}{c:Nat}{ps:List (K×Value)}{Q:Value->Shared->Prop}(hh:A.handled=none)(Z:s.heap.get? l=some {cls:= .type "list",data:= .seq items c})(hp:pJ kn s.heap items ps)(hsz:items.size<=sizeLine)
  (hQ:∀h' tk,h'.DictOf kn s.heap.objs.size (eX ps [])->(∀b o,s.heap.get? b=some o->h'.get? b=some o)->Q (.ref s.heap.objs.size) {s with heap:=h',toks:=tk}):wpAny (model prog w) A (call (.type "dict") [.ref l]) Q E s:=by
 refine callType_codes (Q₁:=λobj s₁=>obj=.ref s.heap.objs.size/\s₁={s with heap:=s.heap.push {cls:= .type "dict",data:= .dict #[]}}) F.kt_called_dict (F.kt_typeCall_dict_1 _) F.entry_dict_init (kt_code_dict_new _ ⟨rfl,rfl⟩) ?_;rintro obj s₁ ⟨rfl,rfl⟩;have B:(s.heap.push {cls:= .type "dict",data:= .dict #[]}).DictOf kn s.heap.objs.size []:=Heap.DictOf.new s.heap;have g0:(s.heap.push {cls:= .type "dict",data:= .dict #[]}).get? s.heap.objs.size=some {cls:= .type "dict",data:= .dict #[]}:=aw _ rfl;refine⟨B.typeIs,F.args_dict_init_2 _ _,?_⟩;unfold Builtin.«dict.__init__» Builtin.Dict.selfAndRest;refine aa (aa (wpAny_notOrdered_dict B.typeIs ?_));show wpAny _ _ (pure (s.heap.objs.size,[Value.ref l])) _ _ _;refine af ?_;show wpAny _ _ (Builtin.Dict.updateFrom "dict.__init__" s.heap.objs.size (.ref l) [] .none) _ _ _;unfold Builtin.Dict.updateFrom;have I:=ah {cls:= .type "dict",data:= .dict #[]} Z;refine aa (wpAny_typeOf (T:= "list") ⟨_,I,rfl⟩ ?_);rw[if_pos (by decide)]
 refine aa (o4 I hh λh1 tk1 J=>?_);simp only[Option.isNone_none,if_true];refine aa (wpAny_rule ?_);have U:h1.IsList l items:=⟨_,J _ _ I,rfl,_,rfl⟩;refine aa (wpAny_pyIter_list (s:={s with heap:=h1,toks:=tk1}) U ?_);refine af ⟨plainId_quiet F.et _,?_⟩;have lt1:s.heap.objs.size<h1.objs.size:=am (J _ _ g0);have Y:∀{a:Addr},s.heap.objs.size<=a->s.heap.get? a=none:=λh=>Heap.get?_none_of_le h
 refine nz (A:=A.in1) (kn:=kn) (h0:=s.heap) hh (Y (ac _)) (Y (Nat.le_of_lt lt1)) (aC lt1) hsz ⟨_,Z,rfl,_,rfl⟩ hp items.size 0 _ (by omega) (by omega) ⟨_,aw _ rfl,rfl,rfl⟩
  (λb o e=>ah _ (J b o (ah _ e))) (B.at λo e=>ah _ (J _ o e)) λh' tk a b=>⟨rfl,hQ h' tk a b⟩
end
end PySem
namespace L2
open PySem PySem.Spec PyProof.Rows
variable{h h':Heap}
noncomputable def DD(K:aD)(H:Hp):List (Key×V)->List V->Prop:=Paired λp y=>∃t,y=.ref t/\fV K H t [kV p.1,p.2]
def Ak(ps:List (Key×V)):List (Key×V):=ps.foldl (λacc p=>putK acc p.1 p.2) []
section
variable{X:Cx}{pins:List (Addr×Obj)}{s:Shared}{σ:St}{H:Hp}
theorem rS(I:Inv X pins σ H s){ps:List (Key×V)}{ys:List V}(r:DD X.K H ps ys):∀{us:List Value},bh ys us->∃B:List (Key×Value),pJ (bd X.prog X.w) s.heap us.toArray B/\KV ps B:=by
 induction r with
 |nil=>intro us q;cases q;exact⟨[],⟨rfl,λj x e=>by simp at e⟩,.nil⟩
 | @cons p y ps ys h1 t ih=>
  intro us q;cases q with
  | @cons _ u _ us' q1 q2=>
   obtain⟨B,⟨g1,g2⟩,g3⟩:=ih q2;obtain⟨ta,rfl,hq⟩:=h1;obtain rfl:u=Value.ref ta:=q1;obtain⟨its,rv,⟨o,k1,k2,n,k3⟩,_⟩:=I.tuple hq;cases rv with
   | @cons _ u1 _ its r1 rv=>
    cases rv with
    | @cons _ u2 _ its r2 rv=>
     cases rv;refine⟨(p.1,u2)::B,⟨by simpa using g1,λj x e=>?_⟩,.cons ⟨rfl,r2⟩ g3⟩
     cases j with
     |zero=>
      cases e;exact⟨ta,o,n,u1,by simp,k1,k2,k3,fZ r1⟩
     |succ j=>
      obtain⟨t',o',U,J,Z,Y⟩:=g2 j x (by simpa using e)
      exact⟨t',o',U,J,by simpa using Z,Y⟩
theorem xf{ps:List (Key×V)}{B:List (Key×Value)}(r:KV ps B):∀{acc:List (Key×V)}{xs:List (Key×Value)},KV acc xs->KV (ps.foldl (λacc p=>putK acc p.1 p.2) acc) (eX B xs):=by
 induction r with
 |nil=>intro acc xs q;exact q
 | @cons p q ps qs h t ih=>intro acc xs z;show KV (ps.foldl _ (putK acc p.1 p.2)) (eX qs (stored xs q.1 q.2));have:=z.put p.1 h.2;rw[h.1] at this ⊢;exact ih this
theorem jY:∀(ps acc:List (Key×V)),(ps.foldl (λacc p=>putK acc p.1 p.2) acc).length<=acc.length+ps.length
 |[],acc=>by simp
 |p::r,acc=>by have h1:=jY r (putK acc p.1 p.2);have B:=cW acc p.1 p.2;rw[List.foldl_cons,List.length_cons];omega
theorem pE(hc:X.calm=true):fP X (.type "dict") (λxs H Q=>∃l ys ps,xs=[.ref l]/\H l=some (.lst ys)/\DD X.K H ps ys/\∀p,H p=none->Q (.ref p) (upd H p (.dK (Ak ps)))):=by
 intro pins s σ H xs us Q I r h;obtain⟨l,ys,ps,rfl,e,J,q⟩:=h;obtain⟨u,rfl,Z⟩:=vals1 r;cases Z;obtain⟨z,its,m,B,U,el⟩:=I.lstM e;obtain⟨Y,h1,h2⟩:=rS I J B;have lp:=Paired.length J;have lr:=Paired.length B;refine j7 (I.ok.hd hc) el h1 (by rw[List.size_toArray];omega) λh' tk dr kp=>?_
 have fr:H s.heap.objs.size=none:=I.hok.fresh (ac _);have:=jY ps [];refine⟨.ref s.heap.objs.size,_,I.laid (t':=tk) kp (ac _) (j6 (by simp at this;omega) (beq_eq_false_iff_ne.mpr (bq I.big)) (xf h2 .nil) dr),rfl,q _ fr⟩
end
section
variable{X:Cx}{pins:List (Addr×Obj)}{σ:St}{H H':Hp}{s:Shared}{h':Heap}
theorem Inv.grown{t':Nat}(I:Inv X pins σ H s)(k:∀b u,s.heap.get? b=some u->h'.get? b=some u)(B:∀b u,H b=some u->H' b=some u)(U:∀b o,s.heap.get? b=some o->H b=none->H' b=none)
  (J:∀b u,H' b=some u->H b=none->bT X.prog X.w H' h' b u):Inv X pins σ H' {s with heap:=h',toks:=t'}:=by
 refine I.un ⟨λb o q _ _ _=>k b o q,λb o q _ _ _=>⟨o.slots,k b o q⟩,λb o q n _=>U b o q n,λb o q _=>⟨o,k b o q⟩,λb xs q=>B b _ q,λb o u q=>B b _ q,λb ps q=>⟨#[],by rw[B b _ q];simp⟩⟩ λb u e=>?_
 cases q:H b with
 |none=>exact J b u e q
 |some u'=>
  have:u'=u:=by have:=B b u' q;rw[e] at this;exact(ag this).symm
  subst this;exact(I.hok b u' q).stay (λc v _ z=>k c v z) (λc z=>B c _ z) λc xs z=>B c _ z
end
theorem bT.here{P:Program}{w:World}{H:Hp}{a:Addr}:∀{o:HO},bT P w H h a o->∃u,h.get? a=some u
 | .lst _,x=>by obtain⟨_,_,_,_,e⟩:=x;exact⟨_,e⟩
 | .tup _,x=>by obtain⟨_,_,_,u,e,_⟩:=x;exact⟨u,e⟩
 | .dK _,x=>by obtain⟨_,_,_,_,u,_,_,e,_⟩:=x;exact⟨u,e⟩
 | .dT _,x=>by obtain⟨_,_,_,_,u,_,_,e,_⟩:=x;exact⟨u,e⟩
 | .set _ _,x=>by obtain⟨u,_,_,_,e,_⟩:=x;exact⟨u,e⟩
 | .ins _ _ _,x=>by obtain⟨_,_,_,e,_⟩:=x;exact⟨_,e⟩
 | .own _,x=>x
 | .xd _,x=>by obtain⟨_,⟨u,_,_,e,_⟩,_⟩:=x;exact⟨u,e⟩
 | .rng _ _,x=>by obtain⟨_,_,_,e⟩:=x;exact⟨_,e⟩
 | .frz _ _,x=>⟨_,x.1⟩
 | .tbl _,x=>⟨_,x⟩
 | .met _ _,x=>⟨_,x⟩
 | .ext _,x=>x.2.1
open PySem PySem.Spec PyProof.Rows Tab23
section
variable{X:Cx}
theorem fT{pins:List (Addr×Obj)}{σ:St}{H:Hp}{s:Shared}{tk:Nat}{D:Addr}{out:Array Value}{c:Nat}{ns:List Int}{Q:VK}(I:Inv X pins σ H s)(k:∀b u,s.heap.get? b=some u->h'.get? b=some u)(J:s.heap.get? D=none)
  (U:h'.get? D=some (seqObj "list" out c)) (hi:IntsAre out.toList ns)(Y:ns.length<64)(q:∀l,H l=none->Q (.ref l) (upd H l (.lst (ns.map V.int)))):EP X pins σ Q (.ref D) {s with heap:=h',toks:=tk}:=by
 have B:H D=none:=by
  cases q:H D with
  |none=>rfl
  |some u=>obtain⟨o,ho⟩:=(I.hok D u q).here;rw[J] at ho;cases ho
 refine⟨.ref D,_,I.grown (H':=upd H D (.lst (ns.map V.int))) (t':=tk) k (λb u e=>?_) (λb o e n=>?_) (λb u e n=>?_),rfl,q D B⟩
 ·rw[aG (λz=>by subst z;rw[B] at e;cases e)];exact e
 ·rw[aG (λz=>by subst z;rw[J] at e;cases e)];exact n
 ·by_cases hb:b=D
  ·subst hb;rw[bf] at e;cases e;exact⟨by rw[List.length_map,sizeLine_eq];omega,out.toList,c,h_ hi,by rw[Array.toArray_toList];exact U⟩
  ·rw[aG hb,n] at e;cases e
theorem mH:fP X (.builtin "sorted") (λxs H Q=>∃p ns,xs=[.ref p]/\c8 X.K H p (ns.map V.int)/\ns.length<64/\∀l,H l=none->Q (.ref l) (upd H l (.lst ((cJ ns).map V.int)))):=by
 intro pins s σ H xs us Q I r h;obtain⟨p,ns,rfl,hq,hz,q⟩:=h;obtain⟨u,rfl,J⟩:=vals1 r;cases J;obtain⟨its,U,Y,_⟩:=I.list hq;have hi:=intsAre_of U;have hl:=hi.length;refine sorted_ints Y.isList hi (by omega) λout Z a1 B a3=>?_
 obtain⟨c,hc⟩:=sortedAll_at s.heap its out;rw[<-lT B a3] at q;exact fT (tk:=s.toks) I (λb o e=>sortedAll_old e) (Heap.get?_none_of_le (Nat.le_succ _)) hc a1 (by rw[B.length_eq];exact hz) q
def Dh(K:aD)(x:V)(H:Hp)(Q:VK):Prop:=∃p ns,x=.ref p/\(c8 K H p (ns.map V.int)∨fV K H p (ns.map V.int))/\ns.length<=2/\(∀n∈ns,0<=n/\n<10)/\∀l,H l=none->Q (.ref l) (upd H l (.lst ((ie ns).map V.int)))
def A5(K:aD)(te:TE):TE:=λσ H Q=>te σ H λx H1=>Dh K x H1 Q
theorem wP{e:Expr}{te:TE}{p1 p2 q1 q2:Pos}(hc:X.calm=true)(hg:Gl X "sorted")(hm:X.mg "sorted"=none)(hg2:Gl X "set")(hm2:X.mg "set"=none)(he:PE X e te)(B:starEach [e] X.env=[(false,eval e X.env)]):
  PE X (.Call (.Name "sorted" p1) [.Call (.Name "set" p2) [e] [] q2] [] q1) (A5 X.K te):=by
 intro pins s σ H Q I h;refine wpAny_Call_Name_kw (ez I hg hm boot_sorted (PyProof.Rows.callWith_builtin1 ?_ rfl rfl));show wpAny _ _ (spliced ((false,eval (.Call (.Name "set" p2) [e] [] q2) X.env)::backTo q1 (starEach [] X.env))) _ _ s;refine Calls.spliced_cons (wpAny_Call_Name_kw (ez I hg2 hm2 boot_set (a_ ?_ B rfl)));rw[B];refine Calls.spliced_cons (bL (he pins s σ H _ I h) λv U hp=>?_);obtain⟨x,H1,I1,r1,p,ns,ex,J,h2,hb,q⟩:=hp;subst ex;cases r1;refine Calls.spliced_nil ?_;obtain⟨hs,t,a1,a2,a3,a4,a5,hsz⟩:=BM (!X.w.params.followText "set-order") h2 hb;have hh:=I.ok.hd hc;have hsl:hs.length=(ie ns).length:=by rw[<-a4,(cm hs).length_eq]
 have go:∀{T:String}{OK:Heap->Prop},SqN X.prog X.w T p ns OK->OK U.heap->wpAny (model X.prog X.w) X.A (call (.type "set") [.ref p]) (λv s2=>wpAny (model X.prog X.w) X.A (spliced (backTo q1 (starEach [] X.env))) (λvs s3=>wpAny (model X.prog X.w) X.A (call (.builtin "sorted") (v::vs)) (EP X pins σ Q) X.xe s3) X.xe s2) X.xe U:=λK ok=>by
  refine pC K hh ok a5 (by omega) a1 λh' tk R k=>Calls.spliced_nil ?_
  refine PySem.W.oJ hh R (by omega) (λz=>by rw[a3,z];rfl) a2 λh2 tk2 D out c k2 hD hc2 hi=>?_
  rw[a4] at hi;show EP X pins σ Q (.ref D) {U with heap:=h2,toks:=tk2};refine fT (tk:=tk2) I1 (λb u e=>k2 b u (k b u e)) ?_ hc2 hi (by omega) q
  cases z:U.heap.get? D with
  |none=>rfl
  |some o=>exact nomatch (show h'.get? D=none from hD).symm.trans (k D o z)
 rcases J with J|J
 ·obtain⟨its,Y,Z,_⟩:=I1.list J;exact go (tL (intsAre_of Y)) Z.isList
 ·obtain⟨its,Y,Z,_⟩:=I1.tuple J;exact go (rq (intsAre_of Y)) Z
end
theorem Inv.turnLaid{X:Cx}{pins:List (Addr×Obj)}{σ:St}{H:Hp}{s:Shared}{t':Nat}{fp:List Addr}{p:Addr}{xs:List V}(I:Inv X pins σ H s)(hf:∀b∈fp,iJ X pins H b)
  (k:∀b o,b∉fp->s.heap.get? b=some o->h'.get? b=some o)(hp:s.heap.objs.size<=p)(new:bT X.prog X.w (upd H p (.tup xs)) h' p (.tup xs)):Inv X pins σ (upd H p (.tup xs)) {s with heap:=h',toks:=t'}:=by
 have U:H p=none:=I.hok.fresh hp;have J:∀b u,H b=some u->b∉fp:=λb u e z=>by rw[(hf b z).1] at e;cases e
 have Z:∀{b:Addr}{o:Obj},s.heap.get? b=some o->b≠p:=λe=>aC (aA (am e) hp)
 refine I.step (g':=s.gens) (d':=s.drawn) (ch:=fp) (λb Y=>?_) (λb o _ _ B e _=>k b o B e) (λb o _ _ B e _=>⟨o.slots,k b o B e⟩) (λb o _ e n=>by rw[aG (Z e)];exact n)
  (λb o B e=>⟨o,k b o B e⟩) (λb ys e=>by rw[aG (aH e U)];exact e) (λb o u e=>by rw[aG (aH e U)];exact e) (λb ps e=>⟨#[],by rw[aG (aH e U),e];simp⟩) (λm hm=>?_) (λb u e=>?_) I.bare
 ·obtain⟨f0,f1,f2,f3,f4,f5⟩:=hf b Y;exact⟨f3,f1,f4,f5⟩
 ·obtain⟨o,es,ep,ho,r⟩:=hm;exact⟨o,es,ep,k _ o (λz=>(hf _ z).2.1 rfl) ho,r⟩
 ·by_cases Y:b=p
  ·subst Y;rw[bf] at e;cases e;exact new
  ·rw[aG Y] at e;refine(I.hok b u e).stay (λc v B q=>k c v ?_ q) (λc q=>by rw[aG (aH q U)];exact q) λc ys q=>by rw[aG (aH q U)];exact q
   rcases B with z|z
   ·rw[z];exact J b u e
   ·exact J c _ z
def DH(K:aD)(a:Addr):It:=
 ⟨λi H=>∃xs x,c8 K H a xs/\xs[i]? =some x,
  λi H v H'=>∃p x,v=.ref p/\H p=none/\H'=upd H p (.tup [.int (i:Int),x])/\∀xs,c8 K H a xs->xs[i]? =some x,
  λi H=>∃xs,c8 K H a xs/\xs.length<=i⟩
noncomputable def Dt(e it a:Addr)(i:Nat)(h:Heap):Prop:=(∃old,IsEnum h e it (i:Int) old)/\h.IsListIter it a i
theorem rg{P:Program}{w:World}{K:aD}{elts:List Expr}{k:Nat}{pos:Pos}(a e it:Addr)(Z:e≠it):Turn P w K (.Tuple elts k pos) (DH K a) [e,it] e (Dt e it a) where
 mem:=by simp
 obj:=λi h st b B=>by
  obtain⟨⟨old,Y⟩,o,ho,c,d⟩:=st;rcases List.mem_cons.mp B with rfl|B
  ·exact⟨_,Y,λv z=>by have z':Data.fields _=Data.cell v:=z;cases z'⟩
  ·have:b=it:=by simpa using B
   subst this;exact⟨o,ho,λv z=>by rw[d] at z;cases z⟩
 keep:=λi h h' ⟨⟨old,Y⟩,st⟩ kk=>⟨⟨old,kk e (by simp) _ Y⟩,st.at λo q=>kk it (by simp) o q⟩
 item:=by
  intro X hP hw hK hc i pins s σ H E I hf st hg;subst hP hw hK;obtain⟨⟨old,Y⟩,U⟩:=st;obtain⟨xs,x,hq,hx⟩:=hg;obtain⟨its,rv,p,hz⟩:=I.list hq;obtain⟨u,hu,ru⟩:=rv.get hx;refine wpAny_pyNext_enum_item Y U p.isList (x:=u) (by simpa using hu) Z λh1 heo hit1 ht1 hz1 hk1=>?_
  refine⟨_,rfl,wpAny_letOwnedTupleGo_enum heo λh2 he2 J=>?_⟩
  replace J:Heap.SameBut e h1 h2:=J
  have lt:=am Y;have ht2:h2.get? s.heap.objs.size=some {cls:= .type "tuple",data:= .seq #[.int i s.toks,u]}:=(J.2 _ (bq lt)).trans ht1;have hn:H s.heap.objs.size=none:=I.hok.fresh (ac _)
  have I2:Inv X pins σ (upd H s.heap.objs.size (.tup [.int (i:Int),x])) {s with heap:=h2,toks:=s.toks+1}:=by
   refine I.turnLaid (fp:=[e,it]) hf (λb o B q=>?_) (ac _) ⟨(by show 2<=sizeLine;decide),[.int i s.toks,u],.cons ⟨_,rfl⟩ (.cons ru .nil),?_⟩
   ·have hbe:b≠e:=λz=>B (by simp[z])
    have hbi:b≠it:=λz=>B (by simp[z])
    exact(J.2 b hbe).trans (hk1 b o hbe hbi q)
   ·exact⟨_,ht2,⟨rfl,rfl⟩,_,rfl⟩
  refine⟨.ref s.heap.objs.size,_,I2,rfl,⟨_,x,rfl,hn,rfl,λys hy=>by rw[I.list_inj hy hq];exact hx⟩,⟨⟨u,?_⟩,?_⟩,λb B=>?_⟩
  ·have:((i+1:Nat):Int)=(i:Int)+1:=by omega
   rw[this];exact he2
  ·exact hit1.at λo q=>(J.2 it (Ne.symm Z)).trans q
  ·obtain⟨f0,_⟩:=hf b B
   have:b≠s.heap.objs.size:=by
    rcases List.mem_cons.mp B with rfl|B
    ·exact aC lt
    ·have:b=it:=by simpa using B
     subst this;obtain⟨o,ho,_⟩:=U;exact aC (am ho)
   rw[aG this];exact f0
 done:=by
  intro X hP hw hK hc i pins s σ H E I hf st hg;subst hP hw hK;obtain⟨⟨old,Y⟩,U⟩:=st;obtain⟨xs,hq,hx⟩:=hg;obtain⟨its,rv,p,hz⟩:=I.list hq;obtain⟨f0,f1,f2,f3,f4,f5⟩:=hf it (by simp)
  have hl:=rv.length;exact wpAny_pyNext_enum_end (I.ok.hd hc) Y U p.isList (by simp;omega) λh' eb=>⟨rfl,I.turned (t':=s.toks) (λb o B e=>eb b o B e) f0 f1 f3 f4 f5⟩
 self:=λ_ _ _ _ _ st h=>wpAny_pyIter_enum st.1.choose_spec h
def yh(K:aD)(tl:TA):TI:=λσ H R=>tl σ H λvs H1=>∃a,vs=[.ref a]/\(∃xs,c8 K H1 a xs)/\R (DH K a) H1
theorem qi{X:Cx}{elts:List Expr}{k:Nat}{tp:Pos}{a:Expr}{ta:TA}{p pos:Pos}(hg:Gl X "enumerate")(hm:X.mg "enumerate"=none)(ha:PA X [a] ta)(hs:starEach [a] X.env=[(false,eval a X.env)]):
  PI X (.Tuple elts k tp) (.Call (.Name "enumerate" p) [a] [] pos) (yh X.K ta):=by
 intro pins s σ H R I h;refine Call_ (ez I hg hm boot_enumerate (a_ (bL (ha pos pins s σ H _ I h) λus B ⟨vs,H1,I1,r1,q1⟩=>?_) hs rfl));obtain⟨a,e,⟨xs,hq⟩,q⟩:=q1;subst e;cases r1 with
 |cons r rr=>
  cases rr;cases r;obtain⟨its,rv,pl,hz⟩:=I1.list hq;refine call_enumerate_list pl.isList λh' Z U hsz hk=>?_;refine wpAny_pyIter_enum Z ?_;refine⟨_,[B.heap.objs.size+1,B.heap.objs.size],_,_,H1,rfl,I1.kept (t':=B.toks) hk,rg a _ _ (bq (aO _)),⟨⟨_,Z⟩,U⟩,λb Y=>?_,q⟩
  have J:B.heap.objs.size<=b:=by
   rcases List.mem_cons.mp Y with rfl|Y
   ·exact Nat.le_succ _
   ·have:b=B.heap.objs.size:=by simpa using Y
    rw[this];exact ac _
  exact I1.fpOk J (I1.hok.fresh J)
section
variable{X:Cx}{pins:List (Addr×Obj)}{σ:St}{H:Hp}{s:Shared}{a:Addr}{o:Obj}{kvs:List (Key×V)}
theorem Inv.swapD{u B:HO}(I:Inv X pins σ H s)(e:H a=some u)(U:∀xs,u≠ .tup xs)(no:∀x,u≠ .own x)(Z:∀ps,u≠ .tbl ps)(nf:∀o w,X.H₀ a≠some (.frz o w))(new:bT X.prog X.w (upd H a B) s.heap a B):Inv X pins σ (upd H a B) s:=by
 have na:∀{b:Addr},H b=none->b≠a:=λq z=>by rw[z,e] at q;cases q
 refine⟨I.ok,I.os,I.bare,⟨I.base.keep,I.base.slot,λb J q n hx=>?_,I.base.there,λb xs q=>?_,λb J w q=>?_,λb ps q=>?_⟩,I.loc,I.cell,?_,λx c q=>?_,λp hp=>?_,λb w q=>?_,I.len⟩
 ·have z:=I.base.free b J q n hx;rw[aG (na z)];exact z
 ·have z:=I.base.tups b xs q;rw[aG (b7 z e λy=>U _ y.symm)];exact z
 ·have z:=I.base.frzs b J w q;refine(aG λy=>?_).trans z;rw[y] at q;exact nf _ _ q
 ·obtain⟨m,z⟩:=I.base.tbls b ps q;exact⟨m,by rw[aG (b7 z e λy=>Z _ y.symm)];exact z⟩
 ·rw[aG (na I.free)];exact I.free
 ·rw[aG (na (I.freeC x c q))];exact I.freeC x c q
 ·obtain⟨h1,Y,h3⟩:=I.pin p hp;exact⟨h1,by rw[aG (na Y)];exact Y,h3⟩
 ·by_cases hb:b=a
  ·subst hb;rw[bf] at q;cases q;exact new
  ·rw[aG hb] at q;exact(I.hok b w q).stay (λ_ _ _ z=>z) (λc z=>by rw[aG (b7 z e λy=>no _ y.symm)];exact z) λc xs z=>by rw[aG (b7 z e λy=>U _ y.symm)];exact z
theorem Inv.freezeD(I:Inv X pins σ H s)(e:H a=some (.dK kvs))(ho:s.heap.get? a=some o):Inv X pins σ (upd H a (.frz o (.dK kvs))) s:=
 I.swapD e (λ_ z=>nomatch z) (λ_ z=>nomatch z) (λ_ z=>nomatch z) (λo' w z=>by rw[I.base.frzs _ _ _ z] at e;cases e) ⟨ho,I.hok a _ e⟩
theorem Inv.thawD(I:Inv X pins σ H s)(e:H a=some (.frz o (.dK kvs)))(B:∀o w,X.H₀ a≠some (.frz o w)):Inv X pins σ (upd H a (.dK kvs)) s:=
 I.swapD e (λ_ z=>nomatch z) (λ_ z=>nomatch z) (λ_ z=>nomatch z) B (show bT _ _ H s.heap a (.frz o (.dK kvs)) from I.hok a _ e).2
theorem Inv.nofrzD(I:Inv X pins σ H s)(e:H a=some (.dK kvs)):∀o' w,X.H₀ a≠some (.frz o' w):=λo' w z=>by rw[I.base.frzs _ _ _ z] at e;cases e
end
def xJ(X:Cx)(Q:Hp->Prop)(H:Hp):Prop:=∃a o kvs,H a=some (.frz o (.dK kvs))/\(∀o w,X.H₀ a≠some (.frz o w))/\Q (upd H a (.dK kvs))
theorem pq{P:Program}{w:World}{H:Hp}{a:Addr}{kvs:List (Key×V)}(x:bT P w H h a (.dK kvs)):∃o es ep vs,h.get? a=some o/\o.ExactDict/\o.data=.dict es ep/\KV kvs vs/\Pairs (bd P w) es.toList vs/\es.size=kvs.length/\(a==sysModules)=false:=by
 obtain⟨z,y,vs,r,o,es,ep,h1,J,I,Y,B,U⟩:=x;exact⟨o,es,ep,vs,h1,J,I,r,B,by rw[<-Array.length_toList,B.length,<-r.length],y⟩
end L2
namespace PySem.W
open PySem PySem.Calls PyProof.Rows Tab23
section
variable{prog:Program}{w:World}{A:Around}{E:Value->Shared->Prop}{s:Shared}
theorem sf{κ:Type}{ns:List Int}{acc:List Value}(B:acc.length=ns.length)(h:∀(j:Nat)(v:Value) (n:Int),acc[j]? =some v->ns[j]? =some n->∃t:Tok,v=.int n t):IntsAre acc ns:=by
 induction acc generalizing ns with
 |nil=>
  cases ns with
  |nil=>exact .nil
  |cons n ns=>simp at B
 |cons v acc ih=>
  cases ns with
  |nil=>simp at B
  |cons n ns=>
   obtain⟨t,rfl⟩:=h 0 v n rfl rfl;exact .cons _ _ (ih (by simpa using B) λj v n a b=>h (j+1) v n a b)
theorem m_{K:Type}[DecidableEq K]{knd:KeyKind prog w K}{a:Addr}{kvs:List (K×Value)}{ep:Nat}{ns:List Int}{Q:Value->Shared->Prop}(hh:A.handled=none)(lo:(a==sysModules)=false)(x:s.heap.DictAt knd a kvs ep)(hz:kvs.length<64)(I:ns.length=kvs.length)
  (Z:∀(j:Nat)(k:K)(y key:Value)(n:Int),kvs[j]? =some (k,y)->knd.is k key=true->ns[j]? =some n->∃t:Tok,key=.int n t)
  (h:∀(h':Heap)(tk:Nat)(D:Addr)(out:Array Value)(c:Nat),(∀b o,s.heap.get? b=some o->h'.get? b=some o)->s.heap.get? D=none->h'.get? D=some (seqObj "list" out c)->IntsAre out.toList (cJ ns)->Q (.ref D) {s with heap:=h',toks:=tk}):
  wpAny (model prog w) A (call (.builtin "sorted") [.ref a]) Q E s:=by
 refine call_function_entry kind_sorted plain_sorted entry_sorted (args_sorted1 _) ?_;unfold Builtin.«sorted»;refine aa (m:=checkCount "sorted" 1 1 _) (af (aa (kdu_collect (A:=A.in1) (kdl_dict (knd:=knd) (kvs:=kvs) (ep:=ep) lo) hh x (by rw[sizeLine_eq];omega) λh' tk acc J B=>?_)))
 have hI:IntsAre acc.toList ns:=sf (κ:=K) (by rw[Array.length_toList,B.1,I]) λj v n e1 e2=>by
  obtain⟨k,y,e3,e4⟩:=B.2 j v (by rw[<-Array.getElem?_toList];exact e1)
  exact Z j k y v n e3 e4 e2
 have Y:acc.toList.length<64:=by rw[Array.length_toList,B.1];omega
 refine aa (wpAny_newList ?_ (by rw[sizeLine_eq];omega))
 have ho:(h'.push (seqObj "list" acc.toList.toArray 0)).get? h'.objs.size=some (seqObj "list" acc.toList.toArray 0):=aw _ rfl;refine aa (wpAny_holding (wpAny_call_entry slot_list_sort ⟨_,ho,rfl⟩ entry_list_sort (list_sort_tree ho hI Y λout U a1 a2 a3=>⟨_,rfl,?_⟩) (args_list_sort _)));obtain⟨c,hc⟩:=sortedHeap_at (out:=out) ho
 have hb:s.heap.get? h'.objs.size=none:=by
  cases e:s.heap.get? h'.objs.size with
  |none=>rfl
  |some o=>exact absurd (am (J _ _ e)) (a9 _)
 refine af ⟨_,rfl,h _ tk h'.objs.size out c (λb o q=>?_) hb hc (by rw[<-lT a2 a3];exact a1)⟩
 have q2:=J b o q;rw[sortedHeap_old (aC (am q2)) (by rw[Heap.size_push];exact Nat.lt_succ_of_lt (am q2))]
 exact ah _ q2
end
end PySem.W
namespace L2
open PySem PySem.Spec PyProof.Rows Tab23
theorem mI{X:Cx}(hc:X.calm=true):fP X (.builtin "sorted") (λxs H Q=>∃p kvs ns,xs=[.ref p]/\H p=some (.dK kvs)/\kvs.map (·.1)=ns.map (Sum.inl:Int->Key)/\kvs.length<64/\∀l,H l=none->Q (.ref l) (upd H l (.lst ((cJ ns).map V.int)))):=by
 intro pins s σ H xs us Q I r h;obtain⟨p,kvs,ns,rfl,hd,U,hz,q⟩:=h;obtain⟨u,rfl,Z⟩:=vals1 r;cases Z;obtain⟨z,hs,vs,rel,dd⟩:=j5 I.hok hd;obtain⟨ob,es,ep0,vs0,g1,g2,g3,g4,g5,g6,lo⟩:=pq (I.hok p _ hd);obtain⟨ep,J⟩:=dd.dictAt;have lv:=rel.length;have ln:ns.length=vs.length:=by have:=congrArg List.length U;simp at this;omega
 have kn:vs.map (·.1)=ns.map (Sum.inl:Int->Key):=by rw[<-rel.keys];exact U
 refine PySem.W.m_ (ns:=ns) (I.ok.hd hc) lo J (by omega) ln (λj k y key n e1 e2 e3=>?_) λh' tk D out c kk hD B hi=>fT (tk:=tk) I kk hD B hi (by rw[(cm ns).length_eq];omega) q
 have Y:(vs.map (·.1))[j]? =some k:=by rw[aq,e1];rfl
 rw[kn,aq,e3] at Y;cases Y;rcases bC (show gR (.inl n) key=true from e2) with⟨i,t,e,rfl⟩|⟨y,t,e,_⟩
 ·cases e;exact⟨t,rfl⟩
 ·cases e
end L2
namespace Ev
open PySem PySem.Spec PyProof.Rows L2
variable{m:Nat}{ι ι1:Nat->Addr}{H:Hp}{vs:List (Key×V)}{kvs:List (Key×D)}{d:D}{Q:VK}{st st0 st1:aW}{a e o:Expr}{α:Type}
theorem qS{K:aD}{ds:List D}{vs:List V}(r:VRels K H ι m ds vs)(lo hi:Option Int):VRels K H ι m (cutD ds lo hi) (nX vs lo hi):=by unfold cutD nX;rw[<-r.length];exact(r.drop _).take _
theorem C_{X:Cx}:CC X (λvx lo hi H Q=>∃ι st dx,Sim X.K H ι st/\VRel X.K H ι st.length dx vx/\cg X.K H ι st (slice dx lo hi st) Q):=by
 intro pins s σ H x v vl vu lo hi sl Q I U hs Z Y h;obtain⟨ι,st,dx,S,J,P⟩:=h;have sz:sizeLine=16777216:=sizeLine_eq;unfold slice at P;split at P
 ·split at P
  ·exact False.elim P
  ·rename_i hw;cases J with
   |tup ha ra=>
    exact yO pins s σ H _ v vl vu lo hi sl Q I U hs Z Y ⟨_,_,rfl,ha,by rw[<-ra.length];exact hw,P.tup S (qS ra lo hi)⟩
 ·split at P
  ·rename_i xs es;obtain⟨a,vs,rfl,B,rv⟩:=J.seq S es;rcases B with B|B
   ·exact wg pins s σ H _ v vl vu lo hi sl Q I U hs Z Y ⟨_,_,rfl,B,P.alloc S (qS rv lo hi)⟩
   ·exfalso;cases J with
    |tup _ _=>exact(‹∀bs:List D,¬D.tup _=D.tup bs› _) rfl
    |fl h _=>exact oP I B h.sql
    |ref h=>
     obtain⟨u,e',n1,n2⟩:=S.obj h;rcases lN I B with⟨_,e⟩|⟨_,_,hk,e⟩|e<;>rw[e] at e'<;>first|(cases e';done)|(cases e';exact absurd rfl (n1 _))|(cases e';exact absurd rfl (n2 _ _ hk))
  ·exact False.elim P
def rB(K:aD)(f:Bt):List V->Hp->VK->Prop:=λvs H Q=>∃ι st ds,Sim K H ι st/\VRels K H ι st.length ds vs/\cg K H ι st (dD f ds st) Q
noncomputable def Bt.val:Bt->Value
 | .len=>.builtin "len"
 | .list=>.type "list"
 | .tuple=>.type "tuple"
 | .dict=>.type "dict"
 | .sorted=>.builtin "sorted"
theorem DRels.anyK{K:aD}{k:Key}(h:DRels K H ι m kvs vs):(kvs.any λkv=>decide (kv.1=k))=vs.any λkv=>decide (kv.1=k):=by
 induction h with
 |nil=>rfl
 |cons h t ih=>rw[List.any_cons,List.any_cons,ih]
theorem DRels.repl{K:aD}{k:Key}{v:V}(h:DRels K H ι m kvs vs)(q:VRel K H ι m d v):DRels K H ι m (kvs.map λkv=>if kv.1=k then(kv.1,d) else kv) (vs.map λkv=>if kv.1=k then(kv.1,v) else kv):=by
 induction h with
 |nil=>exact .nil
 | @cons k' d' v' ds vs h t ih=>
  rw[List.map_cons,List.map_cons];by_cases e:k'=k
  ·rw[if_pos e,if_pos e];exact .cons q ih
  ·rw[if_neg e,if_neg e];exact .cons h ih
theorem DRels.put{K:aD}{k:Key}{v:V}(h:DRels K H ι m kvs vs)(q:VRel K H ι m d v):DRels K H ι m (bM kvs k d) (putK vs k v):=by
 unfold bM putK;rw[h.anyK];split
 ·exact h.repl q
 ·exact h.append (.cons q .nil)
theorem qe{K:aD}{H:Hp}{ι:Nat->Addr}{m:Nat}:∀{ds:List D}{vs:List V}{ps:List (Key×D)},rN ds=some ps->VRels K H ι m ds vs->∃B,DD K H B vs/\DRels K H ι m ps B
 |[],_,_,h,.nil=>by cases h;exact⟨[],.nil,.nil⟩
 |d::ds,_,_,h,.cons (v:=v) (vs:=vs) r t=>by
  obtain⟨p,h1,h⟩:=bs h;obtain⟨ps,U,rfl⟩:=map_some h;obtain⟨B,q1,q2⟩:=qe U t;cases d with
  |tup xs=>
   obtain⟨z,J,h1⟩:=bs h1;obtain⟨k,I,rfl⟩:=map_some h1;cases dY J;cases r with
   |tup hq rr=>
    cases rr with
    |cons ra rr=>
     cases rr with
     |cons rb rr=>cases rr;have:=eA I ra;subst this;exact⟨(k,_)::B,.cons ⟨_,rfl,hq⟩ q1,.cons rb q2⟩
  |_=>cases h1
theorem nU{K:aD}{H:Hp}{ι:Nat->Addr}{m:Nat}:∀{ps:List (Key×D)}{I:List (Key×V)},DRels K H ι m ps I->∀{acc:List (Key×D)}{B:List (Key×V)},DRels K H ι m acc B->DRels K H ι m (ps.foldl (λacc p=>bM acc p.1 p.2) acc) (I.foldl (λacc p=>putK acc p.1 p.2) B)
 |_,_,.nil,_,_,q=>q
 |_,_,.cons h t,_,_,q=>nU t (q.put h)
theorem cg.allocK{K:aD}(S:Sim K H ι st)(P:cg K H ι st (.ok (.ref st.length) (st++[.dct kvs])) Q)(r:DRels K H ι st.length kvs vs):∀p,H p=none->Q (.ref p) (upd H p (.dK vs)):=λp B=>by
 obtain⟨ι',E,e,I⟩:=S.laid (o:= .dct kvs) (ho:= .dK vs) B (λι' h1 U=>⟨vs,bf,r.ext0 ⟨Nat.le_succ _,h1,λb xs e=>by rw[aG (aH e B)];exact e,λb J u e=>by rw[aG (aH e B)];exact e⟩⟩)
 have l:(st++[O.dct kvs]).length=st.length+1:=by simp
 refine P _ ι' _ (by rw[l];exact E) I ?_
 rw[<-e,l];exact .ref (aO _)
theorem jG{K:aD}{H:Hp}{ι:Nat->Addr}{m:Nat}:∀{ds:List D}{vs:List V}{ns:List Int},k6 ds=some ns->VRels K H ι m ds vs->vs=ns.map V.int
 |[],_,_,h,.nil=>by cases h;rfl
 |d::ds,_,_,h,.cons (v:=v) (vs:=vs) r t=>by
  cases d with
  |int i=>obtain⟨ms,h1,rfl⟩:=map_some h;cases r;rw[jG h1 t];rfl
  |_=>cases h
theorem fU{K:aD}{H:Hp}{ι:Nat->Addr}{m:Nat}:∀ns:List Int,VRels K H ι m (ns.map .int) (ns.map V.int)
 |[]=>.nil
 |n::ns=>.cons (.int n) (fU ns)
theorem jQ:∀{kvs:List (Key×D)}{ns:List Int},fA kvs=some ns->kvs.map (·.1)=ns.map (Sum.inl:Int->Key)
 |[],ns,h=>by cases h;rfl
 |(.inl n,d)::r,ns,h=>by
  unfold fA at h;cases q:fA r with
  |none=>rw[q] at h;cases h
  |some ms=>rw[q] at h;cases h;rw[List.map_cons,List.map_cons,jQ q]
 |(.inr n,d)::r,ns,h=>by cases h
theorem pj{K:aD}{ds:List (Key×D)}(h:DRels K H ι m ds vs):ds.map (·.1)=vs.map (·.1):=by
 induction h with
 |nil=>rfl
 |cons h t ih=>rw[List.map_cons,List.map_cons,ih]
theorem Ay{X:Cx}(hc:X.calm=true)(f:Bt):fP X f.val (rB X.K f):=by
 intro pins s σ H xs us Q I r h;obtain⟨ι,st,ds,S,rv,P⟩:=h;have sz:sizeLine=16777216:=sizeLine_eq;cases ds with
 |nil=>exact False.elim P
 |cons x ds=>cases ds with
  |cons y ds=>exact False.elim P
  |nil=>
  obtain⟨v,rfl,J⟩:=rv.inv1
  replace P:cg X.K H ι st (om f x st) Q:=P
  cases f with
  |len=>
   simp only[om] at P;split at P
   ·rename_i ys es;obtain⟨a,vs,rfl,B,rr⟩:=J.seq S es;exact mK pins s σ H _ us Q I r ⟨_,_,rfl,B,by rw[<-rr.length];exact P.same S (.int _)⟩
   ·split at P
    ·rename_i kvs es;obtain⟨n,a,vs,rfl,q,ea,rfl,Z,Y⟩:=vj S es J;obtain⟨u,rfl,ru⟩:=vals1 r;cases ru;exact Ci I (.inl Z) λt s' I'=>⟨.int kvs.length,H,I',by rw[Y.length];exact⟨t,rfl⟩,P.same S (.int _)⟩
    ·exact False.elim P
  |list=>
   simp only[om] at P;split at P
   ·rename_i ys es;obtain⟨a,vs,rfl,B,rr⟩:=J.seq S es;exact mJ pins s σ H _ us Q I r ⟨_,_,rfl,B,P.alloc S rr⟩
   ·exact False.elim P
  |tuple=>
   simp only[om] at P;split at P
   ·rename_i ys es;obtain⟨a,vs,rfl,B,rr⟩:=J.seq S es;rcases B with B|B
    ·exact f_ pins s σ H _ us Q I r ⟨_,_,rfl,.inl ⟨B,P.tup S rr⟩⟩
    ·exact f_ pins s σ H _ us Q I r ⟨_,_,rfl,.inr ⟨B,P.same S (.tup B rr)⟩⟩
   ·exact False.elim P
  |dict=>cases x with
   |ref n=>
    simp only[om] at P;split at P
    ·rename_i xs q;split at P
     ·rename_i ps hps;cases J with
      |ref U=>obtain⟨ys,h1,h2⟩:=S.ob _ _ q;obtain⟨qs,k1,k2⟩:=qe hps h2;exact pE hc pins s σ H _ us Q I r ⟨_,ys,qs,rfl,h1,k1,P.allocK S (nU k2 .nil)⟩
     ·exact False.elim P
    ·rename_i kvs q;cases J with
     |ref U=>obtain⟨vs,Z,Y⟩:=S.ob _ _ q;obtain⟨u,rfl,ru⟩:=vals1 r;cases ru;exact vn I (.inl Z) λp s' hp I'=>⟨.ref p,_,I',rfl,P.allocK S Y p hp⟩
    ·exact False.elim P
   |_=>exact False.elim P
  |sorted=>
   simp only[om] at P;split at P
   ·rename_i ns U;split at P
    ·rename_i hl;cases x with
     |ref n=>
      simp only[numsOf] at U;split at U
      ·rename_i xs q;cases J with
       |ref hn'=>obtain⟨vs,Z,Y⟩:=S.ob _ _ q;have e:=jG U Y;subst e;exact mH pins s σ H _ us Q I r ⟨_,ns,rfl,c8.of Z,hl,P.alloc S (fU _)⟩
      ·rename_i kvs q;cases J with
       |ref hn'=>
        obtain⟨vs,Z,Y⟩:=S.ob _ _ q;have hk:=(pj Y).symm.trans (jQ U);exact mI hc pins s σ H _ us Q I r ⟨_,vs,ns,rfl,Z,hk,by have:=congrArg List.length hk;simp at this;omega,P.alloc S (fU _)⟩
      ·cases U
     |_=>cases U
    ·exact False.elim P
   ·exact False.elim P
def oq(P:Program)(w:World):vK:=λ_ _ _ _ _ _=>False
theorem xW{P:Program}{w:World}{X:Cx}:ku (oq P w) X E0:=λ_ _ _ _ _ _ _ z=>z.elim
section
variable{X:Cx}{pins:List (Addr×Obj)}{σ:L2.St}{H:Hp}{s:Shared}
theorem p9{k:Nat}{f:Addr}{fd:FuncData}{ps:List Str}{sp:Sp}{us:List Value}{vs:List V}(F:FnOk X.prog X.w X.K X.mg X.base (oq X.prog X.w) k f fd ps sp)(J:Room k X.A)(Y:Binds X.K fd ps [])
  (I:Inv X pins σ H s)(r:bh vs us)(h:sp vs H Q E0):wpAny (model X.prog X.w) X.A (call (.ref f) us) (EP X pins σ Q) X.xe s:=by
 have U:(us++[]).length=ps.length:=by rw[List.append_nil,<-r.length];exact F.len _ _ _ _ h
 refine wpAny_call (codeAny_mono (F.run X.A X.stack s H ⟨us,[]⟩ us vs Q _ J I.env0 (by have:=Y s us I.kIn U;rwa [List.append_nil] at this) r h) λr s' B=>?_)
 cases r with
 |error e=>exact B.elim
 |ok fl=>
  cases fl with
  |ret u=>exact I.after B
  |next=>exact False.elim B
  |brk=>exact False.elim B
  |cont=>exact False.elim B
end
theorem nF{name:Str}{apos pos:Pos}{args:List Expr}{prog:Program}{w:World}{A:Around}{E:Value->Shared->Prop}{s:Shared}{env:Env}{Q:Value->Shared->Prop}
  (I:attributeBase o name env (eval o env)=eval o env)
  (U:methodCallForm (args.length+([]:List Keyword).length) (backTo pos (starEach args env)) (backToKw pos (keywordEach [] env))=true)
  (B:(apos.endLine==pos.line)=true)
  (h:wpAny (model prog w) A (eval o env) (λZ s₁=>∀pl,wpAny (model prog w) A (getMethod Z name pl) (λY s₂=>wpAny (model prog w) A (callWith pos Y.1 Y.2 (backTo pos (starEach args env)) (backToKw pos (keywordEach [] env))) Q E s₂) E s₁) E s):
  wpAny (model prog w) A (eval (.Call (.Attribute o name apos) args [] pos) env) Q E s:=by
 rw[arm_eval_Call,I];refine aa (aY h (λZ s₁ h₁=>?_) λ_ _ e=>e);refine aa (wpAny_standAt ?_);have J:methodCallPos true o env apos pos=pure pos:=by unfold methodCallPos;simp[B]
 unfold methodCall;rw[U];refine aa (wpAny_holding (aY (h₁ _) (λY s2 h2=>?_) λ_ _ e=>e));exact aa (wpAny_of_eq J h2)
def tw(X:Cx)(m:Str)(ta:TE)(t:TA):TE:=λσ H Q=>ta σ H λx H1=>∃a C dx fs f k fd ps sp,x=.ref a/\H1 a=some (.ins C dx fs)/\fs.lookup m=none/\Cls X.K C/\Meth X.K C m f/\
 FnOk X.prog X.w X.K X.mg X.base (oq X.prog X.w) k f fd ps sp/\Room k X.A/\Binds X.K fd ps []/\t σ H1 λvs H2=>∀E:XK,sp (.ref a::vs) H2 Q E
section
variable{X:Cx}{m:Str}{o e:Expr}{es:List Expr}{ta:TE}{t:TA}{apos pos:Pos}
theorem ul(he:PE X o ta)(J:attributeBase o m X.env (eval o X.env)=eval o X.env)(B:(apos.endLine==pos.line)=true)
  (U:methodCallForm ((e::es).length+([]:List Keyword).length) (backTo pos (starEach (e::es) X.env)) (backToKw pos (keywordEach [] X.env))=true)(ha:PA X (e::es) t)
  (Y:starEach (e::es) X.env=(false,eval e X.env)::starEach es X.env)(Z:(backTo pos (starEach es X.env)).any (·.1)=false):PE X (.Call (.Attribute o m apos) (e::es) [] pos) (tw X m ta t):=by
 intro pins s σ H Q I h;refine nF J U B (bL (he pins s σ H _ I h) λu s1 hp pl=>?_);obtain⟨x,H1,I1,rx,a,C,dx,fs,f,k,fd,ps,sp,ex,ea,l,c,hm,F,hr,hb,q⟩:=hp;subst ex;obtain rfl:u=Value.ref a:=rx;refine jW I1 ea c hm l ?_;refine PySem.W.callWith_K (first:=[.ref a]) (h₀:=X.base) I.ok.mod.kin hm.kp (bL (ha pos pins s1 σ H1 _ I1 q) λus s2 ⟨vs,H2,I2,r,q2⟩=>⟨I2.kIn,?_⟩) Y Z
 exact p9 (us:= .ref a::us) (vs:= .ref a::vs) F hr hb I2 (.cons rfl r) (q2 _)
theorem rQ(he:PE X o ta)(J:attributeBase o m X.env (eval o X.env)=eval o X.env)(B:(apos.endLine==pos.line)=true):PE X (.Call (.Attribute o m apos) [] [] pos) (tw X m ta v8):=by
 intro pins s σ H Q I h;refine nF J rfl B (bL (he pins s σ H _ I h) λu s1 hp pl=>?_);obtain⟨x,H1,U,Z,a,C,dx,fs,f,k,fd,ps,sp,ex,ea,l,c,Y,F,hr,hb,q⟩:=hp;subst ex;obtain rfl:u=Value.ref a:=Z;refine jW U ea c Y l ?_;exact PySem.W.callWith_K0 (first:=[.ref a]) U.kIn Y.kp (p9 (us:=[.ref a]) (vs:=[.ref a]) F hr hb U (.cons rfl .nil) (q _))
end
theorem _root_.L2.PS.or{X:Cx}{e:Stmt}{t u:TS}(h1:PS X e t)(B:PS X e u):PS X e (λD σ H=>t D σ H∨u D σ H):=λpins s σ H D I h=>h.elim (h1 pins s σ H D I) (B pins s σ H D I)
structure ICl where
 x:Str
 flds:List Str
 mts:List (Str×Nat)
structure Tab where
 fns:List Str
 csts:List (Str×D)
 calm:Bool
 icl:List ICl
 mks:List (Str×Nat)
noncomputable def Tab.ics(T:Tab)(f:Str):List Str:=(T.icl.filter λc=>c.flds.contains f).map (·.x)
noncomputable def Tab.ims(T:Tab)(m:Str):List (Str×Nat):=T.icl.filterMap λc=>(c.mts.lookup m).map λj=>(c.x,j)
noncomputable def e8:List Str->Str->Option Nat
 |[],_=>none
 |y::r,x=>if y=x then some 0 else(e8 r x).map (· +1)
theorem ci:∀{N:List Str}{x:Str}{i:Nat},e8 N x=some i->N[i]? =some x
 |[],_,_,h=>by cases h
 |y::r,x,i,h=>by
  unfold e8 at h;split at h
  ·rename_i e;cases h;rw[e];rfl
  ·cases q:e8 r x with
   |none=>rw[q] at h;cases h
   |some j=>rw[q] at h;have:j+1=i:=ag h;subst this;simpa using ci q
noncomputable def AA:List (Str×Bt):=[("len",.len),("list",.list),("tuple",.tuple),("dict",.dict),("sorted",.sorted)]
noncomputable def sF:List Str:=["len","list","tuple","dict","sorted","isinstance","range","enumerate","set"]
noncomputable def Cn:Operator->Option Bo
 | .Add=>some .add
 | .Sub=>some .sub
 | .Mult=>some .mul
 | .FloorDiv=>some .fdiv
 | .Mod=>some .mod
 | .Pow=>some .pow
 |_=>none
def eT(sc scope:Scope)(N xs:List Str):Bool:=
 (scope.kind== .function)&&decide ((qo scope).length<=1)&&decide ((xs++sJ scope N).Nodup)&&
 (xs.all λx=>(scope.names.lookup x==some .local||scope.names.lookup x==some .cell)&&(x != "__debug__")&&(x != "__classdict__"))&&
 (scope.names.all λy=>(y.2 != .local||scope.names.lookup y.1==some .local)&&(y.2 != .free||sc.names.lookup y.1==some .cell||sc.names.lookup y.1==some .free))&&
 N.all λz=>(scope.names.lookup z !=some .local||scope.names.lookup (vM z)==none)&&decide ((z,NameKind.cell)∉scope.names)&&(vM z != "__debug__")&&(vM z != "__classdict__")
noncomputable def l0(sc scope:Scope):Scope:=
 {scope with names:=scope.names.map λ(n,k)=>if(k== .free&&sc.kind== .function&&sc.names.lookup n==some .cell) then(n,.cell) else(n,k)}
noncomputable def bI(sc:Scope)(x:Str):Bool:=sc.names.lookup x==some .globalImplicit
noncomputable def dX:Expr->Bool
 | .Slice .. =>false
 |_=>true
noncomputable def zQ:Expr->Option Str
 | .Name x _=>some x
 |_=>none
theorem fS{x:Str}(h:zQ e=some x):∃p,e= .Name x p:=by cases e<;>cases h;exact⟨_,rfl⟩
def Az:Expr->Option (Str×List Expr)
 | .Call f as ks _=>(match ks with
  |[]=>(zQ f).map λx=>(x,as)
  |_=>none)
 |_=>none
theorem n8{x:Str}{as:List Expr}(h:Az e=some (x,as)):∃p q,e= .Call (.Name x p) as [] q:=by
 cases e with
 |Call f as ks q=>
  cases ks with
  |nil=>obtain⟨y,h1,B⟩:=map_some h;cases B;obtain⟨p,rfl⟩:=fS h1;exact⟨p,q,rfl⟩
  |cons=>cases h
 |_=>cases h
noncomputable def vt(e:Expr):Option (Str×Expr):=(Az e).bind λp=>(one p.2).map λa=>(p.1,a)
theorem lu{r:Str}(h:vt e=some (r,a)):∃p q,e= .Call (.Name r p) [a] [] q:=by obtain⟨⟨x,as⟩,h1,h⟩:=bs h;obtain⟨b,I,B⟩:=map_some h;cases B;cases cH I;exact n8 h1
noncomputable def eB:Expr->Bool
 | .Name .. =>true
 | .Attribute .. =>true
 | .Subscript .. =>true
 | .Call (.Attribute ..) .. =>true
 | .Call (.Name ..) (_::_) .. =>true
 |_=>false
noncomputable def nG(s:Str):Bool:=s== "pop"
noncomputable def BZ:List Comprehension->Option (Expr×Expr×List Expr)
 |[⟨t,it,ifs,k⟩]=>if k=0 then some (t,it,ifs) else none
 |_=>none
theorem uZ{B:List Comprehension}{p:Expr×Expr×List Expr}(h:BZ B=some p):B=[⟨p.1,p.2.1,p.2.2,0⟩]:=by
 rcases B with _|⟨⟨t,it,ifs,k⟩,_|⟨c,l⟩⟩
 ·cases h
 ·obtain⟨h1,h⟩:=fX h;cases h1;cases h;rfl
 ·cases h
def xX:Expr->Option (Str×Str)
 | .Tuple [a,b] _ _=>(zQ a).bind λx=>(zQ b).map λy=>(x,y)
 |_=>none
theorem k5{z:Str×Str}(h:xX e=some z):∃p q k r,e= .Tuple [.Name z.1 p,.Name z.2 q] k r:=by
 cases e with
 |Tuple l k r=>
  rcases l with _|⟨a,_|⟨b,_|⟨c,l⟩⟩⟩
  ·cases h
  ·cases h
  ·obtain⟨x,h1,h⟩:=bs h;obtain⟨y,B,rfl⟩:=map_some h;obtain⟨p,rfl⟩:=fS h1;obtain⟨q,rfl⟩:=fS B;exact⟨p,q,k,r,rfl⟩
  ·cases h
 |_=>cases h
noncomputable def DM:Expr->Option (Option Expr×Option Expr)
 | .Slice lo hi st _=>(match st with
  |none=>some (lo,hi)
  |_=>none)
 |_=>none
theorem we{q:Option Expr×Option Expr}(h:DM e=some q):∃p,e= .Slice q.1 q.2 none p:=by
 cases e with
 |Slice lo hi st p=>
  cases st with
  |none=>cases h;exact⟨p,rfl⟩
  |some=>cases h
 |_=>cases h
def wz(sc:Scope)(e:Expr):Option Expr:=(vt e).bind λp=>if p.1= "range" /\bI sc p.1=true then some p.2 else none
theorem nj{sc:Scope}(h:wz sc e=some a):bI sc "range"=true/\∃p q,e= .Call (.Name "range" p) [a] [] q:=by obtain⟨⟨r,b⟩,h1,h⟩:=bs h;obtain⟨⟨e,B⟩,h⟩:=fX h;cases h;cases e;exact⟨B,lu h1⟩
noncomputable def nI:Expr->Bool
 | .UnaryOp .USub (.Constant (.int i) _ _) _=>i==1
 |_=>false
theorem nH(h:nI e=true):∃k p q,e= .UnaryOp .USub (.Constant (.int 1) k p) q:=by
 unfold nI at h;split at h
 ·rename_i i k p q;have:i=1:=by simpa using h
  subst this;exact⟨k,p,q,rfl⟩
 ·cases h
def By(sc:Scope)(e:Expr):Option Expr:=(Az e).bind λp=>if p.1= "range" /\bI sc p.1=true then(match p.2 with
 |[a,b,c]=>if nI b=true/\nI c=true then some a else none
 |_=>none) else none
theorem t4{sc:Scope}(h:By sc e=some a):bI sc "range"=true/\∃p q b c,e= .Call (.Name "range" p) [a,b,c] [] q/\nI b=true/\nI c=true:=by
 obtain⟨⟨r,as⟩,h1,h⟩:=bs h;obtain⟨⟨e,B⟩,h⟩:=fX h;cases e;dsimp only at h;split at h
 ·obtain⟨⟨J,I⟩,h⟩:=fX h;cases h;obtain⟨p,q,rfl⟩:=n8 h1;exact⟨B,p,q,_,_,rfl,J,I⟩
 ·cases h
def uz(f:Str)(sc:Scope)(e:Expr):Option Expr:=(vt e).bind λp=>if p.1=f/\bI sc p.1=true then some p.2 else none
theorem jI{f:Str}{sc:Scope}(h:uz f sc e=some a):bI sc f=true/\∃p q,e= .Call (.Name f p) [a] [] q:=by obtain⟨⟨r,b⟩,h1,h⟩:=bs h;obtain⟨⟨e,B⟩,h⟩:=fX h;cases h;cases e;exact⟨B,lu h1⟩
def CN(t:Expr):Option (Bool×List Str):=(zQ t).elim ((xX t).map λz=>(true,[z.1,z.2])) λx=>some (false,[x])
def ju(sc:Scope)(it:Expr):Sk×Expr:=(wz sc it).elim ((uz "enumerate" sc it).elim (.seq,it) λa=>(.en,a)) λa=>(.rng,a)
def uD(m:Str):Expr->Option Expr
 | .Call (.Attribute o m' ap) as ks cp=>(match ks with
  |[]=>(match as with
   |[]=>if(m'==m&&(ap.endLine==cp.line)&&eB o)=true then some o else none
   |_=>none)
  |_=>none)
 |_=>none
theorem gP{m:Str}(h:uD m e=some o):∃ap cp,e= .Call (.Attribute o m ap) [] [] cp/\(ap.endLine==cp.line)=true/\eB o=true:=by
 cases e with
 |Call f as ks cp=>
  cases f with
  |Attribute o m ap=>
   cases ks with
   |cons=>cases h
   |nil=>
    cases as with
    |cons=>cases h
    |nil=>
     obtain⟨B,h⟩:=fX h;cases h;simp only[Bool.and_eq_true,beq_iff_eq] at B;obtain⟨⟨rfl,J⟩,I⟩:=B;exact⟨ap,cp,rfl,by simpa using J,I⟩
  |_=>cases h
 |_=>cases h
def Da(f:Str)(args:List Expr):Option Expr:=if f= "sorted" then(one args).bind λc=>uD "items" c else none
def D0(sc:Scope)(f:Str)(args:List Expr):Option Expr:=if f= "sorted" then(one args).bind λc=>uz "set" sc c else none
noncomputable def v6:List (Str×Bool):=[("list",false),("tuple",true)]
noncomputable def isZero:Expr->Bool
 | .Constant (.int i) _ _=>i==0
 |_=>false
theorem o5(h:isZero e=true):∃k p,e= .Constant (.int 0) k p:=by
 cases e with
 |Constant c k p=>
  cases c with
  |int i=>
   have:i=0:=by simpa[isZero] using h
   subst this;exact⟨_,_,rfl⟩
  |_=>cases h
 |_=>cases h
mutual
noncomputable def cE(T:Tab)(n:Nat)(sc:Scope)(N:List Str)(e:Expr):Option Ex:=match n with
 |0=>none
 |n+1=>match e with
  | .Constant k _ _=>(match k with
   | .int i=>some (.c (.int i))
   | .str s=>some (.c (.str s))
   | .bool b=>some (.c (.bl b))
   | .none=>some (.c .non)
   |_=>none)
  | .Name x _=>(sc.names.lookup x).bind λk=>match k with
   | .local=>(e8 N x).map .v
   | .cell=>(e8 N x).map .v
   | .free=>(e8 N x).map .v
   | .globalImplicit=>(T.csts.lookup x).map .c
   |_=>none
  | .Tuple es _ _=>if es.length<=1000 then(xC T n sc N es).map .tup else none
  | .List es _=>if es.length<=1000 then(xC T n sc N es).map .lst else none
  | .Dict ks vs _=>(match ks with
   |[]=>(match vs with
    |[]=>some .emp
    |_=>none)
   |k::ks=>(match ks with
    |[]=>k.bind λk=>(one vs).bind λv=>(cE T n sc N k).bind λk'=>(cE T n sc N v).map λv'=>.dict1 k' v'
    |_=>none))
  | .BinOp a op b _=>(cE T n sc N a).bind λa'=>(Cn op).bind λo=>(cE T n sc N b).map λb'=>.bin o a' b'
  | .UnaryOp op a _=>(match op with
   | .Not=>(cE T n sc N a).map .not
   |_=>none)
  | .BoolOp op es p=>(match es with
   |[]=>none
   |a::r=>match r with
    |[]=>cE T n sc N a
    |b::r=>(cE T n sc N a).bind λa'=>(cE T n sc N (.BoolOp op (b::r) p)).map λb'=>match op with
     | .And=>.and a' b'
     | .Or=>.or a' b')
  | .Compare a ops bs _=>(one ops).elim ((k4 ops).bind λo=>(k4 bs).bind λb=>(cE T n sc N a).bind λa'=>(cE T n sc N b.1).bind λb'=>(cE T n sc N b.2).map λc'=>.chain o.1 o.2 a' b' c') λop=>(one bs).bind λb=>(cE T n sc N a).bind λa'=>(cE T n sc N b).map λb'=>.cmp op a' b'
  | .Subscript a b _=>(DM b).elim (if dX b=true then(cE T n sc N a).bind λa'=>(cE T n sc N b).map λb'=>.ix a' b' else none)
   λq=>match q.1 with
    |none=>q.2.bind λh=>(cE T n sc N a).bind λa'=>(cE T n sc N h).map λh'=>.sl a' h' h' false true
    |some l=>(cE T n sc N a).bind λa'=>(cE T n sc N l).bind λl'=>match q.2 with
     |none=>some (.sl a' l' l' true false)
     |some h=>(cE T n sc N h).map λh'=>.sl a' l' h' true true
  | .Call f args kws cp=>(match kws with
   |[]=>(match f with
   | .Name f _=>if bI sc f=true then(Da f args).elim ((D0 sc f args).elim (match args with
     |[]=>none
     |a::as=>(e8 T.fns f).elim ((T.mks.lookup f).elim ((AA.lookup f).elim (if f= "isinstance" then(one as).bind λt'=>(zQ t').bind λt=>if bI sc t=true then(v6.lookup t).bind λtp=>(cE T n sc N a).map λa'=>.isi a' tp else none else none)
       λb=>if T.calm=true then(xC T n sc N (a::as)).map (.bt b) else none)
       λj=>(xC T n sc N (a::as)).map (.new f j))
       λi=>(xC T n sc N (a::as)).map (.fn i))
     λo=>if T.calm=true then(cE T n sc N o).map .sset else none)
     λo=>if T.calm=true then(cE T n sc N o).map .sit else none
    else none
   | .Attribute o m ap=>if(eB o&&(ap.endLine==cp.line)&&decide (args.length<29))=true then(cE T n sc N o).bind λo'=>
     if nG m=true then(match args with
      |[]=>some (.pop o' false)
      |_=>(one args).bind λa=>if isZero a=true then some (.pop o' true) else none)
     else if m= "get" then(one args).elim ((k4 args).bind λz=>(cE T n sc N z.1).bind λb'=>(cE T n sc N z.2).map λc'=>.dget o' b' c') λb=>(cE T n sc N b).map λb'=>.dget1 o' b'
     else if m= "setdefault" then(k4 args).bind λz=>(cE T n sc N z.1).bind λb'=>(cE T n sc N z.2).map λc'=>.sde o' b' c'
     else(xC T n sc N args).map λas'=>.meth o' m (T.ims m) as' else none
   |_=>none)
   |_=>none)
  | .ListComp elt gens scope _=>(BZ gens).bind λq=>(CN q.1).bind λp=>if eT sc scope N p.2=true/\T.calm=true/\(p.1=false->(ju sc q.2.1).1.isEn=false) then
    (cE T n sc N (ju sc q.2.1).2).bind λs'=>(cE T n (l0 sc scope) (p.2++sJ scope N) elt).bind λe'=>match q.2.2 with
     |[]=>some (.comp (ju sc q.2.1).1 p.1 s' (.c .non) false e')
     |c::r=>(match r with
      |[]=>(cE T n (l0 sc scope) (p.2++sJ scope N) c).map λc'=>.comp (ju sc q.2.1).1 p.1 s' c' true e'
      |_=>none)
    else none
  | .Attribute o f _=>if eB o=true then(cE T n sc N o).map (λo'=>.fld o' f [] (T.ics f)) else none
  |_=>none
noncomputable def xC(T:Tab)(n:Nat)(sc:Scope)(N:List Str)(es:List Expr):Option (List Ex):=match n with
 |0=>none
 |n+1=>match es with
  |[]=>some []
  |e::r=>(cE T n sc N e).bind λe'=>(xC T n sc N r).map λr'=>e'::r'
end
structure LRel(K:aD)(H:Hp)(ι:Nat->Addr)(m:Nat)(loc:Loc)(σ:L2.St):Prop where
 len:loc.length=σ.length
 at_:∀(i:Nat)(d:D),loc[i]? =some (some d)->∃v:V,σ[i]? =some (some v)/\VRel K H ι m d v
theorem LRel.ext{K:aD}{H':Hp}{ι':Nat->Addr}{m':Nat}{loc:Loc}{σ:L2.St}(L:LRel K H ι m loc σ)(E:Ext H H' ι ι' m m'):LRel K H' ι' m' loc σ:=
 ⟨L.len,λi d e=>let⟨v,h1,h2⟩:=L.at_ i d e;⟨v,h1,h2.ext E⟩⟩
theorem LRel.cons{K:aD}{loc:Loc}{σ:L2.St}{v:V}(L:LRel K H ι m loc σ)(r:VRel K H ι m d v):LRel K H ι m (some d::loc) (some v::σ):=
 ⟨by simp[L.len],λi e h=>by
  cases i with
  |zero=>
   have:d=e:=by simpa using h
   subst this;exact⟨v,rfl,r⟩
  |succ i=>simpa using L.at_ i e (by simpa using h)⟩
theorem LRel.set{K:aD}{loc:Loc}{σ:L2.St}{v:V}(L:LRel K H ι m loc σ)(j:Nat)(r:VRel K H ι m d v):LRel K H ι m (loc.set j (some d)) (σ.set j (some v)):=
 ⟨by simp[L.len],λi e h=>by
  by_cases hj:j=i
  ·subst hj
   have B:j<loc.length:=by have:=(av h).1;simpa using this
   rw[aL B] at h;cases h;exact⟨v,by rw[aL (by rw[<-L.len];exact B)],r⟩
  ·rw[aF hj] at h;obtain⟨w,h1,I⟩:=L.at_ i e h;exact⟨w,by rw[aF hj];exact h1,I⟩⟩
def tE(K:aD)(m:Loc->M D):TE:=λσ H Q=>∃ι st loc,Sim K H ι st/\LRel K H ι st.length loc σ/\cg K H ι st (m loc st) Q
def hX(K:aD)(H:Hp)(ι:Nat->Addr)(st:aW)(r:R D)(Q:Bool->Hp->Prop):Prop:=match r with
 | .ok (.bl k) st'=>∀H' ι',Ext H H' ι ι' st.length st'.length->Sim K H' ι' st'->Q k H'
 |_=>False
def tT(K:aD)(m:Loc->M D):TT:=λσ H Q=>∃ι st loc,Sim K H ι st/\LRel K H ι st.length loc σ/\hX K H ι st (m loc st) Q
noncomputable def vF(K:aD)(H:Hp)(ι:Nat->Addr)(st:aW)(r:R (List D))(Q:List V->Hp->Prop):Prop:=match r with
 | .ok ds st'=>∀H' ι' vs,Ext H H' ι ι' st.length st'.length->Sim K H' ι' st'->VRels K H' ι' st'.length ds vs->Q vs H'
 | .bad=>False
def tA(K:aD)(m:Loc->M (List D)):TA:=λσ H Q=>∃ι st loc,Sim K H ι st/\LRel K H ι st.length loc σ/\vF K H ι st (m loc st) Q
section
variable{K:aD}{H:Hp}{ι:Nat->Addr}{st:aW}{σ:L2.St}{loc:Loc}
theorem a6{m:Loc->M D}(S:Sim K H ι st)(L:LRel K H ι st.length loc σ)(e:m loc st=.ok d st1)(k:∀H1 ι1 v,Ext H H1 ι ι1 st.length st1.length->Sim K H1 ι1 st1->VRel K H1 ι1 st1.length d v->Q v H1):tE K m σ H Q:=
 ⟨ι,st,loc,S,L,by rw[e];exact k⟩
theorem kT{m:Loc->M D}{Q:Bool->Hp->Prop}{b:Bool}(S:Sim K H ι st)(L:LRel K H ι st.length loc σ)(e:m loc st=.ok (.bl b) st1)(k:∀H1 ι1,Ext H H1 ι ι1 st.length st1.length->Sim K H1 ι1 st1->Q b H1):tT K m σ H Q:=
 ⟨ι,st,loc,S,L,by rw[e];exact k⟩
theorem jq{m:Loc->M (List D)}{Q:List V->Hp->Prop}{ds:List D}(S:Sim K H ι st)(L:LRel K H ι st.length loc σ)(e:m loc st=.ok ds st1)(k:∀H1 ι1 vs,Ext H H1 ι ι1 st.length st1.length->Sim K H1 ι1 st1->VRels K H1 ι1 st1.length ds vs->Q vs H1):tA K m σ H Q:=
 ⟨ι,st,loc,S,L,by rw[e];exact k⟩
theorem aU{m:M α}{f:α->M D}(P:cg K H ι st (aZ m f st0) Q):∃a st1,m st0=.ok a st1/\cg K H ι st (f a st1) Q:=by
 unfold aZ at P;cases e:m st0 with
 |ok a st1=>rw[e] at P;exact⟨a,st1,rfl,P⟩
 |bad=>rw[e] at P;exact P.elim
theorem d7{m:M α}{f:α->M D}{Q:Bool->Hp->Prop}(P:hX K H ι st (aZ m f st0) Q):∃a st1,m st0=.ok a st1/\hX K H ι st (f a st1) Q:=by
 unfold aZ at P;cases e:m st0 with
 |ok a st1=>rw[e] at P;exact⟨a,st1,rfl,P⟩
 |bad=>rw[e] at P;exact P.elim
theorem n9{m:M α}{f:α->M (List D)}{Q:List V->Hp->Prop}(P:vF K H ι st (aZ m f st0) Q):∃a st1,m st0=.ok a st1/\vF K H ι st (f a st1) Q:=by
 unfold aZ at P;cases e:m st0 with
 |ok a st1=>rw[e] at P;exact⟨a,st1,rfl,P⟩
 |bad=>rw[e] at P;exact P.elim
theorem bV{o:Option α}{a:α}(e:d9 o st0=.ok a st1):o=some a/\st1=st0:=by
 unfold d9 at e;cases o with
 |none=>cases e
 |some b=>cases e;exact⟨rfl,rfl⟩
theorem b9{x:D}{b:Bool}(e:g_ x=some b):x=.bl b:=by cases x<;>cases e;rfl
theorem uN{x:D}{b:Int}(e:kF x=some b):x=.int b:=by cases x<;>cases e;rfl
theorem hX.inv{r:R D}{Q:Bool->Hp->Prop}(P:hX K H ι st r Q):∃b st1,r=.ok (.bl b) st1/\∀H' ι',Ext H H' ι ι' st.length st1.length->Sim K H' ι' st1->Q b H':=by
 unfold hX at P;split at P
 ·exact⟨_,_,rfl,P⟩
 ·exact P.elim
theorem hX.mono{r:R D}{Q:Bool->Hp->Prop}{H1:Hp}(P:hX K H ι st r Q)(E:Ext H H1 ι ι1 st.length st1.length):hX K H1 ι1 st1 r Q:=by obtain⟨b,B,rfl,k⟩:=P.inv;exact λH' ι' J I=>k H' ι' (E.trans J) I
end
theorem _root_.L2.PE.imp{X:Cx}{e:Expr}{t t':TE}(h:PE X e t)(k:∀σ H Q,t' σ H Q->t σ H Q):PE X e t':=λpins s σ H Q I q=>h pins s σ H Q I (k σ H Q q)
theorem _root_.L2.PT.imp{X:Cx}{e:Expr}{t t':TT}(h:PT X e t)(k:∀σ H Q,t' σ H Q->t σ H Q):PT X e t':=λpins s σ H Q I q=>h pins s σ H Q I (k σ H Q q)
theorem _root_.L2.PA.imp{X:Cx}{es:List Expr}{t t':TA}(h:PA X es t)(k:∀σ H Q,t' σ H Q->t σ H Q):PA X es t':=λpos pins s σ H Q I q=>h pos pins s σ H Q I (k σ H Q q)
noncomputable def ga(K:aD)(E:XK)(H:Hp)(ι:Nat->Addr)(st:aW)(r:R Rs)(Q:VK):Prop:=match r with
 | .ok (.v d) st'=>∀H' ι' v,Ext H H' ι ι' st.length st'.length->Sim K H' ι' st'->VRel K H' ι' st'.length d v->Q v H'
 | .ok (.x n) st'=>∀H' ι',Ext H H' ι ι' st.length st'.length->Sim K H' ι' st'->E (.ref (ι' n)) none H'
 | .bad=>False
theorem ga.mono{K:aD}{E:XK}{r:R Rs}{H1:Hp}(P:ga K E H ι st r Q)(J:Ext H H1 ι ι1 st.length st1.length):ga K E H1 ι1 st1 r Q:=by
 cases r with
 |ok f st2=>
  cases f with
  |v d=>exact λH' ι' v I B U=>P H' ι' v (J.trans I) B U
  |x n=>exact λH' ι' I B=>P H' ι' (J.trans I) B
 |bad=>exact P
theorem ga.val{K:aD}{m:M Rs}{E:XK}(P:cg K H ι st (aZ m (λr=>d9 r.val?) st1) Q):ga K E H ι st (m st1) Q:=by
 obtain⟨r,B,e,P⟩:=aU P;rw[e];cases r with
 |v d=>exact P
 |x n=>exact P.elim
def Bg(K:aD)(n:Nat)(f:List D->M Rs):Sp:=λvs H Q E=>vs.length=n/\∃ι st ds,Sim K H ι st/\VRels K H ι st.length ds vs/\ga K E H ι st (f ds st) Q
structure Ctx(T:Tab)(g:fe)(X:Cx)(sc:Scope)(N:List Str):Prop where
 sc:X.env.scope=sc
 n:X.N=N
 nd:N.Nodup
 nm:∀x∈N,(x==("__debug__":Str))=false/\(x==("__classdict__":Str))=false
 calm:T.calm=true->X.calm=true
 un:X.A.units+100<cLine
 fns:∀i f,T.fns[i]? =some f->(f==("__debug__":Str))=false/\∃a fd ps k,X.mg f=some (.ref a)/\PySem.W.keepIn X.K (.ref a)=true/\Binds X.K fd ps []/\Room k X.A/\(∀ds st,ds.length≠ps.length->g i ds st=R.bad)/\FnOk X.prog X.w X.K X.mg X.base (oq X.prog X.w) k a fd ps (Bg X.K ps.length (g i))
 csts:∀x d,T.csts.lookup x=some d->(x==("__debug__":Str))=false/\∃u v,X.mg x=some u/\RelV v u/\∀H ι m,VRel X.K H ι m d v
 blt:∀x∈sF,X.mg x=none
 icl:∀c∈T.icl,∃C,PySem.W.nsIn X.K mainGlobals c.x=some (some (.ref C))/\Cls X.K C/\(∀f∈c.flds,eW X.K C f)/\(∀m j,(m,j)∈c.mts->∃a fd ps k,Meth X.K C m a/\Binds X.K fd ps []/\Room k X.A/\(∀ds st,ds.length≠ps.length->g j ds st=R.bad)/\FnOk X.prog X.w X.K X.mg X.base (oq X.prog X.w) k a fd ps (Bg X.K ps.length (g j)))
 mks:∀x j,(x,j)∈T.mks->(x==("__debug__":Str))=false/\∃C a fd ps k,PySem.W.nsIn X.K mainGlobals x=some (some (.ref C))/\X.mg x=some (.ref C)/\Mk X.K C a/\Binds X.K fd ps []/\Room (k+1) X.A/\(∀ds st,ds.length≠ps.length->g j ds st=R.bad)/\FnOk X.prog X.w X.K X.mg X.base (oq X.prog X.w) k a fd ps (Bg X.K ps.length (g j))
end Ev
namespace L2
open PySem PySem.Spec PyProof.Rows
section
variable{X:Cx}{tg:Expr}
noncomputable def DK(lo:Int)(n:Nat):It:=⟨λi _=>i<n,λi H x H'=>H'=H/\x=.int (lo - i),λi _=>n<=i⟩
theorem rh{P:Program}{w:World}{K:aD}{tg:Expr}(it:Addr)(lo:Int)(n:Nat):Turn P w K tg (DK lo n) [it] it (λi h=>IsRangeIter h it (lo+(i:Nat)*(-1)) ((n:Int) - (i:Nat)) (-1)) where
 mem:=by simp
 obj:=λi h st b B=>by
  have e:b=it:=by simpa using B
  subst e;exact⟨_,st,λv z=>nomatch (show Data.fields _=Data.cell v from z)⟩
 keep:=λi h h' st k=>k it (by simp) _ st
 item:=by
  intro X hP U hK Z i pins s σ H E I J st Y;subst hP U hK;obtain⟨f0,f1,f2,f3,f4,f5⟩:=J it (by simp)
  refine(Walks.range (prog:=X.prog) (w:=X.w) (I.ok.hd Z) it lo (-1) n).item i s _ _ Y st λv h' tk hv st' kk=>?_;obtain⟨t,rfl⟩:=hv;have I1:Inv X pins σ H {s with heap:=h',toks:=tk}:=I.turned (λb o B e=>kk b o (by simpa using B) e) f0 f1 f3 f4 f5
  refine⟨_,rfl,nS (s:={s with heap:=h',toks:=tk}) (n:= "range_iterator") st' rfl rfl (by decide) ⟨.int (lo - i),H,I1,⟨t,?_⟩,⟨rfl,rfl⟩,st',λb B=>(J b B).1⟩⟩
  rw[show lo - (i:Int)=lo+(i:Int)*(-1) by omega]
 done:=by
  intro X hP U hK Z i pins s σ H E I J st Y;subst hP U hK;obtain⟨f0,f1,f2,f3,f4,f5⟩:=J it (by simp)
  exact wpAny_pyNext_range_end (I.ok.hd Z) st (by have:n<=i:=Y;omega) λh' eb=>⟨rfl,I.turned (t':=s.toks) (λb o B e=>eb b o B e) f0 f1 f3 f4 f5⟩
 self:=λ_ _ _ _ _ st h=>wpAny_pyIter_rangeiter st h
def BY(ta:TA):TI:=λσ H R=>ta σ H λvs H1=>∃i:Int,vs=[.int i,.int (-1),.int (-1)]/\ -1000000<=i/\i<=1000000/\R (DK i (i+1).toNat) H1
theorem kW(a:Int):Builtin.Range.rangeSize a (-1) (-1)=((a+1).toNat:Nat):=by
 unfold Builtin.Range.rangeSize;rw[if_neg (by decide)]
 split<;>simp<;>omega
theorem small_down{a:Int}(h1: -1000000<=a)(J:a<=1000000):Builtin.Range.small a (-1) (-1)=true:=by
 unfold Builtin.Range.small;rw[kW];have I:(((a+1).toNat:Nat):Int)<=1000001:=by omega
 have B:0<=(((a+1).toNat:Nat):Int):=by omega
 generalize (((a+1).toNat:Nat):Int)=b at*;simp only[Builtin.Range.rangeFitsLong,Bool.and_eq_true,Bool.or_eq_true,decide_eq_true_eq,beq_iff_eq];exact⟨by omega,.inr (by decide)⟩
theorem wO{a b c:Expr}{ta:TA}{p pos:Pos}(hg:Gl X "range")(Z:X.mg "range"=none)(ha:PA X [a,b,c] ta)(hs:starEach [a,b,c] X.env=(false,eval a X.env)::starEach [b,c] X.env)(U:∀pos,(backTo pos (starEach [b,c] X.env)).any (·.1)=false):
  PI X tg (.Call (.Name "range" p) [a,b,c] [] pos) (BY ta):=by
 intro pins s σ H R I h;refine Call_ (ez I hg Z boot_range (a_ (bL (ha pos pins s σ H _ I h) λus J ⟨vs,H1,I1,r1,q1⟩=>?_) hs (U _)));obtain⟨i,e,q1,q2,q⟩:=q1;subst e;cases r1 with
 |cons r rr=>
  cases rr with
  |cons r' rr=>
   cases rr with
   |cons r'' rr=>
    cases rr;obtain⟨t,rfl⟩:=r;obtain⟨t',rfl⟩:=r';obtain⟨B,rfl⟩:=r'';refine call_range_3 (by decide) ?_ (.inl (PyProof.noPylong_small (by omega)))
    have Y:Inv X pins σ H1 {J with heap:=J.heap.push {cls:= .type "range",data:= .fields #[.int i t,.int (-1) t',.int (-1) B]},toks:=J.toks}:=I1.kept λb o e=>ah _ e;refine wpAny_pyIter_range (IsRange.new ..) (small_down q1 q2) ?_;refine⟨_,[(J.heap.push {cls:= .type "range",data:= .fields #[.int i t,.int (-1) t',.int (-1) B]}).objs.size],_,_,H1,rfl,Y.kept (t':=J.toks) λb o e=>ah _ e,rh _ i (i+1).toNat,?_,λb hb=>?_,q⟩
    ·show IsRangeIter _ _ (i+((0:Nat):Int)*(-1)) ((((i+1).toNat:Nat):Int) - ((0:Nat):Int)) (-1);rw[show i+((0:Nat):Int)*(-1)=i by simp,show(((i+1).toNat:Nat):Int) - ((0:Nat):Int)=Builtin.Range.rangeSize i (-1) (-1) by rw[kW];simp]
     exact aw _ rfl
    ·have e:b=(J.heap.push {cls:= .type "range",data:= .fields #[.int i t,.int (-1) t',.int (-1) B]}).objs.size:=by simpa using hb
     subst e;exact Y.fpOk (ac _) (Y.hok.fresh (ac _))
def C5(td ty tx:TE):TE:=λσ H Q=>td σ H λx H1=>∃a,x=.ref a/\CJ H1 a/\ty σ H1 λy H2=>tx σ H2 λz H3=>∃kvs k,H3 a=some (.dK kvs)/\y=kV k/\kvs.length<sizeLine/\match eh kvs k with
 |some w=>Q w H3
 |none=>Q z (upd H3 a (.dK (putK kvs k z)))
theorem zI{o e f:Expr}{apos cpos:Pos}{td ty tx:TE}(ho:PE X o td)(U:PE X e ty)(hf:PE X f tx)(m:M2 X o "setdefault" apos e f cpos):PE X (.Call (.Attribute o "setdefault" apos) [e,f] [] cpos) (C5 td ty tx):=by
 intro pins s σ H Q I h;refine wpAny_Call_method m.base m.few m.line PySem.F.plainAttrs_dict PySem.F.slot_dict_setdefault PySem.F.type_dict_setdefault (bL (ho pins s σ H _ I h) λu s1 hp=>?_);obtain⟨x,H1,Z,rx,a,ex,d,q1⟩:=hp;subst ex;obtain rfl:u=Value.ref a:=rx;obtain⟨t1,t2,_⟩:=eE Z d;refine⟨t1,t2,?_⟩;rw[m.trees];refine Calls.callWith_builtin rfl (Calls.evalArgs_plain (Calls.spliced_cons (bL (U pins s1 σ H1 _ Z q1) λiv s2 ⟨y,H2,I2,ry,q2⟩=>Calls.spliced_cons (bL (hf pins s2 σ H2 _ I2 q2) λfv s3 ⟨z,H3,I3,rz,kvs,k,ea,ey,hz,q3⟩=>Calls.spliced_nil ?_))));subst ey;obtain⟨z0,hd,vs,rel,Y⟩:=j5 I3.hok ea;have rk:=rel.val k;refine call_meetsIn PySem.F.slot_dict_setdefault Y.typeIs PySem.F.entry_dict_setdefault (PySem.F.args_dict_setdefault_3 _ _ _) (kt_meets_setdefault (bd X.prog X.w) a (fZ ry) hd fv) ⟨vs,Y,by rw[<-rel.length];exact z0,λw J=>?_,λJ h' B hs=>?_⟩
 ·rw[J] at rk;cases hv:eh kvs k with
  |none=>rw[hv] at rk;exact rk.elim
  |some v=>rw[hv] at rk q3;exact⟨v,H3,I3.tok _,rk,q3⟩
 ·rw[J] at rk;cases hv:eh kvs k with
  |some v=>rw[hv] at rk;exact rk.elim
  |none=>
   rw[hv] at q3;have U:∃q,h'.get? a=some q:=let⟨q,_,_,hq,_⟩:=B;⟨q,hq⟩;exact⟨z,_,jd I3 (by rw[ea];exact True.intro) hs U (j6 (by have:=cW kvs k z;omega) hd (rel.put k rz) B),rz,q3⟩
end
end L2
namespace Ev
open PySem PySem.Spec PyProof.Rows L2
variable{m0 n:Nat}{ι ι0:Nat->Addr}
def BX(K:aD)(tl:TE):TI:=λσ H R=>tl σ H λx H1=>∃a,x=.ref a/\(((∃xs,c8 K H1 a xs)/\R (CI K a) H1)∨((∃xs,fV K H1 a xs)/\R (DG K a) H1))
theorem oV{X:Cx}{tg l:Expr}{tl:TE}(hl:PE X l tl):PI X tg l (BX X.K tl):=by
 intro pins s σ H R I h;refine bL (hl pins s σ H _ I h) λv B hp=>?_;obtain⟨x,H1,J,Z,q1⟩:=hp;obtain⟨a,rfl,⟨⟨xs,U⟩,q⟩|⟨⟨xs,U⟩,q⟩⟩:=q1
 ·cases Z;obtain⟨its,rv,p,hz⟩:=J.list U;refine wpAny_pyIter_list p.isList ?_;refine⟨B.heap.objs.size,[B.heap.objs.size],_,_,H1,rfl,J.kept (t':=B.toks) λb o e=>ah _ e,rf a _,⟨_,aw _ rfl,rfl,rfl⟩,λb Y=>?_,q⟩;have e:b=B.heap.objs.size:=by simpa using Y
  subst e;exact J.fpOk (ac _) (J.hok.fresh (ac _))
 ·cases Z;obtain⟨its,rv,p,hz⟩:=J.tuple U;refine wpAny_pyIter_tuple (show B.heap.IsTuple a its.toArray from p) ?_;refine⟨B.heap.objs.size,[B.heap.objs.size],_,_,H1,rfl,J.kept (t':=B.toks) λb o e=>ah _ e,oB a _,⟨_,aw _ rfl,rfl,rfl⟩,λb Y=>?_,q⟩;have e:b=B.heap.objs.size:=by simpa using Y
  subst e;exact J.fpOk (ac _) (J.hok.fresh (ac _))
def cu(K:aD)(J:It)(s:Src)(H0:Hp)(ι0:Nat->Addr)(m0:Nat):Prop:=∀H ι st i,Ext H0 H ι0 ι m0 st.length->Sim K H ι st->
 (c9 s i st=some none->J.stop i H)/\∀x,c9 s i st=some (some x)->J.go i H/\∀v H',J.yld i H v H'->H'=H/\VRel K H ι st.length x v
theorem cu.tup{K:aD}{a:Addr}{B:Hp}{xs:List D}{vs:List V}(h:fV K B a vs)(r:VRels K B ι0 m0 xs vs):cu K (DG K a) (.its xs) B ι0 m0:=λH ι st i E S=>by
 have l:=r.length;have h':=fV.ext E.toExt0 h;refine⟨λe=>?_,λx e=>?_⟩
 ·have e:xs[i]? =none:=ag e;exact⟨vs,h',by have:=List.getElem?_eq_none_iff.mp e;omega⟩
 ·have e:xs[i]? =some x:=ag e;obtain⟨v,I,rv⟩:=(r.ext E).get e;refine⟨⟨vs,v,h',I⟩,λw H' y=>⟨y.1,?_⟩⟩;have:=y.2 vs h';rw[I] at this;cases this;exact rv
theorem cu.fl{K:aD}{a:Addr}{B:Hp}{xs:List D}{vs:List V}(h:qZ K B a vs)(r:VRels K B ι0 m0 xs vs):cu K (CI K a) (.its xs) B ι0 m0:=λH ι st i E S=>by
 have l:=r.length;have h':=(qZ.ext E.toExt0 h).sql;refine⟨λe=>?_,λx e=>?_⟩
 ·have e:xs[i]? =none:=ag e;exact⟨vs,h',by have:=List.getElem?_eq_none_iff.mp e;omega⟩
 ·have e:xs[i]? =some x:=ag e;obtain⟨v,I,rv⟩:=(r.ext E).get e;refine⟨⟨vs,v,h',I⟩,λw H' y=>⟨y.1,?_⟩⟩;have:=y.2 vs h';rw[I] at this;cases this;exact rv
theorem cu.ref{K:aD}{U:Hp}(J:n<m0):cu K (CI K (ι0 n)) (.at n) U ι0 m0:=λH ι st i E S=>by
 simp only[c9];cases q:st[n]? with
 |none=>exact⟨λe=>(by cases e),λx e=>(by cases e)⟩
 |some o=>
  have B:=S.ob n o q;rw[E.ad n J] at B;cases o with
  |dct kvs=>exact⟨λe=>(by cases e),λx e=>(by cases e)⟩
  |ins _ _=>exact⟨λe=>(by cases e),λx e=>(by cases e)⟩
  |dcf _=>exact⟨λe=>(by cases e),λx e=>(by cases e)⟩
  |lst xs=>
   obtain⟨vs,h1,r⟩:=B;have l:=r.length;have h':c8 K H (ι0 n) vs:=c8.of h1;refine⟨λe=>?_,λx e=>?_⟩
   ·have e:xs[i]? =none:=ag e;exact⟨vs,h',by have:=List.getElem?_eq_none_iff.mp e;omega⟩
   ·have e:xs[i]? =some x:=ag e;obtain⟨v,I,rv⟩:=r.get e;refine⟨⟨vs,v,h',I⟩,λw H' y=>⟨y.1,?_⟩⟩;have:=y.2 vs h';rw[I] at this;cases this;exact rv
theorem cu.rng{K:aD}{I:Hp}{k:Nat}:cu K (CH 0 k) (.its (bO k)) I ι0 m0:=λH ι st i E S=>by
 refine⟨λe=>?_,λx e=>?_⟩
 ·have e:(bO k)[i]? =none:=ag e;show k<=i;have:=List.getElem?_eq_none_iff.mp e;simpa[bO] using this
 ·have e:(bO k)[i]? =some x:=ag e
  have hi:i<k:=by have:=(av e).1;simpa[bO] using this
  have B:x=.int (i:Int):=by
   have:(bO k)[i]? =some (.int (i:Int)):=by simp[bO,hi]
   rw[this] at e;exact(ag e).symm
  subst B;refine⟨hi,λv H' y=>⟨y.1,?_⟩⟩;have:v=.int (0+(i:Int)):=y.2;rw[this,Int.zero_add];exact .int _
theorem cu.down{K:aD}{I:Hp}{k:Nat}{lo:Int}:cu K (DK lo k) (.its (dF lo k)) I ι0 m0:=λH ι st i E S=>by
 refine⟨λe=>?_,λx e=>?_⟩
 ·have e:(dF lo k)[i]? =none:=ag e;show k<=i;have:=List.getElem?_eq_none_iff.mp e;simpa[dF] using this
 ·have e:(dF lo k)[i]? =some x:=ag e
  have hi:i<k:=by have:=(av e).1;simpa[dF] using this
  have B:x=.int (lo - (i:Int)):=by
   have:(dF lo k)[i]? =some (.int (lo - (i:Int))):=by simp[dF,hi]
   rw[this] at e;exact(ag e).symm
  subst B;refine⟨hi,λv H' y=>⟨y.1,?_⟩⟩;have:v=.int (lo - (i:Int)):=y.2;rw[this];exact .int _
def eZ(K:aD)(J:It)(s:Src)(H0:Hp)(ι0:Nat->Addr)(m0:Nat):Prop:=∀H ι st i,Ext H0 H ι0 ι m0 st.length->Sim K H ι st->
 (c9 s i st=some none->J.stop i H)/\∀x,c9 s i st=some (some x)->J.go i H/\∀v H',J.yld i H v H'->Ext H H' ι ι st.length st.length/\Sim K H' ι st/\VRel K H' ι st.length x v
theorem Sim.tup{K:aD}{H:Hp}{st:aW}(S:Sim K H ι st){p:Addr}(B:H p=none){xs:List V}:Ext H (upd H p (.tup xs)) ι ι st.length st.length/\Sim K (upd H p (.tup xs)) ι st:=by
 have E:Ext H (upd H p (.tup xs)) ι ι st.length st.length:=⟨⟨ac _,λ_ _=>rfl,λb ys e=>by rw[aG (aH e B)];exact e,λb J u e=>by rw[aG (aH e B)];exact e⟩,λb J e k=>⟨by rw[aG (aH e B)];exact e,k⟩⟩
 refine⟨E,S.inj,λn o e=>?_⟩;have U:n<st.length:=(av e).1;have I:ι n≠p:=by obtain⟨_,h,_⟩:=S.obj U;exact aH h B
 have old:=S.ob n o e;exact old.move E.toExt0 (aG I)
theorem eZ.en{K:aD}{H0:Hp}(hn:n<m0):eZ K (DH K (ι0 n)) (.en n) H0 ι0 m0:=λH ι st i E S=>by
 simp only[c9];cases q:st[n]? with
 |none=>exact⟨λe=>(by cases e),λx e=>(by cases e)⟩
 |some o=>
  have B:=S.ob n o q;rw[E.ad n hn] at B;cases o with
  |dct _|ins _ _|dcf _=>exact⟨λe=>(by cases e),λx e=>(by cases e)⟩
  |lst xs=>
   obtain⟨vs,h1,r⟩:=B;have l:=r.length;have h':c8 K H (ι0 n) vs:=c8.of h1;refine⟨λe=>?_,λx e=>?_⟩
   ·have e:xs[i]?.map (λx=>D.tup [.int (i:Int),x])=none:=ag e;have e:xs[i]? =none:=by simpa using e
    exact⟨vs,h',by have:=List.getElem?_eq_none_iff.mp e;omega⟩
   ·have e:xs[i]?.map (λx=>D.tup [.int (i:Int),x])=some x:=ag e;cases e2:xs[i]? with
    |none=>rw[e2] at e;cases e
    |some y=>rw[e2] at e;have e:D.tup [.int (i:Int),y]=x:=ag e;subst e;obtain⟨v,I,rv⟩:=r.get e2;refine⟨⟨vs,v,h',I⟩,λw H' U=>?_⟩;obtain⟨p,z,rfl,Z,rfl,Y⟩:=U;have:=Y vs h';rw[I] at this;cases this;obtain⟨J,S1⟩:=S.tup (xs:=[.int (i:Int),v]) Z;exact⟨J,S1,.tup (.inl (.inl bf)) (.cons (.int _) (.cons (rv.ext J) .nil))⟩
structure EltG(K:aD)(tt:V->Hp->(Option V->Hp->Prop)->Prop)(f:D->M (Option D))(H0:Hp)(ι0:Nat->Addr)(m0:Nat):Prop where
 turn:∀{H:Hp}{ι:Nat->Addr}{st st1:aW}{x:D}{v:V}{o:Option D}{Q:Option V->Hp->Prop},Ext H0 H ι0 ι m0 st.length->Sim K H ι st->VRel K H ι st.length x v->f x st=.ok o st1->
  (∀H1 ι1 w,Ext H H1 ι ι1 st.length st1.length->Sim K H1 ι1 st1->(match o,w with|some y,some z=>VRel K H1 ι1 st1.length y z|none,none=>True|_,_=>False)->Q w H1)->tt v H Q
theorem j8{K:aD}{tt:V->Hp->(Option V->Hp->Prop)->Prop}{f:D->M (Option D)}{J:It}{s:Src}{H:Hp}{st st0:aW}{H0:Hp}{Q:VK}(ok:EltG K tt f H ι st.length)
  (F:eZ K J s H ι st.length)(E0:Ext H0 H ι0 ι st0.length st.length)(S:Sim K H ι st)(P:cg K H0 ι0 st0 (cX f s st) Q):∀Dd,H Dd=none->∃W:Nat->Nat->List V->Hp->Prop,(∃m,W 0 m [] (upd H Dd (.lst [])))/\∀i m ys H2,W i m ys H2->
   (J.stop i H2/\Q (.ref Dd) H2)∨(J.go i H2/\∃N:List V->Hp->Prop,(∀Z H',N Z H'->∃m',m'<m/\W (i+1) m' Z H')/\
    ∀x H',J.yld i H2 x H'->tt x H' λw I=>match w with
     |some y=>I Dd=some (.lst ys)/\ys.length<sizeLine/\N (ys++[y]) (upd I Dd (.lst (ys++[y])))
     |none=>N ys I):=by
 intro Dd hD;have sz:sizeLine=16777216:=sizeLine_eq;unfold cX at P;split at P
 case isFalse=>exact P.elim
 case isTrue hz=>
 refine⟨λi m ys H2=>i+m<=1000001/\∃ι2 B acc,Ext H H2 ι ι2 st.length B.length/\Sim K H2 ι2 B/\H2 Dd=some (.lst ys)/\(∀n,n<B.length->ι2 n≠Dd)/\VRels K H2 ι2 B.length acc ys/\acc.length<=i/\
   cg K H0 ι0 st0 (aZ (dH f s m i acc) alloc B) Q,⟨bF s st+1,by omega,ι,st,[],?_,?_,bf,λn hn=>?_,.nil,ac _,P⟩,?_⟩
 ·exact⟨⟨ac _,λ_ _=>rfl,λb xs e=>by rw[aG (aH e hD)];exact e,λb ob u e=>by rw[aG (aH e hD)];exact e⟩,λb ob e k=>⟨by rw[aG (aH e hD)];exact e,k⟩⟩
 ·refine⟨S.inj,λn o e=>?_⟩;have hn:n<st.length:=(av e).1;have hne:ι n≠Dd:=by obtain⟨_,h,_⟩:=S.obj hn;exact aH h hD
  have E:Ext0 H (upd H Dd (.lst [])) ι ι st.length st.length:=⟨ac _,λ_ _=>rfl,λb xs e=>by rw[aG (aH e hD)];exact e,λb ob u e=>by rw[aG (aH e hD)];exact e⟩
  have old:=S.ob n o e;exact old.move E (aG hne)
 ·obtain⟨_,h,_⟩:=S.obj hn;exact aH h hD
 ·rintro i m ys H2 ⟨hm,ι2,B,acc,E2,S2,hDd,ap,ra,la,P2⟩;obtain⟨zs,st9,Y,P9⟩:=aU P2;obtain⟨c1,c2⟩:=F H2 ι2 B i E2 S2;cases m with
  |zero=>cases Y
  |succ m=>
   simp only[dH] at Y;cases en:c9 s i B with
   |none=>rw[en] at Y;cases Y
   |some ox=>
    rw[en] at Y;cases ox with
    |none=>
     have Y:R.ok acc B=R.ok zs st9:=Y;cases Y;refine .inl ⟨c1 en,?_⟩;obtain⟨ι',h1,h2,h3⟩:=S2.add hDd ap ra;have l:(B++[O.lst acc]).length=B.length+1:=by simp
     refine P9 H2 ι' (.ref Dd) ?_ h3 ?_
     ·rw[l];have E6:=E0.trans E2;refine⟨⟨Nat.le_succ_of_le E6.le,λn hn=>(h1 n (aA hn E6.le)).trans (E6.ad n hn),E6.tp,E6.fz⟩,λb ob e k=>?_⟩;obtain⟨g1,g2⟩:=E6.fr b ob e k;refine⟨g1,λn hn=>?_⟩;by_cases hn':n=B.length
      ·rw[hn',h2];obtain⟨g3,_⟩:=E0.fr b ob e k;exact(aH g3 hD).symm
      ·rw[h1 n (by omega)];exact g2 n (by omega)
     ·rw[<-h2,l];exact .ref (aO _)
    |some x=>
     obtain⟨hgo,hyl⟩:=c2 x en
     refine .inr ⟨hgo,λZ H'=>∃ι2 B acc,Ext H H' ι ι2 st.length B.length/\Sim K H' ι2 B/\H' Dd=some (.lst Z)/\(∀n,n<B.length->ι2 n≠Dd)/\VRels K H' ι2 B.length acc Z/\acc.length<=i+1/\
      cg K H0 ι0 st0 (aZ (dH f s m (i+1) acc) alloc B) Q,λZ H' b=>⟨m,aO _,by omega,b⟩,λv H' y=>?_⟩
     obtain⟨EY,SY,rv⟩:=hyl v H' y;obtain⟨hDd,_⟩:=EY.fr Dd _ hDd ap
     replace E2:=E2.trans EY
     replace ra:=ra.ext EY
     simp only[aZ] at Y;cases e3:f x B with
     |bad=>rw[e3] at Y;cases Y
     |ok o st3=>
      rw[e3] at Y
      refine ok.turn (Q:=λw I=>match w with
       |some y=>I Dd=some (.lst ys)/\ys.length<sizeLine/\∃ι2 B acc,Ext H (upd I Dd (.lst (ys++[y]))) ι ι2 st.length B.length/\Sim K (upd I Dd (.lst (ys++[y]))) ι2 B/\upd I Dd (.lst (ys++[y])) Dd=some (.lst (ys++[y]))/\(∀n,n<B.length->ι2 n≠Dd)/\VRels K (upd I Dd (.lst (ys++[y]))) ι2 B.length acc (ys++[y])/\acc.length<=i+1/\
         cg K H0 ι0 st0 (aZ (dH f s m (i+1) acc) alloc B) Q
       |none=>∃ι2 B acc,Ext H I ι ι2 st.length B.length/\Sim K I ι2 B/\I Dd=some (.lst ys)/\(∀n,n<B.length->ι2 n≠Dd)/\VRels K I ι2 B.length acc ys/\acc.length<=i+1/\
         cg K H0 ι0 st0 (aZ (dH f s m (i+1) acc) alloc B) Q) E2 SY rv e3 λI ι4 w E4 S4 r4=>?_
      obtain⟨U,ap4⟩:=E4.fr Dd _ hDd ap;cases o with
      |none=>
       cases w with
       |some _=>exact r4.elim
       |none=>
        have e9':dH f s m (i+1) acc st3=.ok zs st9:=Y;refine⟨ι4,st3,acc,E2.trans E4,S4,U,ap4,ra.ext E4,by omega,?_⟩
        unfold aZ;rw[e9'];exact P9
      |some yd=>
       cases w with
       |none=>exact r4.elim
       |some yv=>
        have e9':dH f s m (i+1) (acc++[yd]) st3=.ok zs st9:=Y;have lra:=ra.length;refine⟨U,by omega,ι4,st3,acc++[yd],?_⟩
        have E5:Ext0 I (upd I Dd (.lst (ys++[yv]))) ι4 ι4 st3.length st3.length:=⟨ac _,λ_ _=>rfl,λb xs e=>by rw[aG (b7 e U (by intro z;cases z))];exact e,λb ob u e=>by rw[aG (b7 e U (by intro z;cases z))];exact e⟩
        refine⟨?_,⟨S4.inj,λn ob e=>?_⟩,bf,ap4,VRels.ext0 E5 ((ra.ext E4).append (.cons r4 .nil)),by simp;omega,?_⟩
        ·have E6:=E2.trans E4;refine⟨⟨E6.le,E6.ad,λb xs e=>E5.tp b xs (E6.tp b xs e),λb ob u e=>E5.fz b ob u (E6.fz b ob u e)⟩,λb ob e k=>?_⟩;obtain⟨g1,g2⟩:=E6.fr b ob e k;exact⟨by rw[aG (aH e hD)];exact g1,g2⟩
        ·have hn:n<st3.length:=(av e).1;have old:=S4.ob n ob e;exact old.move E5 (aG (ap4 n hn))
        ·unfold aZ;rw[e9'];exact P9
theorem ym{K:aD}{J:It}{s:Src}{B:Hp}(F:cu K J s B ι0 m0):eZ K J s B ι0 m0:=λH ι st i E S=>by obtain⟨h1,Y⟩:=F H ι st i E S;refine⟨h1,λx e=>?_⟩;obtain⟨U,I⟩:=Y x e;refine⟨U,λv H' y=>?_⟩;obtain⟨rfl,r⟩:=I v H' y;exact⟨Ext.refl _ _ _,S,r⟩
end Ev
namespace L2
open PySem PySem.Spec PyProof.Rows
section
end
end L2
namespace Ev
open PySem PySem.Spec PyProof.Rows L2
variable{a b c e elt iter tg:Expr}{i n:Nat}{es ifs r:List Expr}{H:Hp}{σ:L2.St}{Q:VK}{a' b' c' e' l' s' x z:Ex}{loc:Loc}{st st1:aW}{ι:Nat->Addr}{sc scope:Scope}{N xs:List Str}{RR:It->Hp->Prop}{ht two:Bool}
section
variable{T:Tab}{g:fe}{X:Cx}{sc:Scope}{N:List Str}{pos p2:Pos}
theorem t_{m:Loc->M D}(h:PE X e (tE X.K m))(J:∀whole,isTrue e X.env whole=(do let v <-whole;standAt e.pos;holding [v] (truthy v))):PT X e (tT X.K m):=
 (zn h J).imp λσ H Q I=>by
  obtain⟨ι,st,loc,S,L,P⟩:=I;obtain⟨b,st1,U,k⟩:=P.inv;exact a6 S L U λH1 ι1 v Z Y B=>by cases B;exact⟨b,rfl,k H1 ι1 Z Y⟩
theorem gX{d:D}{v:V}(h:PE X e (tC v))(r:∀H ι m,VRel X.K H ι m d v):PE X e (tE X.K (run g (.c d))):=
 h.imp λσ H Q B=>by obtain⟨ι,st,loc,S,L,P⟩:=B;rw[run] at P;exact P.same S (r H ι _)
theorem vb{x:Str}(C:Ctx T g X sc N)(hi:e8 N x=some i)(B:Cp sc x):PE X (.Name x pos) (tE X.K (run g (.v i))):=by
 have J:X.N[i]? =some x:=by rw[C.n];exact ci hi
 obtain⟨h1,U⟩:=C.nm x (aj (ci hi));refine(zx J (by rw[C.sc];exact B) h1 U).imp λσ H Q I=>?_
 obtain⟨ι,st,loc,S,L,P⟩:=I;rw[run] at P;unfold d9 at P;cases e:loc[i]? with
 |none=>rw[e] at P;exact P.elim
 |some o=>
  rw[e] at P;cases o with
  |none=>exact P.elim
  |some d=>obtain⟨v,B,r⟩:=L.at_ i d e;exact⟨v,B,P.same S r⟩
theorem yl{xs:List Ex}{k:Nat}(U:PA X es (tA X.K (runs g xs)))(hz:es.length<=1000)(hl:es.length=xs.length):PE X (.Tuple es k pos) (tE X.K (run g (.tup xs))):=
 (zy U).imp λσ H Q J=>by obtain⟨ι,st,loc,S,L,P⟩:=J;rw[run] at P;obtain⟨ds,st1,I,P⟩:=aU P;have sz:sizeLine=16777216:=sizeLine_eq;refine jq S L I λH1 ι1 vs Z Y B=>⟨?_,(P.mono Z).tup Y B⟩;have:=runs_len I;have l:=B.length;omega
where
 runs_len:∀{xs:List Ex}{loc:Loc}{st st1:aW}{ds:List D},runs g xs loc st=.ok ds st1->ds.length=xs.length
 |[],loc,st,st1,ds,e=>by rw[runs] at e;cases e;rfl
 |x::xs,loc,st,st1,ds,e=>by
  rw[runs] at e;simp only[aZ,ret] at e;split at e
  ·split at e
   ·rename_i e2;cases e;rw[List.length_cons,List.length_cons,runs_len e2]
   ·cases e
  ·cases e
theorem B9{xs:List Ex}(U:PA X es (tA X.K (runs g xs)))(hz:es.length<=1000)(hl:es.length=xs.length):PE X (.List es pos) (tE X.K (run g (.lst xs))):=
 (zG U).imp λσ H Q J=>by obtain⟨ι,st,loc,S,L,P⟩:=J;rw[run] at P;obtain⟨ds,st1,I,P⟩:=aU P;have sz:sizeLine=16777216:=sizeLine_eq;refine jq S L I λH1 ι1 vs Z Y B=>⟨?_,(P.mono Z).alloc Y B⟩;have:=yl.runs_len I;have l:=B.length;omega
theorem AC{pins:List (Addr×Obj)}{s:Shared}(I:Inv X pins σ H s):sysModules<s.heap.objs.size:=Nat.lt_trans (by decide) (show mainGlobals<s.heap.objs.size from(I.mod.glob.keeps I.bk).lt)
theorem Cb:PE X (.Dict [] [] pos) (tE X.K (run g .emp)):=by intro pins s σ H Q I ⟨ι,st,loc,S,L,P⟩;rw[run] at P;refine wpAny_Dict_empty ⟨.ref s.heap.objs.size,_,I.laid (a:=s.heap.objs.size) (o:= .dK []) (t':=s.toks) (λ_ _ q=>ah _ q) (ac _) ?_,rfl,P.allocD S _ (I.hok.fresh (ac _))⟩;exact⟨Nat.zero_le _,beq_eq_false_iff_ne.mpr (Ne.symm (aC (AC I))),[],.nil,Heap.DictOf.new s.heap⟩
theorem qb{a b:Ex}{f:D->D->M D}(h:tE X.K (λloc=>aZ (run g a loc) λx=>aZ (run g b loc) λy=>f x y) σ H Q):A6 (rD X.K f) (tE X.K (run g a)) (tE X.K (run g b)) σ H Q:=by obtain⟨ι,st,loc,S,L,P⟩:=h;obtain⟨x,st1,e1,P⟩:=aU P;obtain⟨y,B,Z,P⟩:=aU P;exact a6 S L e1 λH1 ι1 vx J S1 Y=>a6 S1 (L.ext J) Z λH2 ι2 vy I S2 U=>⟨ι2,B,x,y,S2,Y.ext I,U,P.mono (J.trans I)⟩
theorem Ce{op:Operator}{o:Bo}(ho:Cn op=some o)(I:PE X a (tE X.K (run g a')))(B:PE X b (tE X.K (run g b'))):PE X (.BinOp a op b pos) (tE X.K (run g (.bin o a' b'))):=by
 have e:op=o.op:=by cases op<;>cases ho<;>rfl
 subst e;refine(BF (zN o) I B).imp λσ H Q h=>qb ?_;obtain⟨ι,st,loc,S,L,P⟩:=h;rw[run] at P;exact⟨ι,st,loc,S,L,P⟩
theorem B7(U:PE X a (tE X.K (run g a'))):PE X (.UnaryOp .Not a pos) (tE X.K (run g (.not a'))):=
 (zE U).imp λσ H Q J=>by
  obtain⟨ι,st,loc,S,L,P⟩:=J;rw[run] at P;obtain⟨x,st1,e1,P⟩:=aU P;obtain⟨i,B,Z,P⟩:=aU P;obtain⟨Y,rfl⟩:=bV Z;have:=b9 Y;subst this;exact a6 S L e1 λH1 ι1 v E1 S1 I=>by cases I;exact⟨i,rfl,(P.mono E1).same S1 (.bl _)⟩
theorem AZ(J:PT X a (tT X.K (run g a'))):PT X (.UnaryOp .Not a pos) (tT X.K (run g (.not a'))):=
 (zo J).imp λσ H Q I=>by obtain⟨ι,st,loc,S,L,P⟩:=I;rw[run] at P;obtain⟨x,st1,Z,P⟩:=d7 P;obtain⟨i,B,Y,P⟩:=d7 P;obtain⟨U,rfl⟩:=bV Y;have:=b9 U;subst this;exact kT S L Z λH1 ι1 E1 S1=>P H1 ι1 E1 S1
theorem Cf(ha:PE X a (tE X.K (run g a')))(Z:PE X (.BoolOp .And (b::r) pos) (tE X.K (run g b'))):PE X (.BoolOp .And (a::b::r) pos) (tE X.K (run g (.and a' b'))):=
 (zJ ha Z).imp λσ H Q Y=>by
  obtain⟨ι,st,loc,S,L,P⟩:=Y;rw[run] at P;obtain⟨x,st1,e1,P⟩:=aU P;obtain⟨i,B,e2,P⟩:=aU P;obtain⟨e3,rfl⟩:=bV e2;have:=b9 e3;subst this;refine a6 S L e1 λH1 ι1 v I J U=>?_;cases U;refine⟨i,rfl,?_⟩;cases i with
  |true=>rw[if_pos rfl];exact⟨ι1,B,loc,J,L.ext I,P.mono I⟩
  |false=>rw[if_neg aP];exact(P.mono I).same J (.bl false)
theorem Du(ha:PE X a (tE X.K (run g a')))(Z:PE X (.BoolOp .Or (b::r) pos) (tE X.K (run g b'))):PE X (.BoolOp .Or (a::b::r) pos) (tE X.K (run g (.or a' b'))):=
 (BE ha Z).imp λσ H Q Y=>by
  obtain⟨ι,st,loc,S,L,P⟩:=Y;rw[run] at P;obtain⟨x,st1,e1,P⟩:=aU P;obtain⟨i,B,e2,P⟩:=aU P;obtain⟨e3,rfl⟩:=bV e2;have:=b9 e3;subst this;refine a6 S L e1 λH1 ι1 v I J U=>?_;cases U;refine⟨i,rfl,?_⟩;cases i with
  |false=>rw[if_neg aP];exact⟨ι1,B,loc,J,L.ext I,P.mono I⟩
  |true=>rw[if_pos rfl];exact(P.mono I).same J (.bl true)
theorem xU{op:BoolOp}{t:TT}(h:PT X (.BoolOp op es pos) t):PW X (.BoolOp op es pos) t:=λB pins s σ H Q I q=>by have:=h pins s σ H Q I q;exact this
theorem A3(Z:PT X a (tT X.K (run g a')))(Y:PT X (.BoolOp .And (b::r) pos) (tT X.K (run g b'))):PT X (.BoolOp .And (a::b::r) pos) (tT X.K (run g (.and a' b'))):=
 (zk Z (xU Y)).pt.imp λσ H Q U=>by
  obtain⟨ι,st,loc,S,L,P⟩:=U;rw[run] at P;obtain⟨x,st1,e1,P⟩:=d7 P;obtain⟨i,B,e2,P⟩:=d7 P;obtain⟨e3,rfl⟩:=bV e2;have:=b9 e3;subst this;refine kT S L e1 λH1 ι1 I J=>?_;cases i with
  |true=>rw[if_pos rfl];exact⟨ι1,B,loc,J,L.ext I,P.mono I⟩
  |false=>rw[if_neg aP];exact P H1 ι1 I J
theorem CP(Z:PT X a (tT X.K (run g a')))(Y:PT X (.BoolOp .Or (b::r) pos) (tT X.K (run g b'))):PT X (.BoolOp .Or (a::b::r) pos) (tT X.K (run g (.or a' b'))):=
 (BC Z (xU Y)).pt.imp λσ H Q U=>by
  obtain⟨ι,st,loc,S,L,P⟩:=U;rw[run] at P;obtain⟨x,st1,e1,P⟩:=d7 P;obtain⟨i,B,e2,P⟩:=d7 P;obtain⟨e3,rfl⟩:=bV e2;have:=b9 e3;subst this;refine kT S L e1 λH1 ι1 I J=>?_;cases i with
  |false=>rw[if_neg aP];exact⟨ι1,B,loc,J,L.ext I,P.mono I⟩
  |true=>rw[if_pos rfl];exact P H1 ι1 I J
theorem AY{op:BoolOp}{t:TT}(B:PT X a t):PT X (.BoolOp op [a] pos) t:=by
 cases op with
 |And=>exact(wE B).pt
 |Or=>exact(zj B).pt
theorem Cc(B:X.A.units+100<cLine){op:CmpOp}(J:behindInMarks op b=false)(Y:PE X a (tE X.K (run g a')))(U:PE X b (tE X.K (run g b'))):PE X (.Compare a [op] [b] pos) (tE X.K (run g (.cmp op a' b'))):=
 (wT (ik B op) Y U J).imp λσ H Q I=>by obtain⟨ι,st,loc,S,L,P⟩:=I;rw[run] at P;exact qb ⟨ι,st,loc,S,L,P⟩
theorem pX{m:Loc->M D}{t:TE}{Q:Bool->Hp->Prop}(k:∀B,tE X.K m σ H B->t σ H B)(h:tT X.K m σ H Q):tq t σ H Q:=by
 refine k _ ?_;obtain⟨ι,st,loc,S,L,P⟩:=h;obtain⟨b,st1,e,q⟩:=P.inv;exact a6 S L e λH1 ι1 v U J I=>by cases I;exact⟨b,rfl,q H1 ι1 U J⟩
theorem A2(B:X.A.units+100<cLine){op:CmpOp}(J:behindInMarks op b=false)(Y:PE X a (tE X.K (run g a')))(U:PE X b (tE X.K (run g b'))):PT X (.Compare a [op] [b] pos) (tT X.K (run g (.cmp op a' b'))):=
 (wH (ik B op) Y U J).imp λσ H Q h=>pX (λZ I=>by obtain⟨ι,st,loc,S,L,P⟩:=I;rw[run] at P;exact qb ⟨ι,st,loc,S,L,P⟩) h
theorem np{a b c:Ex}{op B:CmpOp}(h:tE X.K (run g (.chain op B a b c)) σ H Q):oG (rD X.K (bK op)) (rD X.K (bK B)) (tE X.K (run g a)) (tE X.K (run g b)) (tE X.K (run g c)) σ H Q:=by
 obtain⟨ι,st,loc,S,L,P⟩:=h;rw[run] at P;obtain⟨x,st1,e1,P⟩:=aU P;obtain⟨y,U,e2,P⟩:=aU P;obtain⟨z,st3,e3,P⟩:=aU P;obtain⟨k,J,e4,P⟩:=aU P;obtain⟨Y,rfl⟩:=bV e4;have:=b9 Y;subst this;refine a6 S L e1 λH1 ι1 vx E1 S1 r1=>a6 S1 (L.ext E1) e2 λH2 ι2 vy E2 S2 Z=>⟨ι2,U,x,y,S2,r1.ext E2,Z,?_⟩;rw[e3];intro H3 ι3 vz E3 S3 r3;cases r3;refine⟨k,rfl,?_⟩;have E:=(E1.trans E2).trans E3;cases k with
 |true=>rw[if_pos rfl];obtain⟨w,I,Y,P⟩:=aU (show cg X.K H ι st (aZ (run g c loc) (λw=>bK B y w) J) Q from P);exact a6 S3 (L.ext E) Y λH5 ι5 vw E5 S5 r5=>⟨ι5,I,y,w,S5,(Z.ext E3).ext E5,r5,P.mono (E.trans E5)⟩
 |false=>rw[if_neg aP];exact(P.mono E).same S3 (.bl false)
theorem xy(I:X.A.units+100<cLine){op B:CmpOp}(J:behindInMarks B c=false)(Z:PE X a (tE X.K (run g a')))(Y:PE X b (tE X.K (run g b')))(U:PE X c (tE X.K (run g c'))):PE X (.Compare a [op,B] [b,c] pos) (tE X.K (run g (.chain op B a' b' c'))):=
 (uq (ik I op) (ik I B) Z Y U J).imp λσ H Q h=>np h
theorem v7(I:X.A.units+100<cLine){op B:CmpOp}(J:behindInMarks B c=false)(Z:PE X a (tE X.K (run g a')))(Y:PE X b (tE X.K (run g b')))(U:PE X c (tE X.K (run g c'))):PT X (.Compare a [op,B] [b,c] pos) (tT X.K (run g (.chain op B a' b' c'))):=
 (uc (ik I op) (ik I B) Z Y U J).imp λσ H Q h=>pX (λQ' h'=>np h') h
theorem Dv(B:X.A.units+100<cLine)(hs:dX b=true)(U:PE X a (tE X.K (run g a')))(J:PE X b (tE X.K (run g b'))):PE X (.Subscript a b pos) (tE X.K (run g (.ix a' b'))):=
 (BG (Do B) U J (λo i=>by cases b<;>first|rfl|cases hs)).imp λσ H Q I=>by obtain⟨ι,st,loc,S,L,P⟩:=I;rw[run] at P;exact qb ⟨ι,st,loc,S,L,P⟩
theorem Ap{lo hi:Option Expr}{h':Ex}{Z hh:Bool}{tl th:TO}(ha:PE X a (tE X.K (run g a')))(I:PO X lo tl)(J:PO X hi th)
  (kl:∀{H:Hp}{ι:Nat->Addr}{st st1:aW}{loc:Loc}{σ:L2.St}{o:Option Int}{Q:Option Int->Hp->Prop},Sim X.K H ι st->LRel X.K H ι st.length loc σ->(if Z=true then aZ (run g l' loc) λz=>aZ (d9 (kF z)) λi=>ret (some i) else ret none) st=R.ok o st1->
   (∀H1 ι1,Ext H H1 ι ι1 st.length st1.length->Sim X.K H1 ι1 st1->Q o H1)->tl σ H Q)
  (kh:∀{H:Hp}{ι:Nat->Addr}{st st1:aW}{loc:Loc}{σ:L2.St}{o:Option Int}{Q:Option Int->Hp->Prop},Sim X.K H ι st->LRel X.K H ι st.length loc σ->(if hh=true then aZ (run g h' loc) λz=>aZ (d9 (kF z)) λi=>ret (some i) else ret none) st=R.ok o st1->
   (∀H1 ι1,Ext H H1 ι ι1 st.length st1.length->Sim X.K H1 ι1 st1->Q o H1)->th σ H Q):PE X (.Subscript a (.Slice lo hi none p2) pos) (tE X.K (run g (.sl a' l' h' Z hh))):=
 (uk C_ ha I J).imp λσ H Q hp=>by obtain⟨ι,st,loc,S,L,P⟩:=hp;rw[run] at P;obtain⟨x,st1,e1,P⟩:=aU P;obtain⟨ol,st2,e2,P⟩:=aU P;obtain⟨oh,B,e3,P⟩:=aU P;refine a6 S L e1 λH1 ι1 vx Y S1 r1=>kl S1 (L.ext Y) e2 λH2 ι2 U S2=>kh S2 ((L.ext Y).ext U) e3 λH3 ι3 E3 S3=>⟨ι3,B,x,S3,(r1.ext U).ext E3,P.mono ((Y.trans U).trans E3)⟩
theorem ql{o:Option Int}{Q:Option Int->Hp->Prop}(S:Sim X.K H ι st)(L:LRel X.K H ι st.length loc σ)(e:(if false=true then aZ (run g l' loc) λz=>aZ (d9 (kF z)) λi=>ret (some i) else ret none) st=R.ok o st1)
  (k:∀H1 ι1,Ext H H1 ι ι1 st.length st1.length->Sim X.K H1 ι1 st1->Q o H1):pY σ H Q:=by
 rw[if_neg aP] at e;cases e;exact k H ι (Ext.refl _ _ _) S
theorem gM{o:Option Int}{Q:Option Int->Hp->Prop}(S:Sim X.K H ι st)(L:LRel X.K H ι st.length loc σ)(e:(if true=true then aZ (run g l' loc) λz=>aZ (d9 (kF z)) λi=>ret (some i) else ret none) st=R.ok o st1)
  (k:∀H1 ι1,Ext H H1 ι ι1 st.length st1.length->Sim X.K H1 ι1 st1->Q o H1):xR (tE X.K (run g l')) σ H Q:=by
 rw[if_pos rfl] at e;simp only[aZ,ret] at e;cases e1:run g l' loc st with
 |bad=>rw[e1] at e;cases e
 |ok z st2=>
  rw[e1] at e;simp only[d9] at e;cases e2:kF z with
  |none=>rw[e2] at e;cases e
  |some i=>
   rw[e2] at e;cases e;have:=uN e2;subst this;exact a6 S L e1 λH1 ι1 v J I B=>by cases B;exact⟨i,rfl,k H1 ι1 J I⟩
theorem Dw{f:Str}{as:List Expr}{xs:List Ex}(C:Ctx T g X sc N)(hg:bI sc f=true)(hi:e8 T.fns f=some i)(ha:PA X (a::as) (tA X.K (runs g xs)))(hl:(a::as).length=xs.length)
  (he:starEach (a::as) X.env=(false,eval a X.env)::starEach as X.env)(B:(backTo pos (starEach as X.env)).any (·.1)=false):PE X (.Call (.Name f p2) (a::as) [] pos) (tE X.K (run g (.fn i xs))):=by
 obtain⟨hd,ad,fd,ps,k,hm,kp,hb,Z,J,F⟩:=C.fns i f (ci hi)
 have I:Gl X f:=by show X.env.scope.names.lookup f=some .globalImplicit;rw[C.sc];simpa[bI] using hg
 refine(wU F Z I hm kp hb .nil xW ha hd he B).imp λσ H Q hp=>?_;obtain⟨ι,st,loc,S,L,P⟩:=hp;rw[run] at P;obtain⟨ds,st1,e1,P⟩:=aU P;refine jq S L e1 λH1 ι1 vs E1 S1 U=>?_;rw[List.append_nil];refine⟨?_,ι1,st1,ds,S1,U,(ga.val P).mono E1⟩;by_cases hps:ds.length=ps.length
 ·rw[<-U.length];exact hps
 ·have Y:=ga.val (E:=E0) P;rw[J ds st1 hps] at Y;exact Y.elim
theorem Dx{f:Str}{b:Bt}{as:List Expr}{xs:List Ex}(C:Ctx T g X sc N)(Z:T.calm=true)(hg:bI sc f=true)(hb:AA.lookup f=some b)(ha:PA X (a::as) (tA X.K (runs g xs)))
  (Y:starEach (a::as) X.env=(false,eval a X.env)::starEach as X.env)(I:(backTo pos (starEach as X.env)).any (·.1)=false):PE X (.Call (.Name f p2) (a::as) [] pos) (tE X.K (run g (.bt b xs))):=by
 have J:Gl X f:=by show X.env.scope.names.lookup f=some .globalImplicit;rw[C.sc];simpa[bI] using hg
 have U:∀x:Str,x∈sF->X.mg x=none:=C.blt
 have key:PE X (.Call (.Name f p2) (a::as) [] pos) (C6 (rB X.K b) (tA X.K (runs g xs))):=by
  have B:=aQ hb;have cc:fP X b.val (rB X.K b):=Ay (C.calm Z) b;simp only[AA,List.mem_cons,List.mem_nil_iff,Prod.mk.injEq,or_false] at B;rcases B with⟨rfl,rfl⟩|⟨rfl,rfl⟩|⟨rfl,rfl⟩|⟨rfl,rfl⟩|⟨rfl,rfl⟩
  ·exact jE cc J (U _ (by decide+kernel)) PySem.boot_len ha (by decide+kernel) (by decide+kernel) Y I
  all_goals first
   |exact rR cc J (U _ (by decide+kernel)) (by decide+kernel) ha (by decide+kernel) (by decide+kernel) Y I
   |exact jE cc J (U _ (by decide+kernel)) (by decide+kernel) ha (by decide+kernel) (by decide+kernel) Y I
 refine key.imp λσ H Q hp=>?_;obtain⟨ι,st,loc,S,L,P⟩:=hp;rw[run] at P;obtain⟨ds,st1,e1,P⟩:=aU P;exact jq S L e1 λH1 ι1 vs E1 S1 r1=>⟨ι1,st1,ds,S1,r1,P.mono E1⟩
end
set_option maxHeartbeats 8000000
section
variable{T:Tab}{g:fe}{X:Cx}{sc:Scope}{N:List Str}{pos:Pos}
theorem eS(C:Ctx T g X sc N)(h:eT sc scope N xs=true):CompScope X scope/\(xs++sJ scope X.N).Nodup/\(∀x∈xs,(scope.names.lookup x=some .local∨scope.names.lookup x=some .cell)/\(x==("__debug__":Str))=false/\(x==("__classdict__":Str))=false)/\∀z∈N,(vM z==("__debug__":Str))=false/\(vM z==("__classdict__":Str))=false:=by
 unfold eT at h;simp only[Bool.and_eq_true,List.all_eq_true] at h;obtain⟨⟨⟨⟨⟨h1,h2⟩,h3⟩,h4⟩,Y⟩,U⟩:=h;refine⟨⟨by simpa using h1,of_decide_eq_true h2,λy I J=>?_,λy I hf=>?_,λz B=>?_⟩,by rw[C.n];exact of_decide_eq_true h3,λx Z=>?_,λz B=>?_⟩
 ·have b:=(Y y I).1;rw[J] at b;simpa using b
 ·have c:=(Y y I).2;rw[hf] at c;show X.env.scope.names.lookup y.1=_∨X.env.scope.names.lookup y.1=_;rw[C.sc];simpa using c
 ·rw[C.n] at B;obtain⟨⟨⟨a,b⟩,_⟩,_⟩:=U z B;exact⟨λJ=>by rw[J] at a;simpa using a,of_decide_eq_true b⟩
 ·obtain⟨⟨a,b⟩,c⟩:=h4 x Z;exact⟨by simpa using a,by simpa using b,by simpa using c⟩
 ·obtain⟨⟨_,b⟩,c⟩:=U z B;exact⟨by simpa using b,by simpa using c⟩
theorem nY(C:Ctx T g X sc N)(h:eT sc scope N xs=true)(fp:List Addr)(s:Shared)(H:Hp):Ctx T g (bw X xs scope fp s H) (l0 sc scope) (xs++sJ scope N):=by
 obtain⟨h1,Y,U,J⟩:=eS C h;refine⟨?_,?_,by rw[<-C.n];exact Y,λy B=>?_,C.calm,C.un,C.fns,C.csts,C.blt,C.icl,C.mks⟩
 ·show relabel scope X.env=l0 sc scope;rw[<-C.sc];rfl
 ·show xs++sJ scope X.N=xs++sJ scope N;rw[C.n]
 ·rcases List.mem_append.mp B with B|B
  ·exact(U y B).2
  ·obtain⟨z,I,rfl⟩:=List.mem_map.mp B;split
   ·exact J z I
   ·exact C.nm z I
theorem l_{x:Str}(h:scope.names.lookup x=some .local∨scope.names.lookup x=some .cell)(fp:List Addr)(s:Shared)(H:Hp):L2.Loc (relabel scope X.env) x/\((bw X xs scope fp s H).fn x=true∨(relabel scope X.env).names.lookup x=some .local):=by
 rcases h with h|h
 ·exact⟨.inl (lookup_relabel_local h),.inr (lookup_relabel_local h)⟩
 ·exact⟨.inr (gK h),.inl (decide_eq_true h)⟩
theorem wa{k:Loc->Src->M D}(h:tE X.K (λloc=>aZ (run g s' loc) λd=>aZ (d9 (cY false d)) λs=>k loc s) σ H Q)
  (hk:∀{J:It}{s:Src}{ι ι1:Nat->Addr}{st st1:aW}{loc:Loc}{H1:Hp},cu X.K J s H1 ι1 st1.length->Ext H H1 ι ι1 st.length st1.length->Sim X.K H1 ι1 st1->LRel X.K H1 ι1 st1.length loc σ->cg X.K H ι st (k loc s st1) Q->RR J H1)
  (B:∀loc n st,(∀xs,st[n]?≠some (.lst xs))->k loc (.at n) st=.bad):BX X.K (tE X.K (run g s')) σ H RR:=by
 obtain⟨ι,st,loc,S,L,P⟩:=h;obtain⟨d,st1,e1,P⟩:=aU P;obtain⟨s,I,e2,P⟩:=aU P;obtain⟨Y,rfl⟩:=bV e2;refine a6 S L e1 λH1 ι1 v U Z r1=>?_;cases r1 with
 |tup h r=>cases Y;exact⟨_,rfl,.inr ⟨⟨_,h⟩,hk (cu.tup h r) U Z (L.ext U) P⟩⟩
 |fl h r=>cases Y;exact⟨_,rfl,.inl ⟨⟨_,h.sql⟩,hk (cu.fl h r) U Z (L.ext U) P⟩⟩
 | @ref n hn=>
  cases Y;cases q:I[n]? with
  |none=>
   rw[B loc n I (λxs z=>by rw[q] at z;cases z)] at P
   exact P.elim
  |some o=>
   cases o with
   |lst xs=>obtain⟨vs,h1,_⟩:=Z.ob n _ q;exact⟨_,rfl,.inl ⟨⟨vs,c8.of h1⟩,hk (cu.ref hn) U Z (L.ext U) P⟩⟩
   |_=>
    rw[B loc n I (λxs z=>by rw[q] at z;cases z)] at P
    exact P.elim
 |_=>cases Y
theorem wb{k:Loc->Src->M D}(h:tE X.K (λloc=>aZ (run g s' loc) λd=>aZ (d9 (cY true d)) λs=>k loc s) σ H Q)
  (Z:∀{J:It}{s:Src}{ι ι1:Nat->Addr}{st st1:aW}{loc:Loc}{H1:Hp},cu X.K J s H1 ι1 st1.length->Ext H H1 ι ι1 st.length st1.length->Sim X.K H1 ι1 st1->LRel X.K H1 ι1 st1.length loc σ->cg X.K H ι st (k loc s st1) Q->RR J H1):
  yg (tz (tE X.K (run g s')) v8) σ H RR:=by
 obtain⟨ι,st,loc,S,L,P⟩:=h;obtain⟨d,st1,e1,P⟩:=aU P;obtain⟨s,U,e2,P⟩:=aU P;obtain⟨B,rfl⟩:=bV e2;refine a6 S L e1 λH1 ι1 v I S1 Y=>?_;cases Y with
 |int j=>
  simp only[cY] at B;split at B
  ·rename_i hj;cases B;exact⟨j,rfl,by omega,by omega,Z cu.rng I S1 (L.ext I) P⟩
  ·cases B
 |_=>cases B
theorem qp(h:∀xs,st[n]?≠some (.lst xs)):c9 (.at n) i st=none:=by
 unfold c9;show(match st[n]? with|some (.lst xs)=>some xs[i]?|_=>none)=none
 cases q:st[n]? with
 |none=>rfl
 |some o=>
  cases o with
  |lst xs=>exact absurd q (h xs)
  |_=>rfl
theorem vp{f:D->M (Option D)}(n:Nat)(st:aW)(h:∀xs,st[n]?≠some (.lst xs)):cX f (.at n) st=.bad:=by
 unfold cX;split
 ·simp only[aZ,dH,qp h]
 ·rfl
def iS(g:fe)(X:Cx)(xs:List Str)(tg iter:Expr)(ifs:List Expr)(elt:Expr)(scope:Scope)(z:Ex):Prop:=
 ∃wi gg tc te,PI X tg iter wi/\(∀fp s H,PG (bw X xs scope fp s H) tg gg)/\(∀fp s H,AG (bw X xs scope fp s H) ifs tc)/\(∀fp s H,PE (bw X xs scope fp s H) elt te)/\(∀v,foldedSetIterable iter X.env v=pure v)/\∀σ H Q,tE X.K (run g z) σ H Q->p5 xs.length wi gg tc te σ H Q
theorem iS.pe(C:Ctx T g X sc N)(B:T.calm=true)(I:eT sc scope N xs=true)(h:iS g X xs tg iter ifs elt scope z):PE X (.ListComp elt [⟨tg,iter,ifs,0⟩] scope pos) (tE X.K (run g z)):=by obtain⟨J,U,tc,te,a,b,c,d,e,f⟩:=h;exact(qk (C.calm B) (eS C I).1 a b c d e).imp f
theorem iS.ps{B:Str}{U spos:Pos}(C:Ctx T g X sc N)(J:T.calm=true)(hc:eT sc scope N xs=true)(h:iS g X xs tg iter ifs elt scope z)(Y:X.N[i]? =some B)(Z:L2.Loc X.env.scope B)(hf:X.fn B=true∨X.env.scope.names.lookup B=some .local):
  PS X (.Assign [.Name B U] (.ListComp elt [⟨tg,iter,ifs,0⟩] scope pos) spos) (tF (tE X.K (run g z)) (f6 i)):=by
 obtain⟨wi,gg,tc,te,a,b,c,d,e,f⟩:=h;exact λpins s σ H D I q=>oS (C.calm J) (eS C hc).1 (by rw[C.n];exact C.nd) a b c d e Y Z hf pins s σ H D I (f _ _ _ q)
end
theorem g9{T:Tab}(h:cE T n sc N b=some x)(op:CmpOp):behindInMarks op b=false:=by
 cases n with
 |zero=>cases h
 |succ n=>cases b<;>first|rfl|cases h
theorem je{T:Tab}(h:cE T n sc N b=some x)(env:Env)(v:Value):foldedSetIterable b env v=pure v:=by
 cases n with
 |zero=>cases h
 |succ n=>cases b<;>first|rfl|cases h
theorem b6{T:Tab}(h:cE T n sc N b=some x)(es:List Expr)(env:Env):starEach (b::es) env=(false,eval b env)::starEach es env:=by
 cases n with
 |zero=>cases h
 |succ n=>cases b<;>first|rfl|cases h
theorem cu.toG{K:aD}{B:Hp}{ι0:Nat->Addr}{m0:Nat}{J:It}{s:Src}(F:cu K J s B ι0 m0):eZ K J s B ι0 m0:=λH ι st i E S=>
 ⟨(F H ι st i E S).1,λx e=>⟨((F H ι st i E S).2 x e).1,λv H' y=>by obtain⟨rfl,r⟩:=((F H ι st i E S).2 x e).2 v H' y;exact⟨Ext.refl _ _ _,S,r⟩⟩⟩
section
variable{T:Tab}{g:fe}{X:Cx}{sc scope:Scope}{N xs:List Str}
theorem An{f:D->M (Option D)}(n:Nat)(st:aW)(h:∀xs,st[n]?≠some (.lst xs)):cX f (.en n) st=.bad:=by
 have B:∀i,c9 (.en n) i st=none:=λi=>by
  unfold c9;show(match st[n]? with|some (.lst xs)=>some (xs[i]?.map λx=>D.tup [.int (i:Int),x])|_=>none)=none
  cases q:st[n]? with
  |none=>rfl
  |some o=>
   cases o with
   |lst xs=>exact absurd q (h xs)
   |_=>rfl
 unfold cX;split
 ·simp only[aZ,dH,B]
 ·rfl
theorem yN{k:Loc->Src->M D}(h:tE X.K (λloc=>aZ (run g a' loc) λd=>aZ (d9 (qQ d)) λs=>k loc s) σ H Q)
  (hk:∀{J:It}{s:Src}{ι ι1:Nat->Addr}{st st1:aW}{loc:Loc}{H1:Hp},eZ X.K J s H1 ι1 st1.length->Ext H H1 ι ι1 st.length st1.length->Sim X.K H1 ι1 st1->LRel X.K H1 ι1 st1.length loc σ->cg X.K H ι st (k loc s st1) Q->RR J H1)
  (B:∀loc n st,(∀xs,st[n]?≠some (.lst xs))->k loc (.en n) st=.bad):yh X.K (tz (tE X.K (run g a')) v8) σ H RR:=by
 obtain⟨ι,st,loc,S,L,P⟩:=h;obtain⟨d,st1,e1,P⟩:=aU P;obtain⟨s,I,e2,P⟩:=aU P;obtain⟨U,rfl⟩:=bV e2;refine a6 S L e1 λH1 ι1 v Z Y r1=>?_;cases r1 with
 | @ref n hn=>
  cases U;cases q:I[n]? with
  |none=>rw[B loc n I (λxs z=>by rw[q] at z;cases z)] at P;exact P.elim
  |some o=>
   cases o with
   |lst xs=>obtain⟨vs,h1,_⟩:=Y.ob n _ q;exact⟨_,rfl,⟨vs,c8.of h1⟩,hk (eZ.en hn) Z Y (L.ext Z) P⟩
   |_=>rw[B loc n I (λxs z=>by rw[q] at z;cases z)] at P;exact P.elim
 |_=>cases U
def gk(K:aD)(two:Bool):TG:=if two then B0 K 2 (qG (f6 0) (qG (f6 1) Ag)) else f6 0
def CO(K:aD)(g:fe)(c':Ex)(ht:Bool):TT:=if ht then tT K (run g c') else A4
theorem mL{α β:Type}{m:M α}{f:α->M β}{b:β}(e:aZ m f st=.ok b st1):∃a B,m st=.ok a B/\f a B=.ok b st1:=by
 unfold aZ at e;cases q:m st with
 |ok a B=>rw[q] at e;exact⟨a,B,rfl,e⟩
 |bad=>rw[q] at e;cases e
theorem kQ{o:Option D}{Q:Option V->Hp->Prop}(S:Sim X.K H ι st)(L:LRel X.K H ι st.length loc σ)(k:∀H1 ι1 w,Ext H H1 ι ι1 st.length st1.length->Sim X.K H1 ι1 st1->(match o,w with|some y,some z=>VRel X.K H1 ι1 st1.length y z|none,none=>True|_,_=>False)->Q w H1)
  (J:aZ (if ht then aZ (run g c' loc) λz=>d9 (g_ z) else ret true) (λk=>if k then aZ (run g e' loc) λy=>ret (some y) else ret none) st=.ok o st1):CO X.K g c' ht σ H λb U=>if b=true then tE X.K (run g e') σ U λy H4=>Q (some y) H4 else Q none U:=by
 obtain⟨b,I,e1,J⟩:=mL J
 have B:∀{Y:Hp}{ι2:Nat->Addr},b=true->Ext H Y ι ι2 st.length I.length->Sim X.K Y ι2 I->tE X.K (run g e') σ Y λy H4=>Q (some y) H4:=λ{Y ι2} hb E2 S2=>by subst hb;obtain⟨y,Z,e2,e3⟩:=mL J;cases e3;exact a6 S2 (L.ext E2) e2 λU ι5 w E5 S5 r5=>k U ι5 (some w) (E2.trans E5) S5 r5
 cases ht with
 |false=>cases e1;exact Eq.mpr (if_pos (e:=Q none H) (rfl:true=true)) (B rfl (Ext.refl _ _ _) S)
 |true=>
  obtain⟨z,Z,e2,e3⟩:=mL e1;obtain⟨e4,rfl⟩:=bV e3;have:=b9 e4;subst this;show tT X.K (run g c') σ H _;refine kT S L e2 λH1 ι1 E1 S1=>?_;cases b with
  |true=>rw[if_pos rfl];exact B rfl E1 S1
  |false=>rw[if_neg aP];cases J;exact k H1 ι1 none E1 S1 True.intro
theorem mF{H1:Hp}{ι1:Nat->Addr}(L:LRel X.K H1 ι1 st1.length loc σ):
  EltG X.K (λv H' K=>∀os:List (Option V),os.length=(if two then 2 else 1)->gk X.K two v (os++σ) H' λσ2 H3=>(∃ps:List (Option V),ps.length=(if two then 2 else 1)/\σ2=ps++σ)/\CO X.K g c' ht σ2 H3 λb Y=>if b=true then tE X.K (run g e') σ2 Y λy H4=>K (some y) H4 else K none Y) (fi (run g c') (run g e') ht two loc) H1 ι1 st1.length:=⟨by
 intro H2 ι2 st3 st4 z v o K Z U rv J k os I;obtain⟨ds,st5,B,J⟩:=mL J;cases two with
 |false=>cases B;obtain⟨o1,rfl⟩:=List.length_eq_one_iff.mp I;exact⟨⟨[some v],rfl,rfl⟩,kQ U ((L.ext Z).cons rv) k J⟩
 |true=>
  cases rv with
  | @tup _ _ vs hq rr=>
   rename_i xs;by_cases hl:xs.length=2
   ·simp only[own,if_pos hl,ret] at B;cases B;rcases ds with _|⟨a,_|⟨b,_|⟨c,r⟩⟩⟩<;>first|(simp at hl;done)|skip
    rcases os with _|⟨o1,_|⟨o2,_|⟨o3,r⟩⟩⟩<;>first|(simp at I;done)|skip
    cases rr with
    |cons ra rr=>
     cases rr with
     |cons rb rr=>cases rr;exact⟨_,_,rfl,hq,rfl,_,_,rfl,_,_,rfl,rfl,⟨[_,_],rfl,rfl⟩,kQ U (((L.ext Z).cons rb).cons ra) k J⟩
   ·simp only[own,if_neg hl] at B;cases B
  |_=>cases B⟩
theorem yJ{t:Expr}(C:Ctx T g X sc N)(B:T.calm=true)(U:eT sc scope N xs=true)(h:CN t=some (two,xs)):xs.length=(if two then 2 else 1)/\∀fp s H,PG (bw X xs scope fp s H) t (gk X.K two):=by
 obtain⟨h1,nd,I,_⟩:=eS C U;rcases nA h with⟨x,hx,h⟩|⟨_,h⟩
 ·cases h;obtain⟨_,rfl⟩:=fS hx;refine⟨rfl,λfp s H=>?_⟩;obtain⟨a,b⟩:=l_ (X:=X) (xs:=[x]) (I x (by simp)).1 fp s H
  exact dE (X:=bw X [x] scope fp s H) (i:=0) nd rfl a b
 ·obtain⟨z,J,h⟩:=map_some h;cases h;obtain⟨_,_,_,_,rfl⟩:=k5 J;refine⟨rfl,λfp s H=>?_⟩;obtain⟨a,b⟩:=l_ (X:=X) (xs:=[z.1,z.2]) (I z.1 (by simp)).1 fp s H
  obtain⟨c,d⟩:=l_ (X:=X) (xs:=[z.1,z.2]) (I z.2 (by simp)).1 fp s H
  exact zu (X:=bw X [z.1,z.2] scope fp s H) (C.calm B) (jD (dE (i:=0) nd rfl a b) (jD (dE (i:=1) nd rfl c d) qj))
theorem vd{t it:Expr}(C:Ctx T g X sc N)(hcm:T.calm=true)(hc:eT sc scope N xs=true)(Z:CN t=some (two,xs))(I:two=false->(ju sc it).1.isEn=false)(hs:PE X (ju sc it).2 (tE X.K (run g s')))(B:starEach [(ju sc it).2] X.env=[(false,eval (ju sc it).2 X.env)])(U:∀v,foldedSetIterable (ju sc it).2 X.env v=pure v)
  (Y:∀fp s H,AG (bw X xs scope fp s H) ifs (CO X.K g c' ht))(he:∀fp s H,PE (bw X xs scope fp s H) elt (tE X.K (run g e'))):iS g X xs t it ifs elt scope (.comp (ju sc it).1 two s' c' ht e'):=by
 obtain⟨hx,hg⟩:=yJ C hcm hc Z
 have gl:∀{f:Str},bI sc f=true->Gl X f:=λhq=>by show X.env.scope.names.lookup _=some .globalImplicit;rw[C.sc];simpa[bI] using hq
 unfold iS;rw[hx];unfold ju at hs B U I ⊢;cases hr:wz sc it with
 |some a=>
  rw[hr] at hs B U I;obtain⟨hq,p,q,rfl⟩:=nj hr;refine⟨_,_,_,_,kZ (gl hq) (C.blt _ (by decide+kernel)) (cq hs dM B) B,hg,Y,he,λ_=>rfl,λσ H Q hp=>?_⟩
  obtain⟨ι,st,loc,S,L,P⟩:=hp;rw[run] at P;exact wb (k:=λloc s=>cX (fi (run g c') (run g e') ht two loc) s) (Q:=Q) ⟨ι,st,loc,S,L,P⟩ (λ{J s ι ι1 st st1 loc H1} F E S1 L1 P1=>j8 (mF L1) (ym F) E S1 P1)
 |none=>
  rw[hr] at hs B U I;cases hn:uz "enumerate" sc it with
  |some a=>
   dsimp only[Option.elim] at hs B U I;rw[hn] at hs B U I;obtain⟨hq,p,q,rfl⟩:=jI hn;cases two with
   |false=>cases I rfl
   |true=>
    rcases nA Z with⟨x,_,h⟩|⟨_,h⟩
    ·cases h
    ·obtain⟨z,hz,h⟩:=map_some h;obtain⟨_,_,_,_,rfl⟩:=k5 hz;refine⟨_,_,_,_,qi (gl hq) (C.blt _ (by decide+kernel)) (cq hs dM B) B,hg,Y,he,λ_=>rfl,λσ H Q hp=>?_⟩
     obtain⟨ι,st,loc,S,L,P⟩:=hp;rw[run] at P;exact yN (k:=λloc s=>cX (fi (run g c') (run g e') ht true loc) s) (Q:=Q) ⟨ι,st,loc,S,L,P⟩ (λ{J s ι ι1 st st1 loc H1} F E S1 L1 P1=>j8 (mF L1) F E S1 P1) (λ_=>An)
  |none=>dsimp only[Option.elim] at hs B U I;rw[hn] at hs B U I;refine⟨_,_,_,_,oV hs,hg,Y,he,U,λσ H Q hp=>?_⟩;obtain⟨ι,st,loc,S,L,P⟩:=hp;rw[run] at P;exact wa (k:=λloc s=>cX (fi (run g c') (run g e') ht two loc) s) (Q:=Q) ⟨ι,st,loc,S,L,P⟩ (λ{J s ι ι1 st st1 loc H1} F E S1 L1 P1=>j8 (mF L1) (ym F) E S1 P1) (λ_=>vp)
end
end Ev
set_option maxHeartbeats 4000000
namespace L2
open PySem PySem.Spec PyProof.Rows
section
end
section
variable{X:Cx}{pos:Pos}
def B1(K:aD)(n:Nat)(t:vO):TG:=λv σ H Q=>∃a xs,v=.ref a/\fV K H a xs/\xs.length=n/\t xs σ H Q
theorem oW{es:List Expr}{k:Nat}{t:vO}{n:Nat}(hc:X.calm=true)(h:AN X es t)
  (Z:(assignEach es X.env).length=n)(J:(assignEach es X.env).findIdx? (·.1)=none):PG X (.Tuple es k pos) (B1 X.K n t):=by
 intro pins s σ H v u Q I r B;obtain⟨a,xs,e1,Y,hl,B⟩:=B;subst e1;cases r;obtain⟨its,rv,ht,hz⟩:=I.tuple Y;refine assign_Tuple_tuple (I.ok.hd hc) ht (by simp[Z,<-hl,rv.length]) J λh' U=>?_
 have I1:Inv X pins σ H {s with heap:=h'}:=I.kept (t':=s.toks) λb o e=>U b o (aC (am e)) e;exact h pins _ σ H xs _ Q I1 (by simpa using rv) B
end
end L2
namespace PySem.W
open PySem PySem.Calls PyProof.Rows Tab23
theorem lV{prog:Program}{w:World}{A:Around}{E:Value->Shared->Prop}{s:Shared}{K:Type}[DecidableEq K]{knd:PySem.KeyKind prog w K}{r d:Addr}{ep:Nat}{Q:Value->Shared->Prop}(Z:A.handled=none)(J:s.heap.IsItemsView r d)(U:s.heap.DictAt knd d ([]:List (K×Value)) ep)
  (h:∀(h':Heap)(tk:Nat)(D:Addr)(out:Array Value)(c:Nat),(∀b o,s.heap.get? b=some o->h'.get? b=some o)->s.heap.get? D=none->h'.get? D=some (seqObj "list" out c)->IntsAre out.toList []->Q (.ref D) {s with heap:=h',toks:=tk}):
  wpAny (model prog w) A (call (.builtin "sorted") [.ref r]) Q E s:=by
 refine call_function_entry kind_sorted plain_sorted entry_sorted (args_sorted1 _) ?_;unfold Builtin.«sorted»;refine aa (m:=checkCount "sorted" 1 1 _) (af (aa (kdx_collect (A:=A.in1) Z J U (Nat.zero_le _) λh' tk as B Y hG=>?_)));obtain rfl:as=[]:=List.eq_nil_of_length_eq_zero Y;refine aa (wpAny_newList ?_ (Nat.zero_le _));have ho:(h'.push (seqObj "list" ([]:List Value).toArray 0)).get? h'.objs.size=some (seqObj "list" ([]:List Value).toArray 0):=aw _ rfl;refine aa (wpAny_holding (wpAny_call_entry slot_list_sort ⟨_,ho,rfl⟩ entry_list_sort (list_sort_tree (ns:=[]) ho .nil (by decide) λout I a1 a2 a3=>⟨_,rfl,?_⟩) (args_list_sort _)))
 obtain⟨c,hc⟩:=sortedHeap_at (out:=out) ho
 have hb:s.heap.get? h'.objs.size=none:=by
  cases e:s.heap.get? h'.objs.size with
  |none=>rfl
  |some o=>exact absurd (am (B _ _ e)) (a9 _)
 refine af ⟨_,rfl,h _ tk h'.objs.size out c (λb o q=>?_) hb hc (by rw[show([]:List Int)=I from(List.Perm.eq_nil a2).symm];exact a1)⟩
 have q2:=B b o q;rw[sortedHeap_old (aC (am q2)) (by rw[Heap.size_push];exact Nat.lt_succ_of_lt (am q2))]
 exact ah _ q2
end PySem.W
namespace L2
open PySem PySem.Spec PyProof.Rows Tab23
def CT(td:TE):TE:=λσ H Q=>td σ H λx H1=>∃(a:Addr)(kvs:List (Key×V)),x=.ref a/\H1 a=some (.dK kvs)/\kvs=[]/\∀p,H1 p=none->Q (.ref p) (upd H1 p (.lst []))
theorem zB{X:Cx}{o:Expr}{td:TE}{p1 q1 ap cp:Pos}(hc:X.calm=true)(hg:Gl X "sorted")(hm:X.mg "sorted"=none)(ho:PE X o td)(hb:attributeBase o "items" X.env (eval o X.env)=eval o X.env)(hl:(ap.endLine==cp.line)=true):
  PE X (.Call (.Name "sorted" p1) [.Call (.Attribute o "items" ap) [] [] cp] [] q1) (CT td):=by
 intro pins s σ H Q I h;refine wpAny_Call_Name_kw (ez I hg hm boot_sorted ?_);refine PyProof.Rows.callWith_builtin1 ?_ rfl rfl;show wpAny _ _ (spliced ((false,eval (.Call (.Attribute o "items" ap) [] [] cp) X.env)::backTo q1 (starEach [] X.env))) _ _ s;refine Calls.spliced_cons ?_;refine wpAny_Call_method0_late hb hl (bL (ho pins s σ H _ I h) λv Z hp=>?_);obtain⟨x,H1,U,r1,a,kvs,ex,hd,hk,q1⟩:=hp;subst hk;subst ex;obtain rfl:v=Value.ref a:=r1;obtain⟨z,hs,vs,rel,dd⟩:=j5 U.hok hd;obtain⟨Y,t2,_⟩:=eE U (.inl ⟨_,.inl hd⟩);refine⟨"dict","dict.items",PySem.F.plainAttrs_dict,PySem.F.slot_dict_items,PySem.F.type_dict_items,Y,t2,Calls.callWith_builtin rfl (PySem.evalArgs_none ?_)⟩;refine call_meetsIn PySem.F.slot_dict_items Y PySem.F.entry_dict_items (PySem.F.args_dict_items_1 _) (meets_dict_items (bd X.prog X.w) a hs) ⟨⟨vs,dd⟩,?_⟩;refine Calls.spliced_nil ?_;cases rel;obtain⟨ep,J⟩:=(dd.push {cls:= .type "dict_items",data:= .fields #[.ref a]}).dictAt
 exact PySem.W.lV (I.ok.hd hc) ⟨_,aw _ rfl,rfl,rfl⟩ J λh' tk D out c kk hD B hi=>by
  show EP X pins σ Q (.ref D) {Z with heap:=h',toks:=tk};refine fT (tk:=tk) U (λb u e=>kk b u (ah _ e)) ?_ B hi (by decide) q1
  cases z:Z.heap.get? D with
  |none=>rfl
  |some o=>exact nomatch (ah _ z).symm.trans hD
end L2
set_option maxHeartbeats 8000000
namespace Ev
open PySem PySem.Spec PyProof.Rows L2
variable{c f m t x:Str}{a b e o:Expr}{ap cp pos:Pos}{a' b' o':Ex}{ι:Nat->Addr}{j n:Nat}{xs:List Ex}{g:fe}
section
variable{T:Tab}{g:fe}{X:Cx}{sc:Scope}{N:List Str}{pos:Pos}
theorem iN(C:Ctx T g X sc N)(h:bI sc x=true):Gl X x:=by show X.env.scope.names.lookup _=some .globalImplicit;rw[C.sc];simpa[bI] using h
theorem cr(B:eB o=true)(m:Str)(env:Env):attributeBase o m env (eval o env)=eval o env:=by
 cases o with
 |Name=>rfl
 |Attribute=>rfl
 |Subscript=>rfl
 |Call f as ks p=>
  cases f with
  |Attribute=>rfl
  |Name=>
   cases as with
   |nil=>cases B
   |cons=>rfl
  |_=>cases B
 |_=>cases B
theorem Ar{kp:Pos}{k:Nat}(J:nG m=true)(hl:(ap.endLine==cp.line)=true)(hb:attributeBase o m X.env (eval o X.env)=eval o X.env)(ho:PE X o (tE X.K (run g o'))):
  PE X (.Call (.Attribute o m ap) [.Constant (.int 0) k kp] [] cp) (tE X.K (run g (.pop o' true))):=by
 have J:m= "pop":=by simpa[nG] using J
 subst J;refine(ut PySem.F.plainAttrs_list PySem.F.slot_list_pop PySem.F.type_list_pop uA ho (cq l8 dM rfl) hb rfl hl rfl rfl).imp λσ H Q hp=>?_;obtain⟨ι,st,loc,S,L,P⟩:=hp;rw[run] at P;obtain⟨x,st1,e1,P⟩:=aU P;refine a6 S L e1 λH1 ι1 v E1 S1 r1=>?_;unfold uh at P;split at P
 ·rename_i n;split at P
  ·rename_i xs q;split at P
   ·rename_i y U;cases r1 with
    |ref hn=>
     obtain⟨vs,g1,Z⟩:=S1.ob _ _ q;rw[if_pos rfl] at U P;obtain⟨u,Y,ru⟩:=Z.get U;have B:0<vs.length:=(av Y).1;have hd:=Z.drop 1;obtain⟨E4,S4⟩:=S1.write q hd;have I:Ext H1 (upd H1 (ι1 n) (.lst (vs.drop 1))) ι1 ι1 st1.length (st1.set n (O.lst (xs.drop 1))).length:=by rw[au];exact E4
     refine⟨.inl ⟨rfl,vs,c8.of g1⟩,_,vs,0,0,u,rfl,rfl,g1,by decide,by decide,?_,Y,?_⟩
     ·simp[seqIndex?,B]
     ·have z:=P _ ι1 _ (E1.trans I) S4 (ru.ext I);rw[List.drop_one] at z;rw[List.eraseIdx_zero];exact z
   ·exact P.elim
  ·exact P.elim
 ·exact P.elim
theorem VRels.dropLast{K:aD}{H:Hp}{m:Nat}{ds:List D}{vs:List V}(r:VRels K H ι m ds vs):VRels K H ι m ds.dropLast vs.dropLast:=by rw[List.dropLast_eq_take,List.dropLast_eq_take,<-r.length];exact r.take _
theorem Aq(I:nG m=true)(hl:(ap.endLine==cp.line)=true)(hb:attributeBase o m X.env (eval o X.env)=eval o X.env)(ho:PE X o (tE X.K (run g o'))):
  PE X (.Call (.Attribute o m ap) [] [] cp) (tE X.K (run g (.pop o' false))):=by
 have I:m= "pop":=by simpa[nG] using I
 subst I;refine(ur PySem.F.plainAttrs_list PySem.F.slot_list_pop PySem.F.type_list_pop zT ho hb hl).imp λσ H Q hp=>?_;obtain⟨ι,st,loc,S,L,P⟩:=hp;rw[run] at P;obtain⟨x,st1,e1,P⟩:=aU P;refine a6 S L e1 λH1 ι1 v E1 Z r1=>?_;unfold uh at P;split at P
 ·rename_i n;split at P
  ·rename_i xs q;split at P
   ·rename_i y U;rw[if_neg (by decide)] at U P
    cases r1 with
    |ref hn=>
     obtain⟨vs,Y,J⟩:=Z.ob _ _ q;obtain⟨u,hu,ru⟩:=J.get U;obtain⟨E4,S4⟩:=Z.write q J.dropLast;have B:Ext H1 (upd H1 (ι1 n) (.lst vs.dropLast)) ι1 ι1 st1.length (st1.set n (O.lst xs.dropLast)).length:=by rw[au];exact E4
     exact⟨.inl ⟨rfl,vs,c8.of Y⟩,_,vs,u,rfl,rfl,Y,by rw[<-J.length];exact hu,P _ ι1 _ (E1.trans B) S4 (ru.ext B)⟩
   ·exact P.elim
  ·exact P.elim
 ·exact P.elim
theorem xw{k v:Expr}{k' v':Ex}(hk:PE X k (tE X.K (run g k')))(hv:PE X v (tE X.K (run g v'))):PE X (.Dict [some k] [v] pos) (tE X.K (run g (.dict1 k' v'))):=by
 refine(wS (ug hk hv wL) rfl rfl (by simp) (by simp)).imp λσ H Q J=>?_
 obtain⟨ι,st,loc,S,L,P⟩:=J;intro p J;rw[run] at P;obtain⟨x,st1,e1,P⟩:=aU P;obtain⟨y,B,e2,P⟩:=aU P;have E0:Ext H (upd H p (.dK [])) ι ι st.length st.length:=⟨⟨ac _,λ_ _=>rfl,λb ys e=>by rw[aG (aH e J)];exact e,λb U u e=>by rw[aG (aH e J)];exact e⟩,λb U e k=>⟨by rw[aG (aH e J)];exact e,k⟩⟩
 have hap:∀n,n<st.length->ι n≠p:=λn I=>by obtain⟨_,h,_⟩:=S.obj I;exact aH h J
 have S0:Sim X.K (upd H p (.dK [])) ι st:=by refine⟨S.inj,λn o e=>?_⟩;have I:n<st.length:=(av e).1;have old:=S.ob n o e;exact old.move E0.toExt0 (aG (hap n I))
 refine a6 S0 (L.ext E0) e1 λH3 ι3 u E3 S3 r3=>a6 S3 ((L.ext E0).ext E3) e2 λH1 ι1 w E4 S1 r1=>?_;have E1:=E3.trans E4;obtain⟨Y,ap1⟩:=E1.fr p _ bf hap;unfold vg at P;split at P
 ·rename_i kk hkk;have hu:=eA hkk r3;subst hu;refine⟨Y,[(kk,w)],rfl,by simp,?_⟩
  have E2:Ext0 H1 (upd H1 p (.dK [(kk,w)])) ι1 ι1 B.length B.length:=⟨ac _,λ_ _=>rfl,λb ys e=>by rw[aG (b7 e Y (by intro z;cases z))];exact e,λb U u e=>by rw[aG (b7 e Y (by intro z;cases z))];exact e⟩
  have S2:Sim X.K (upd H1 p (.dK [(kk,w)])) ι1 B:=by refine⟨S1.inj,λn o e=>?_⟩;have I:n<B.length:=(av e).1;have old:=S1.ob n o e;exact old.move E2 (aG (ap1 n I))
  obtain⟨ι',g1,g2,g3⟩:=S2.addD bf ap1 (.cons (k:=kk) (r1.ext0 E2) .nil);have l:(B++[O.dct [(kk,y)]]).length=B.length+1:=by simp
  refine P _ ι' (.ref p) ?_ g3 ?_
  ·rw[l];have Z:=E0.trans E1;refine⟨⟨Nat.le_succ_of_le Z.le,λn I=>(g1 n (aA I Z.le)).trans (Z.ad n I),λb ys e=>E2.tp b ys (Z.tp b ys e),λb U u e=>E2.fz b U u (Z.fz b U u e)⟩,λb U e k=>?_⟩;obtain⟨g4,g5⟩:=Z.fr b U e k;refine⟨by rw[aG (aH e J)];exact g4,λn I=>?_⟩
   by_cases hn':n=B.length
   ·rw[hn',g2];exact(aH e J).symm
   ·rw[g1 n (by omega)];exact g5 n (by omega)
  ·rw[<-g2,l];exact .ref (aO _)
 ·exact P.elim
end
section
variable{T:Tab}{g:fe}{X:Cx}{sc:Scope}{N:List Str}{pos p2:Pos}
theorem FRels.look_none{K:aD}{H:Hp}{m:Nat}{ds:List (Str×D)}{vs:List (Str×V)}(h:FRels K H ι m ds vs)(e:ds.lookup f=none):vs.lookup f=none:=by
 induction h with
 |nil=>rfl
 | @cons k d' v ds vs h t ih=>
  rw[List.lookup_cons] at e ⊢;cases q:f==k with
  |true=>rw[q] at e;cases e
  |false=>rw[q] at e;exact ih e
theorem qv(h:c∈T.ics f):∃B∈T.icl,B.x=c/\f∈B.flds:=by obtain⟨p,I,rfl⟩:=List.mem_map.mp h;obtain⟨h1,J⟩:=List.mem_filter.mp I;exact⟨p,h1,rfl,List.contains_iff_mem.mp J⟩
theorem w6(h:(T.ims m).lookup c=some j):∃B∈T.icl,B.x=c/\(m,j)∈B.mts:=by
 obtain⟨B,h1,I⟩:=List.mem_filterMap.mp (aQ h);cases q:B.mts.lookup m with
 |none=>rw[q] at I;cases I
 |some i=>rw[q] at I;cases I;exact⟨B,h1,rfl,aQ q⟩
theorem Ca(C:Ctx T g X sc N)(hb:attributeBase o f X.env (eval o X.env)=eval o X.env)(ho:PE X o (tE X.K (run g o'))):PE X (.Attribute o f pos) (tE X.K (run g (.fld o' f [] (T.ics f)))):=by
 refine(zH ho hb).imp λσ H Q hp=>?_;obtain⟨ι,st,loc,S,L,P⟩:=hp;rw[run] at P;obtain⟨x,st1,e1,P⟩:=aU P;unfold Aj at P;split at P
 ·rename_i n;split at P
  ·rename_i c fs q;split at P
   ·rename_i d hl;split at P
    ·rename_i hc;obtain⟨ic,hi,rfl,hf⟩:=qv hc;obtain⟨C0,Y,cl,na,_⟩:=C.icl ic hi;refine a6 S L e1 λH1 ι1 v E1 J U=>?_;cases U with
     |ref hn=>obtain⟨C1,dx,vs,I,h1,h2,_⟩:=J.ob n _ q;rw[Y] at I;cases I;obtain⟨w,Z,B⟩:=h2.look hl;exact⟨_,C0,dx,vs,w,rfl,h1,cl,na f hf,Z,(P.mono E1).same J B⟩
    ·exact P.elim
   ·exact P.elim
  ·exact P.elim
 ·exact P.elim
theorem Sim.aside{K:aD}{H:Hp}{st:aW}(S:Sim K H ι st){p:Addr}(B:H p=none)(ho:HO):Ext H (upd H p ho) ι ι st.length st.length/\Sim K (upd H p ho) ι st:=by
 have E:Ext H (upd H p ho) ι ι st.length st.length:=⟨⟨ac _,λ_ _=>rfl,λb xs e=>by rw[aG (aH e B)];exact e,λb I u e=>by rw[aG (aH e B)];exact e⟩,λb I e k=>⟨by rw[aG (aH e B)];exact e,k⟩⟩
 exact⟨E,S.inj,λn o e=>(S.ob n o e).move E.toExt0 (aG (by obtain⟨_,h,_⟩:=S.obj (av e).1;exact aH h B))⟩
theorem B8{as:List Expr}(C:Ctx T g X sc N)(hg:bI sc x=true)(hi:T.mks.lookup x=some j)(ha:PA X (a::as) (tA X.K (runs g xs)))
  (he:starEach (a::as) X.env=(false,eval a X.env)::starEach as X.env)(Y:(backTo pos (starEach as X.env)).any (·.1)=false):PE X (.Call (.Name x p2) (a::as) [] pos) (tE X.K (run g (.new x j xs))):=by
 obtain⟨hd,C0,ad,fd,ps,k,hn,hm,mk,hb,hr,har,F⟩:=C.mks x j (aQ hi);refine(wQ mk F hr (iN C hg) hm hb .nil xW ha hd he Y).imp λσ H Q hp=>?_;obtain⟨ι,st,loc,S,L,P⟩:=hp;rw[run] at P;obtain⟨ds,st1,e1,P⟩:=aU P;refine jq S L e1 λH1 ι1 vs E1 S1 r1 B dx hx hdx Z=>?_;rw[List.append_nil];unfold uC at P;obtain⟨r,J,e2,P⟩:=aU P;obtain⟨E2,S2⟩:=S1.aside hdx (.own B);have U:upd H1 dx (.own B) B=none:=by rw[aG Z.symm];exact hx
 obtain⟨ι2,E3,e3,S3⟩:=S2.laid (o:= .ins x []) (ho:= .ins C0 dx []) U (λι' h1 h2=>⟨C0,dx,[],hn,bf,.nil,by decide⟩)
 have l:(st1++[O.ins x []]).length=st1.length+1:=by simp
 have rr:VRels X.K (upd (upd H1 dx (.own B)) B (.ins C0 dx [])) ι2 (st1++[O.ins x []]).length (.ref st1.length::ds) (.ref B::vs):=by rw[l];refine .cons ?_ (r1.ext (E2.trans E3));rw[<-e3];exact .ref (aO _)
 have I:(V.ref B::vs).length=ps.length:=by
  rw[<-rr.length];by_cases hps:(D.ref st1.length::ds).length=ps.length
  ·exact hps
  ·rw[har _ _ hps] at e2;cases e2
 refine⟨I,ι2,_,_,S3,rr,?_⟩;rw[e2];cases r with
 |x n=>exact P.elim
 |v d=>
  cases d with
  |non=>
   intro H' ι' v E' S' rv;cases rv;have E4:Ext H H' ι ι' st.length J.length:=((E1.trans E2).trans (by rw[<-l] at E3;exact E3)).trans E'
   refine⟨rfl,P H' ι' _ E4 S' ?_⟩;have e4:ι' st1.length=B:=(E'.ad _ (by rw[l];exact aO _)).trans e3
   rw[<-e4];have:=E'.le;rw[l] at this;exact .ref this
  |_=>exact P.elim
theorem qt{t:TA}{x:D}{loc:Loc}{σ:L2.St}{H H1:Hp}{ι1:Nat->Addr}{st st1:aW}{v:V}{Q:VK}(C:Ctx T g X sc N)(S1:Sim X.K H1 ι1 st1)(L:LRel X.K H ι st.length loc σ)(E1:Ext H H1 ι ι1 st.length st1.length)(Z:VRel X.K H1 ι1 st1.length x v)
  (P:cg X.K H ι st (aZ (qu m (T.ims m) x) (λj=>aZ (runs g xs loc) λds=>aZ (g j (x::ds)) λr=>d9 r.val?) st1) Q)
  (ht:∀Q':List V->Hp->Prop,tA X.K (runs g xs) σ H1 Q'->t σ H1 Q'):
  ∃a C dx fs f k fd ps sp,v=.ref a/\H1 a=some (.ins C dx fs)/\fs.lookup m=none/\Cls X.K C/\Meth X.K C m f/\FnOk X.prog X.w X.K X.mg X.base (oq X.prog X.w) k f fd ps sp/\Room k X.A/\Binds X.K fd ps []/\t σ H1 λvs U=>∀E:XK,sp (.ref a::vs) U Q E:=by
 obtain⟨j,st2,B,P2⟩:=aU P;obtain⟨ds,I,e3,P3⟩:=aU P2;unfold qu at B;cases x with
 |ref nn=>
  dsimp only at B;split at B
  ·rename_i c fs q;split at B
   ·rename_i i hl hj;cases B;obtain⟨ic,hi,rfl,hm⟩:=w6 hj;obtain⟨C0,n0,cl,na,ms⟩:=C.icl ic hi;obtain⟨a,fd,ps,k,M,hb,hr,J,F⟩:=ms m _ hm;have rr:=Z;cases Z with
    |ref hn=>
     obtain⟨C1,dx,vs,n1,h1,h2,_⟩:=S1.ob nn _ q;rw[n0] at n1;cases n1;refine⟨_,C0,dx,vs,a,k,fd,ps,_,rfl,h1,h2.look_none hl,cl,M,F,hr,hb,ht _ (jq S1 (L.ext E1) e3 λU ι2 ws E2 S2 r2 E=>?_)⟩;have Y:VRels X.K U ι2 I.length (.ref nn::ds) (.ref (ι1 nn)::ws):= .cons (rr.ext E2) r2;refine⟨?_,ι2,I,_,S2,Y,(ga.val P3).mono (E1.trans E2)⟩;rw[<-Y.length];by_cases hps:(D.ref nn::ds).length=ps.length
     ·exact hps
     ·have P4:=ga.val (E:=E) P3;rw[J _ _ hps] at P4;exact P4.elim
   ·cases B
  ·cases B
 |_=>cases B
theorem Al{as:List Expr}(B:(backTo pos (starEach as X.env)).any (·.1)=false)(Y:as.length<29):methodCallForm (as.length+([]:List Keyword).length) (backTo pos (starEach as X.env)) (backToKw pos (keywordEach [] X.env))=true:=by
 unfold methodCallForm
 have h1:(backTo pos (starEach as X.env)).all (!·.1)=true:=by
  rw[List.all_eq_true];intro p I;cases q:p.1 with
  |false=>rfl
  |true=>have:=List.any_eq_false.mp B p I;rw[q] at this;exact absurd rfl this
 rw[h1];have U:(backToKw pos (keywordEach [] X.env)).all (·.1.isSome)=true:=rfl;have J:(backToKw pos (keywordEach [] X.env)).isEmpty=true:=rfl;rw[U,J];simp only[Bool.and_self,Bool.true_and,List.length_nil,Nat.add_zero,if_true,decide_eq_true_eq];omega
theorem As{as:List Expr}(C:Ctx T g X sc N)(Z:(ap.endLine==pos.line)=true)(U:(a::as).length<29)(hb:attributeBase o m X.env (eval o X.env)=eval o X.env)(ho:PE X o (tE X.K (run g o')))(ha:PA X (a::as) (tA X.K (runs g xs)))
  (he:starEach (a::as) X.env=(false,eval a X.env)::starEach as X.env)(I:(backTo pos (starEach as X.env)).any (·.1)=false)(B:(backTo pos (starEach (a::as) X.env)).any (·.1)=false):PE X (.Call (.Attribute o m ap) (a::as) [] pos) (tE X.K (run g (.meth o' m (T.ims m) xs))):=by
 refine(ul ho hb Z (Al B U) ha he I).imp λσ H Q Y=>?_;obtain⟨ι,st,loc,S,L,P⟩:=Y;rw[run] at P;obtain⟨x,st1,e1,P⟩:=aU P;exact a6 S L e1 λH1 ι1 v E1 S1 J=>qt C S1 L E1 J P λ_ h=>h
theorem xv(C:Ctx T g X sc N)(Y:(ap.endLine==pos.line)=true)(Z:attributeBase o m X.env (eval o X.env)=eval o X.env)(ho:PE X o (tE X.K (run g o'))):PE X (.Call (.Attribute o m ap) [] [] pos) (tE X.K (run g (.meth o' m (T.ims m) []))):=by refine(rQ ho Z Y).imp λσ H Q U=>?_;obtain⟨ι,st,loc,S,L,P⟩:=U;rw[run] at P;obtain⟨x,st1,e1,P⟩:=aU P;refine a6 S L e1 λH1 ι1 v E1 S1 J=>qt C S1 L E1 J P λQ' h=>?_;obtain⟨ι2,I,loc2,S2,L2',B⟩:=h;rw[runs] at B;exact B H1 ι2 [] (Ext.refl _ _ _) S2 .nil
theorem v0{I:Bool}(h:v6.lookup t=some I):bootBuiltins t=some (.type (if I then "tuple" else "list"))/\t≠ "__name__" /\(t==("__debug__":Str))=false/\t∈sF:=by
 have B:=aQ h;simp only[v6,List.mem_cons,List.mem_nil_iff,Prod.mk.injEq,or_false] at B;rcases B with⟨rfl,rfl⟩|⟨rfl,rfl⟩<;>exact⟨by decide+kernel,by decide+kernel,by decide+kernel,by decide+kernel⟩
theorem B_{J:Bool}{p3:Pos}(C:Ctx T g X sc N)(hg:bI sc "isinstance"=true)(Z:bI sc t=true)(ht:v6.lookup t=some J)(ha:PE X a (tE X.K (run g a')))
  (he:starEach [a,.Name t p3] X.env=(false,eval a X.env)::starEach [.Name t p3] X.env):PE X (.Call (.Name "isinstance" p2) [a,.Name t p3] [] pos) (tE X.K (run g (.isi a' J))):=by
 obtain⟨b1,b2,b3,b4⟩:=v0 ht
 have cc:fP X (.builtin "isinstance") (λvs H Q=>∃b ys,vs=[.ref b,.ty (if J then "tuple" else "list")]/\(if J=true then fV X.K H b ys else c8 X.K H b ys)/\Q (.bl true) H):=by
  intro pins s σ H vs us Q I r h;obtain⟨b,ys,rfl,e,q⟩:=h;cases r with
  |cons U r2=>
   cases r2 with
   |cons r2 r3=>
    cases r3;cases U;cases r2;have fin0:EP X pins σ Q (.bool true) s:=⟨.bl true,H,I,rfl,q⟩;cases J with
    |true=>rw[if_pos rfl] at e;obtain⟨_,_,⟨o,h1,h2,_⟩,_⟩:=I.tuple e;exact IsiPair.tuple_tuple h1 h2 fin0
    |false=>
     rw[if_neg (by decide)] at e
     obtain⟨_,_,p,_⟩:=I.list e;obtain⟨o,h1,h2,_⟩:=p.isList;exact IsiPair.list_list h1 h2 fin0
 have Y:PE X (.Name t p3) (tC (.ty (if J then "tuple" else "list"))):=wV (iN C Z) (C.blt t b4) b1 rfl b2 b3
 refine(jE cc (iN C hg) (C.blt _ (by decide+kernel)) (by decide+kernel) (cq ha (cq Y dM) he) (by decide+kernel) (by decide+kernel) he rfl).imp λσ H Q hp=>?_
 obtain⟨ι,st,loc,S,L,P⟩:=hp;rw[run] at P;obtain⟨x,st1,e1,P⟩:=aU P;refine a6 S L e1 λH1 ι1 v E1 S1 U=>?_;unfold z6 at P;split at P
 ·split at P
  ·rename_i B;cases U with
   |tup hq rr=>exact⟨_,_,rfl,by rw[if_pos B];exact hq,(P.mono E1).same S1 (.bl true)⟩
  ·exact P.elim
 ·split at P
  ·rename_i xs q;split at P
   ·exact P.elim
   ·rename_i B;cases U with
    |ref hn=>
     obtain⟨vs,g1,g2⟩:=S1.ob _ _ q;exact⟨_,vs,rfl,by rw[if_neg B];exact c8.of g1,(P.mono E1).same S1 (.bl true)⟩
  ·exact P.elim
 ·exact P.elim
end
theorem c_{st:aW}{x:D}{kvs:List (Key×D)}(h:c5 st x=some kvs):∃n,x=.ref n/\st[n]? =some (.dct kvs):=by
 cases x with
 |ref n=>
  unfold c5 at h;dsimp only at h;split at h
  ·cases h;exact⟨n,rfl,by assumption⟩
  ·cases h
 |_=>cases h
section
variable{T:Tab}{g:fe}{X:Cx}{sc:Scope}{N:List Str}{p1 p2 q1 q2 ap cp:Pos}
theorem B5(C:Ctx T g X sc N)(B:T.calm=true)(hg:bI sc "sorted"=true)(I:(ap.endLine==cp.line)=true)(hb:attributeBase o "items" X.env (eval o X.env)=eval o X.env)(ho:PE X o (tE X.K (run g o'))):
  PE X (.Call (.Name "sorted" p1) [.Call (.Attribute o "items" ap) [] [] cp] [] q1) (tE X.K (run g (.sit o'))):=by
 refine(zB (C.calm B) (iN C hg) (C.blt _ (by decide+kernel)) ho hb I).imp λσ H Q Y=>?_
 obtain⟨ι,st,loc,S,L,P⟩:=Y;rw[run] at P;obtain⟨x,st1,e1,P⟩:=aU P;refine a6 S L e1 λH1 ι1 v E1 J U=>?_;unfold yP at P;split at P
 ·rename_i kvs hk;obtain⟨n,rfl,Z⟩:=c_ hk;split at P
  ·rename_i hc;cases U with
   |ref I=>
    obtain⟨vs,g1,g2⟩:=J.ob _ _ Z;have ll:=g2.length;exact⟨_,vs,rfl,g1,List.eq_nil_of_length_eq_zero (by omega),cg.alloc J (P.mono E1) .nil⟩
  ·exact P.elim
 ·exact P.elim
theorem Au(C:Ctx T g X sc N)(hl:(ap.endLine==cp.line)=true)(hb:attributeBase o "get" X.env (eval o X.env)=eval o X.env)(h1:starEach [a,b] X.env=(false,eval a X.env)::starEach [b] X.env)(h2:starEach [b] X.env=[(false,eval b X.env)])
  (ho:PE X o (tE X.K (run g o')))(ha:PE X a (tE X.K (run g a')))(hbb:PE X b (tE X.K (run g b'))):PE X (.Call (.Attribute o "get" ap) [a,b] [] cp) (tE X.K (run g (.dget o' a' b'))):=by
 refine(um (by have:=C.un;omega) ho ha hbb ⟨hb,by rw[h1,h2];rfl,hl,by rw[h1,h2];rfl⟩).imp λσ H Q hp=>?_
 obtain⟨ι,st,loc,S,L,P⟩:=hp;rw[run] at P;obtain⟨x,st1,e1,P⟩:=aU P;obtain⟨_,st2,I,P⟩:=aU P;obtain⟨k,st3,e3,P⟩:=aU P;obtain⟨z,st4,e4,B⟩:=aU P;unfold gY at I;split at I
 ·rename_i kv0 hk0;cases I;obtain⟨n,rfl,hn⟩:=c_ hk0;refine a6 S L e1 λH1 ι1 v E1 S1 r1=>?_;have r1':=r1;cases r1 with
  |ref hlt=>
   obtain⟨vs,g1,g2⟩:=S1.ob _ _ hn;refine⟨_,rfl,.inl ⟨vs,.inl g1⟩,a6 S1 (L.ext E1) e3 λH2 ι2 u E2 S2 r2=>a6 S2 ((L.ext E1).ext E2) e4 λH3 ι3 w E3 S3 r3=>?_⟩;have E4:=E2.trans E3;have E5:=E1.trans E4;unfold vi at B;split at B
   ·rename_i kvs hk;obtain⟨n',e,Y⟩:=c_ hk;cases e;obtain⟨ws,k1,k2⟩:=S3.ob _ _ Y;rw[E4.ad n hlt] at k1;split at B
    ·rename_i U Z;have e:=eA Z (r2.ext E3);subst e;refine⟨_,fW.k (k:=U) k1,?_⟩;have l:=k2.look (k:=U);cases q:bB kvs U with
     |none=>rw[q] at l B;rw[l];exact(B.mono E5).same S3 r3
     |some d=>rw[q] at l B;obtain⟨w',hw,J⟩:=l;rw[hw];exact(B.mono E5).same S3 J
    ·exact B.elim
   ·exact B.elim
 ·cases I
theorem B6(C:Ctx T g X sc N)(hl:(ap.endLine==cp.line)=true)(hb:attributeBase o "setdefault" X.env (eval o X.env)=eval o X.env)(h1:starEach [a,b] X.env=(false,eval a X.env)::starEach [b] X.env)(h2:starEach [b] X.env=[(false,eval b X.env)])
  (ho:PE X o (tE X.K (run g o')))(ha:PE X a (tE X.K (run g a')))(hbb:PE X b (tE X.K (run g b'))):PE X (.Call (.Attribute o "setdefault" ap) [a,b] [] cp) (tE X.K (run g (.sde o' a' b'))):=by
 refine(zI ho ha hbb ⟨hb,by rw[h1,h2];rfl,hl,by rw[h1,h2];rfl⟩).imp λσ H Q hp=>?_
 obtain⟨ι,st,loc,S,L,P⟩:=hp;rw[run] at P;obtain⟨x,st1,e1,P⟩:=aU P;obtain⟨_,st2,Y,P⟩:=aU P;obtain⟨k,st3,e3,P⟩:=aU P;obtain⟨z,J,e4,B⟩:=aU P;have sz:sizeLine=16777216:=sizeLine_eq;unfold gY at Y;split at Y
 ·rename_i kv0 hk0;cases Y;obtain⟨n,rfl,hn⟩:=c_ hk0;refine a6 S L e1 λH1 ι1 v E1 S1 r1=>?_;cases r1 with
  |ref hlt=>
   obtain⟨vs,g1,g2⟩:=S1.ob _ _ hn;refine⟨_,rfl,.inl ⟨vs,.inl g1⟩,a6 S1 (L.ext E1) e3 λH2 ι2 u E2 S2 r2=>a6 S2 ((L.ext E1).ext E2) e4 λH3 ι3 w E3 S3 r3=>?_⟩;have E4:=E2.trans E3;have E5:=E1.trans E4;unfold yR at B;dsimp only at B;split at B
   ·rename_i kvs q;obtain⟨ws,k1,k2⟩:=S3.ob _ _ q;rw[E4.ad n hlt] at k1;split at B
    ·rename_i I hkk;have e:=eA hkk (r2.ext E3);subst e;split at B
     ·rename_i hz;have ll:=k2.length;refine⟨ws,I,k1,rfl,by omega,?_⟩
      have l:=k2.look (k:=I);cases hv:bB kvs I with
      |some w0=>rw[hv] at l B;obtain⟨w',hw,Z⟩:=l;rw[hw];exact(B.mono E5).same S3 Z
      |none=>
       rw[hv] at l B;rw[l];obtain⟨E6,S6⟩:=S3.writeD q (k2.put (k:=I) r3);rw[E4.ad n hlt] at E6 S6;have U:Ext H3 (upd H3 (ι1 n) (.dK (putK ws I w))) ι3 ι3 J.length (J.set n (O.dct (bM kvs I z))).length:=by rw[au];exact E6
       exact(B.mono (E5.trans U)).same S6 (r3.ext U)
     ·exact B.elim
    ·exact B.elim
   ·exact B.elim
 ·cases Y
theorem xx(C:Ctx T g X sc N)(hl:(ap.endLine==cp.line)=true)(hb:attributeBase o "get" X.env (eval o X.env)=eval o X.env)(h1:starEach [a] X.env=[(false,eval a X.env)])
  (ho:PE X o (tE X.K (run g o')))(ha:PE X a (tE X.K (run g a'))):PE X (.Call (.Attribute o "get" ap) [a] [] cp) (tE X.K (run g (.dget1 o' a'))):=by
 refine(uo (by have:=C.un;omega) ho ha ⟨hb,by rw[h1];rfl,hl,by rw[h1];rfl⟩).imp λσ H Q hp=>?_
 obtain⟨ι,st,loc,S,L,P⟩:=hp;rw[run] at P;obtain⟨x,st1,e1,P⟩:=aU P;obtain⟨_,st2,I,P⟩:=aU P;obtain⟨k,st3,e3,B⟩:=aU P;unfold gY at I;split at I
 ·rename_i kv0 hk0;cases I;obtain⟨n,rfl,hn⟩:=c_ hk0;refine a6 S L e1 λH1 ι1 v E1 S1 r1=>?_;cases r1 with
  |ref hlt=>
   obtain⟨vs,g1,g2⟩:=S1.ob _ _ hn;refine⟨_,rfl,.inl ⟨vs,.inl g1⟩,a6 S1 (L.ext E1) e3 λH2 ι2 u E2 S2 r2=>?_⟩;have E5:=E1.trans E2;unfold pr at B;split at B
   ·rename_i kvs hk;obtain⟨n',e,Y⟩:=c_ hk;cases e;obtain⟨ws,k1,k2⟩:=S2.ob _ _ Y;rw[E2.ad n hlt] at k1;split at B
    ·rename_i U Z;have e:=eA Z r2;subst e;refine⟨_,fW.k (k:=U) k1,?_⟩;have l:=k2.look (k:=U);cases q:bB kvs U with
     |none=>rw[q] at l B;rw[l];exact(B.mono E5).same S2 .non
     |some d=>rw[q] at l B;obtain⟨w',hw,J⟩:=l;rw[hw];exact(B.mono E5).same S2 J
    ·exact B.elim
   ·exact B.elim
 ·cases I
theorem Ao(C:Ctx T g X sc N)(U:T.calm=true)(hg:bI sc "sorted"=true)(J:bI sc "set"=true)(B:starEach [a] X.env=[(false,eval a X.env)])(ha:PE X a (tE X.K (run g a'))):
  PE X (.Call (.Name "sorted" p1) [.Call (.Name "set" p2) [a] [] q2] [] q1) (tE X.K (run g (.sset a'))):=by
 refine(wP (C.calm U) (iN C hg) (C.blt _ (by decide+kernel)) (iN C J) (C.blt _ (by decide+kernel)) ha B).imp λσ H Q hp=>?_
 obtain⟨ι,st,loc,S,L,P⟩:=hp;rw[run] at P;obtain⟨x,st1,e1,P⟩:=aU P;refine a6 S L e1 λH1 ι1 v E1 Z r1=>?_;unfold tK at P;split at P
 ·rename_i xs es;split at P
  ·rename_i ns I;split at P
   ·rename_i Y;obtain⟨b,vs,rfl,hq,rv⟩:=r1.seq Z es;have e:=jG I rv;subst e;exact⟨b,ns,rfl,hq,Y.1,λn hn=>of_decide_eq_true (List.all_eq_true.mp Y.2 n hn),cg.alloc Z (P.mono E1) (fU _)⟩
   ·exact P.elim
  ·exact P.elim
 ·exact P.elim
end
set_option maxHeartbeats 16000000
noncomputable def Plain(es:List Expr)(env:Env)(pos:Pos):Prop:=(backTo pos (starEach es env)).any (·.1)=false
theorem oT{es:List Expr}{env:Env}(h:starEach (e::es) env=(false,eval e env)::starEach es env)(k:Plain es env pos):Plain (e::es) env pos:=by unfold Plain at k ⊢;rw[h];simpa[backTo] using k
def SX(g:fe)(X:Cx)(e:Expr)(x:Ex):Prop:=PE X e (tE X.K (run g x))/\PT X e (tT X.K (run g x))
def SE(T:Tab)(g:fe)(n:Nat):Prop:=∀{X:Cx}{sc:Scope}{N:List Str}{e:Expr}{x:Ex},Ctx T g X sc N->cE T n sc N e=some x->SX g X e x
def Cq(T:Tab)(g:fe)(n:Nat):Prop:=∀{X:Cx}{sc:Scope}{N:List Str}{es:List Expr}{xs:List Ex},Ctx T g X sc N->xC T n sc N es=some xs->
 PA X es (tA X.K (runs g xs))/\es.length=xs.length/\(∀pos,Plain es X.env pos)/\∀e r,es=e::r->starEach (e::r) X.env=(false,eval e X.env)::starEach r X.env/\∀pos,Plain r X.env pos
theorem tQ{T:Tab}(h:SE T g n)(hs:Cq T g n):Cq T g (n+1):=by
 intro X sc N es xs C e;cases es with
 |nil=>cases e;refine⟨dM.imp λσ H Q J=>?_,rfl,λpos=>rfl,λ_ _ z=>nomatch z⟩;obtain⟨ι,st,loc,S,L,P⟩:=J;rw[runs] at P;exact P H ι [] (Ext.refl _ _ _) S .nil
 |cons a0 as0=>
  obtain⟨Z,B,e⟩:=bs e;obtain⟨U,I,rfl⟩:=map_some e;have h1:=h C B;obtain⟨h2,h3,Y,_⟩:=hs C I;have st:=b6 B as0 X.env;refine⟨(cq h1.1 h2 st).imp λσ H Q J=>?_,by simp[h3],λpos=>oT st (Y pos),λa b z=>by cases z;exact⟨st,Y⟩⟩
  obtain⟨ι,st,loc,S,L,P⟩:=J;rw[runs] at P;obtain⟨d,st1,Z,P⟩:=n9 P;obtain⟨ds,st2,B,P⟩:=n9 P;exact a6 S L Z λH1 ι1 v E1 S1 U=>jq S1 (L.ext E1) B λH2 ι2 vs E2 S2 I=>P H2 ι2 (v::vs) (E1.trans E2) S2 (.cons (U.ext E2) I)
theorem both{X:Cx}{m:Loc->M D}(h:PE X e (tE X.K m))(B:∀whole,isTrue e X.env whole=(do let v <-whole;standAt e.pos;holding [v] (truthy v))):PE X e (tE X.K m)/\PT X e (tT X.K m):=⟨h,t_ h B⟩
theorem qX{T:Tab}(h:SE T g n){X:Cx}{sc scope:Scope}{N:List Str}{elt:Expr}{gens:List Comprehension}{y:Ex}(C:Ctx T g X sc N)(ex:cE T (n+1) sc N (.ListComp elt gens scope pos)=some y):
  ∃xs t it ifs,gens=[⟨t,it,ifs,0⟩]/\T.calm=true/\eT sc scope N xs=true/\iS g X xs t it ifs elt scope y:=by
 obtain⟨q,Z,ex⟩:=bs ex;have Z:=uZ Z;obtain⟨t,it,ifs⟩:=q;obtain⟨⟨two,xs⟩,J,ex⟩:=bs ex;obtain⟨⟨U,B,Y⟩,ex⟩:=fX ex;obtain⟨s',I,ex⟩:=bs ex;obtain⟨e',e2,ex⟩:=bs ex;refine⟨xs,t,it,ifs,Z,B,U,?_⟩;have he:=λfp s H=>(h (nY C U fp s H) e2).1;rcases ifs with _|⟨c,_|⟨c2,r⟩⟩
 ·cases ex;exact vd C B U J Y (h C I).1 (b6 I [] _) (je I X.env) (λ_ _ _=>wG) he
 ·obtain⟨c',e3,rfl⟩:=map_some ex;exact vd C B U J Y (h C I).1 (b6 I [] _) (je I X.env) (λfp s H=>wF (h (nY C U fp s H) e3).2) he
 ·cases ex
theorem xu{T:Tab}{X:Cx}{sc:Scope}{N:List Str}{args:List Expr}(C:Ctx T g X sc N)(B:(ap.endLine==pos.line)=true)(J:args.length<29)(I:attributeBase o m X.env (eval o X.env)=eval o X.env)(ho:PE X o (tE X.K (run g o')))
  (U:PA X args (tA X.K (runs g xs))/\args.length=xs.length/\(∀pos,Plain args X.env pos)/\∀e r,args=e::r->starEach (e::r) X.env=(false,eval e X.env)::starEach r X.env/\∀pos,Plain r X.env pos):PE X (.Call (.Attribute o m ap) args [] pos) (tE X.K (run g (.meth o' m (T.ims m) xs))):=by
 obtain⟨h1,h2,h0,h3⟩:=U;cases args with
 |nil=>have:xs=[]:=List.length_eq_zero_iff.mp h2.symm;subst this;exact xv C B I ho
 |cons a as=>obtain⟨Z,Y⟩:=h3 _ _ rfl;exact As C B J I ho h1 Z (Y _) (h0 _)
theorem wn{T:Tab}(h:SE T g n)(hs:Cq T g n){X:Cx}{sc:Scope}{N:List Str}{fp:Pos}{args:List Expr}{x:Ex}(C:Ctx T g X sc N)(ex:cE T (n+1) sc N (.Call (.Name f fp) args [] cp)=some x):SX g X (.Call (.Name f fp) args [] cp) x:=by
 obtain⟨hg,ex⟩:=fX ex;rcases nA ex with⟨o,B,ex⟩|⟨_,ex⟩
 ·obtain⟨I,ex⟩:=fX ex;obtain⟨o',U,rfl⟩:=map_some ex;obtain⟨rfl,B⟩:=fX B;obtain⟨c,h1,B⟩:=bs B;cases cH h1;obtain⟨ap,cp',rfl,Z,Y⟩:=gP B;exact both (B5 C I hg Z (cr Y _ _) (h C U).1) λ_=>rfl
 rcases nA ex with⟨o,B,ex⟩|⟨_,ex⟩
 ·obtain⟨I,ex⟩:=fX ex;obtain⟨o',U,rfl⟩:=map_some ex;obtain⟨rfl,B⟩:=fX B;obtain⟨c,h1,B⟩:=bs B;cases cH h1;obtain⟨hg2,_,_,rfl⟩:=jI B;exact both (Ao C I hg hg2 (b6 U [] _) (h C U).1) λ_=>rfl
 cases args with
 |nil=>cases ex
 |cons a as=>
  have kk:∀{xs:List Ex},xC T n sc N (a::as)=some xs->PA X (a::as) (tA X.K (runs g xs))/\(a::as).length=xs.length/\starEach (a::as) X.env=(false,eval a X.env)::starEach as X.env/\∀pos,Plain as X.env pos:=λJ=>by obtain⟨h1,h2,_,h3⟩:=hs C J;exact⟨h1,h2,h3 _ _ rfl⟩
  rcases nA ex with⟨i,hi,ex⟩|⟨_,ex⟩
  ·obtain⟨xs,J,rfl⟩:=map_some ex;obtain⟨h1,h2,Z,Y⟩:=kk J;exact both (Dw C hg hi h1 h2 Z (Y _)) λ_=>rfl
  rcases nA ex with⟨j,hj,ex⟩|⟨_,ex⟩
  ·obtain⟨xs,J,rfl⟩:=map_some ex;obtain⟨h1,_,Z,Y⟩:=kk J;exact both (B8 C hg hj h1 Z (Y _)) λ_=>rfl
  rcases nA ex with⟨b,hb,ex⟩|⟨_,ex⟩
  ·obtain⟨I,ex⟩:=fX ex;obtain⟨xs,J,rfl⟩:=map_some ex;obtain⟨h1,_,Z,Y⟩:=kk J;exact both (Dx C I hg hb h1 Z (Y _)) λ_=>rfl
  obtain⟨hf,ex⟩:=fX ex;obtain⟨t',h1,ex⟩:=bs ex;obtain⟨t,h2,ex⟩:=bs ex;obtain⟨hgt,ex⟩:=fX ex;obtain⟨tp,hi,ex⟩:=bs ex;obtain⟨a',U,rfl⟩:=map_some ex;cases cH h1;obtain⟨_,rfl⟩:=fS h2;subst hf;exact both (B_ C hg hgt hi (h C U).1 (b6 U _ _)) λ_=>rfl
theorem wm{T:Tab}(h:SE T g n)(hs:Cq T g n):SE T g (n+1):=by
 intro X sc N e x C ex;cases e with
 |Constant k _ _=>
  cases k with
  |int=>cases ex;exact both (gX (X:=X) (g:=g) l8 (d:= .int _) (λ_ _ _=>.int _)) λ_=>rfl
  |str=>cases ex;exact both (gX (X:=X) (g:=g) zA (d:= .str _) (λ_ _ _=>.str _)) λ_=>rfl
  |bool=>cases ex;exact both (gX (X:=X) (g:=g) BH (d:= .bl _) (λ_ _ _=>.bl _)) λ_=>rfl
  |none=>cases ex;exact both (gX (X:=X) (g:=g) zF (d:= .non) (λ_ _ _=>.non)) λ_=>rfl
  |_=>cases ex
 |Name y _=>
  obtain⟨k,q,ex⟩:=bs ex;cases k with
  |«local»=>obtain⟨i,hi,rfl⟩:=map_some ex;exact both (vb C hi (.inl q)) λ_=>rfl
  |cell=>obtain⟨i,hi,rfl⟩:=map_some ex;exact both (vb C hi (.inr (.inl q))) λ_=>rfl
  |free=>obtain⟨i,hi,rfl⟩:=map_some ex;exact both (vb C hi (.inr (.inr q))) λ_=>rfl
  |globalImplicit=>
   obtain⟨d,hd,rfl⟩:=map_some ex;obtain⟨a1,u,v,a2,a3,a4⟩:=C.csts _ _ hd;exact both (gX (wR (by show X.env.scope.names.lookup _=_;rw[C.sc];exact q) a2 a3 a1) a4) λ_=>rfl
  |_=>cases ex
 |Tuple es _ _=>obtain⟨Y,ex⟩:=fX ex;obtain⟨xs,hx,rfl⟩:=map_some ex;obtain⟨h1,h2,_⟩:=hs C hx;exact both (yl h1 Y h2) λ_=>rfl
 |List es _=>obtain⟨Y,ex⟩:=fX ex;obtain⟨xs,hx,rfl⟩:=map_some ex;obtain⟨h1,h2,_⟩:=hs C hx;exact both (B9 h1 Y h2) λ_=>rfl
 |Dict ks vs _=>
  cases ks with
  |nil=>
   cases vs with
   |nil=>cases ex;exact both (Cb (X:=X) (g:=g)) λ_=>rfl
   |cons=>cases ex
  |cons k ks=>
   cases ks with
   |cons=>cases ex
   |nil=>obtain⟨k0,h0,ex⟩:=bs ex;cases h0;obtain⟨v,h1,ex⟩:=bs ex;cases cH h1;obtain⟨k',I,ex⟩:=bs ex;obtain⟨v',B,rfl⟩:=map_some ex;exact both (xw (h C I).1 (h C B).1) λ_=>rfl
 |BinOp a op b _=>obtain⟨a',I,ex⟩:=bs ex;obtain⟨o,B,ex⟩:=bs ex;obtain⟨b',U,rfl⟩:=map_some ex;exact both (Ce B (h C I).1 (h C U).1) λ_=>rfl
 |UnaryOp op a _=>
  cases op with
  |Not=>obtain⟨a',ha,rfl⟩:=map_some ex;exact⟨B7 (h C ha).1,AZ (h C ha).2⟩
  |_=>cases ex
 |BoolOp op es p=>
  rcases es with _|⟨a,_|⟨b,r⟩⟩
  ·cases ex
  ·exact⟨zC (h C ex).1,AY (h C ex).2⟩
  ·obtain⟨a',I,ex⟩:=bs ex;obtain⟨b',B,rfl⟩:=map_some ex;cases op with
   |And=>exact⟨Cf (h C I).1 (h C B).1,A3 (h C I).2 (h C B).2⟩
   |Or=>exact⟨Du (h C I).1 (h C B).1,CP (h C I).2 (h C B).2⟩
 |Compare a ops bs' _=>
  rcases nA ex with⟨op,ho,ex⟩|⟨_,ex⟩
  ·obtain⟨b,Z,ex⟩:=bs ex;obtain⟨a',I,ex⟩:=bs ex;obtain⟨b',B,rfl⟩:=map_some ex;cases cH ho;cases cH Z;exact⟨Cc C.un (g9 B _) (h C I).1 (h C B).1,A2 C.un (g9 B _) (h C I).1 (h C B).1⟩
  ·obtain⟨o,ho,ex⟩:=bs ex;obtain⟨b,Z,ex⟩:=bs ex;obtain⟨a',I,ex⟩:=bs ex;obtain⟨b',B,ex⟩:=bs ex;obtain⟨c',U,rfl⟩:=map_some ex;cases dY ho;cases dY Z;exact⟨xy C.un (g9 U _) (h C I).1 (h C B).1 (h C U).1,v7 C.un (g9 U _) (h C I).1 (h C B).1 (h C U).1⟩
 |Subscript a b _=>
  rcases nA ex with⟨⟨lo,hi⟩,hq,ex⟩|⟨_,ex⟩
  ·obtain⟨p,rfl⟩:=we hq;cases lo with
   |none=>obtain⟨hh,e0,ex⟩:=bs ex;cases e0;obtain⟨a',I,ex⟩:=bs ex;obtain⟨h',B,rfl⟩:=map_some ex;exact both (Ap (h C I).1 qg (i9 (h C B).1) ql gM) λ_=>rfl
   |some l=>
    obtain⟨a',I,ex⟩:=bs ex;obtain⟨l',B,ex⟩:=bs ex;cases hi with
    |none=>cases ex;exact both (Ap (h C I).1 (i9 (h C B).1) qg gM ql) λ_=>rfl
    |some hh=>obtain⟨h',U,rfl⟩:=map_some ex;exact both (Ap (h C I).1 (i9 (h C B).1) (i9 (h C U).1) gM gM) λ_=>rfl
  obtain⟨hp,ex⟩:=fX ex;obtain⟨a',I,ex⟩:=bs ex;obtain⟨b',B,rfl⟩:=map_some ex;exact both (Dv C.un hp (h C I).1 (h C B).1) λ_=>rfl
 |Call f args kws cp=>
  cases kws with
  |cons=>cases ex
  |nil=>
   cases f with
   |Name f _=>exact wn h hs C ex
   |Attribute o m ap=>
    obtain⟨J,ex⟩:=fX ex;simp only[Bool.and_eq_true,decide_eq_true_eq] at J;obtain⟨o',I,ex⟩:=bs ex;rcases Dm ex with⟨hpm,ex⟩|ex
    ·cases args with
     |nil=>cases ex;exact both (Aq hpm J.1.2 (cr J.1.1 _ _) (h C I).1) λ_=>rfl
     |cons a0 as0=>obtain⟨a,ha,ex⟩:=bs ex;obtain⟨Y,ex⟩:=fX ex;cases ex;cases cH ha;obtain⟨_,_,rfl⟩:=o5 Y;exact both (Ar hpm J.1.2 (cr J.1.1 _ _) (h C I).1) λ_=>rfl
    rcases Dm ex with⟨hgm,ex⟩|ex
    ·subst hgm;rcases nA ex with⟨b,Z,ex⟩|⟨_,ex⟩
     ·obtain⟨b',B,rfl⟩:=map_some ex;cases cH Z;exact both (xx C J.1.2 (cr J.1.1 _ _) (b6 B [] _) (h C I).1 (h C B).1) λ_=>rfl
     obtain⟨z,Y,ex⟩:=bs ex;obtain⟨b',B,ex⟩:=bs ex;obtain⟨c',U,rfl⟩:=map_some ex;cases dY Y;exact both (Au C J.1.2 (cr J.1.1 _ _) (b6 B _ _) (b6 U [] _) (h C I).1 (h C B).1 (h C U).1) λ_=>rfl
    rcases Dm ex with⟨hgm,ex⟩|ex
    ·subst hgm;obtain⟨z,Y,ex⟩:=bs ex;obtain⟨b',B,ex⟩:=bs ex;obtain⟨c',U,rfl⟩:=map_some ex;cases dY Y;exact both (B6 C J.1.2 (cr J.1.1 _ _) (b6 B _ _) (b6 U [] _) (h C I).1 (h C B).1 (h C U).1) λ_=>rfl
    ·obtain⟨as',B,rfl⟩:=map_some ex;exact both (xu C J.1.2 J.2 (cr J.1.1 _ _) (h C I).1 (hs C B)) λ_=>rfl
   |_=>cases ex
 |ListComp elt gens scope pos=>obtain⟨xs,t,it,ifs,rfl,hcm,hk,hd⟩:=qX h C ex;exact both (hd.pe C hcm hk) λ_=>rfl
 |Attribute o f _=>obtain⟨hf,ex⟩:=fX ex;obtain⟨o',ho,rfl⟩:=map_some ex;exact both (Ca C (cr hf _ _) (h C ho).1) λ_=>rfl
 |_=>cases ex
theorem sound(T:Tab)(g:fe):∀n,SE T g n/\Cq T g n
 |0=>⟨λC h=>(by cases h),λC h=>(by cases h)⟩
 |n+1=>by obtain⟨a,b⟩:=sound T g n;exact⟨wm a b,tQ a b⟩
noncomputable def isLocal(sc:Scope)(x:Str):Bool:=sc.names.lookup x==some .local||sc.names.lookup x==some .cell
noncomputable def uJ:Expr->Bool
 | .ListComp .. =>true
 |_=>false
def jP(s:Str):Bool:=s== "append"
def jO(s:Str):Bool:=s== "extend"
noncomputable def xj:Expr->Bool
 | .Name .. =>true
 | .Call .. =>true
 | .Subscript .. =>true
 | .Constant .. =>true
 | .BinOp .. =>true
 | .Attribute .. =>true
 | .List .. =>true
 | .Tuple .. =>true
 | .Dict .. =>true
 | .UnaryOp .. =>true
 | .Compare .. =>true
 |_=>false
def rj(sc:Scope)(N:List Str):List Expr->Option (List Nat)
 |[]=>some []
 |e::r=>(zQ e).bind λx=>if isLocal sc x=true then(e8 N x).bind λi=>(rj sc N r).map λis=>i::is else none
def AE(f:Str->Bool):Expr->Option (Expr×Expr)
 | .Call (.Attribute o m ap) as ks cp=>(match ks with
  |[]=>(one as).bind λa=>if(f m&&(ap.endLine==cp.line)&&eB o)=true then some (o,a) else none
  |_=>none)
 |_=>none
theorem oa{f:Str->Bool}{z:Expr×Expr}(h:AE f e=some z):∃m ap cp,e= .Call (.Attribute z.1 m ap) [z.2] [] cp/\(f m&&(ap.endLine==cp.line)&&eB z.1)=true:=by
 cases e with
 |Call f as ks cp=>
  cases f with
  |Attribute o m ap=>
   cases ks with
   |cons=>cases h
   |nil=>obtain⟨a,h1,h⟩:=bs h;obtain⟨B,h⟩:=fX h;cases h;cases cH h1;exact⟨m,ap,cp,rfl,B⟩
  |_=>cases h
 |_=>cases h
mutual
noncomputable def cS(T:Tab)(n:Nat)(sc:Scope)(N:List Str)(s:Stmt):Option S:=match n with
 |0=>none
 |n+1=>match s with
  | .Assign ts e _=>(one ts).bind λt=>match t with
   | .Name x _=>if isLocal sc x=true then(e8 N x).bind λi=>(cE T n sc N e).map λe'=>.set i e' else none
   | .Subscript o i _=>if dX i=true/\xj e=true then(cE T n sc N o).bind λo'=>(cE T n sc N i).bind λi'=>(cE T n sc N e).map λe'=>.setix o' i' e' else none
   | .Attribute o f _=>if xj e=true then(cE T n sc N o).bind λo'=>(cE T n sc N e).map λe'=>.setf o' f e' [] (T.ics f) else none
   |_=>none
  | .Return o _=>(match o with
   |some e=>some ((cE T n sc N e).elim .stop .ret)
   |none=>none)
  | .Expr e _=>(AE jP e).elim ((AE jO e).elim ((uD "clear" e).bind λo=>(cE T n sc N o).map .clr) λq=>(cE T n sc N q.1).bind λo'=>(cE T n sc N q.2).map λe'=>.ext o' e') λq=>(cE T n sc N q.1).bind λo'=>(cE T n sc N q.2).map λe'=>.app o' e'
  | .Continue _=>some .cont
  | .AugAssign t op e _=>(match t with
   | .Name x _=>(match op with
    | .Add=>if isLocal sc x=true then(e8 N x).bind λi=>(cE T n sc N e).map λe'=>.aug i e' else none
    |_=>none)
   | .Subscript o i _=>(match op with
    | .Add=>if dX i=true then(cE T n sc N o).bind λo'=>(cE T n sc N i).bind λi'=>(cE T n sc N e).map λe'=>.augx o' i' e' else none
    |_=>none)
   |_=>none)
  | .If c a b _=>(cE T n sc N c).bind λc'=>(yn T n sc N a).bind λa'=>(yn T n sc N b).map λb'=>.ite c' a' b'
  | .For t it body els _=>(match els with
   |[]=>(match t with
   | .Name x _=>if isLocal sc x=true/\T.calm=true then(e8 N x).bind λi=>(yn T n sc N body).bind λb'=>(wz sc it).elim ((By sc it).elim ((uD "values" it).elim ((cE T n sc N it).map λa'=>.for_ i false a' b') λo=>(cE T n sc N o).map λo'=>.forW i o' b') λa=>(cE T n sc N a).map λa'=>.forD i a' b') λa=>(cE T n sc N a).map λa'=>.for_ i true a' b' else none
   | .Tuple ts _ _=>if T.calm=true then(rj sc N ts).bind λis=>(yn T n sc N body).bind λb'=>(uz "enumerate" sc it).elim ((uD "items" it).elim ((cE T n sc N it).map λa'=>.forU is a' b') λo=>(cE T n sc N o).map λo'=>.forI is o' b') λa=>(cE T n sc N a).map λa'=>.forE is a' b' else none
   |_=>none)
   |_=>none)
  | .While c body els _=>(match els with
   |[]=>(cE T n sc N c).bind λc'=>(yn T n sc N body).map λb'=>.whil c' b'
   |_=>none)
  |_=>none
noncomputable def yn(T:Tab)(n:Nat)(sc:Scope)(N:List Str)(ss:List Stmt):Option (List S):=match n with
 |0=>none
 |n+1=>match ss with
  |[]=>some []
  |s::r=>(yn T n sc N r).map λr'=>(cS T n sc N s).getD .stop::r'
end
end Ev
set_option maxHeartbeats 4000000
namespace L2
open PySem PySem.Spec PyProof.Rows
section
variable{X:Cx}
def BB(K:aD):V->V->Hp->VK->Prop:=λx y H Q=>∃p xs i v,x=.ref p/\y=.int i/\0<=i/\c8 K H p xs/\lD xs i=some v/\Q v H
theorem uX:Cr X (BB X.K):=by
 intro pins s σ H x y v u Q I U J h;obtain⟨p,xs,i,z,rfl,rfl,h0,Z,he,q⟩:=h;cases U;obtain⟨t,rfl⟩:=J;obtain⟨its,r,Y,hz⟩:=I.list Z;obtain⟨j,h1,h2,h3,h4,h5⟩:=mM he;obtain⟨w,ew,B⟩:=r.get h2;have hl:=r.length;have hn:=jK
 have hj:i.toNat=j:=by rw[seqIndex_of h0 h5] at h1;exact ag h1
 exact wpAny_getItem_list Y.isList h0 (by omega) (by rw[hj];simpa using ew) ⟨z,H,I,B,q⟩
end
end L2
set_option maxHeartbeats 16000000
namespace Ev
open PySem PySem.Spec PyProof.Rows L2
variable{st st' st0:aW}{f m x:Str}{H:Hp}{i n tk:Nat}{a' c' e' i' o':Ex}{a c e it o:Expr}{ap cp p4:Pos}{b':List S}{loc:Loc}{ι ι0:Nat->Addr}{is:List Nat}
def c6(K:aD)(Xw:Addr->L2.St->Hp->Prop)(H:Hp)(ι:Nat->Addr)(st:aW)(r:R Fl)(D:Ends):Prop:=match r with
 | .ok (.nx loc) st'=>∀H' ι' σ',Ext H H' ι ι' st.length st'.length->Sim K H' ι' st'->LRel K H' ι' st'.length loc σ'->D.nx σ' H'
 | .ok (.rt d) st'=>∀H' ι' v,Ext H H' ι ι' st.length st'.length->Sim K H' ι' st'->VRel K H' ι' st'.length d v->D.rt v H'
 | .ok (.ex n loc) st'=>∀H' ι' σ',Ext H H' ι ι' st.length st'.length->Sim K H' ι' st'->LRel K H' ι' st'.length loc σ'->Xw (ι' n) σ' H'
 | .ok (.ct loc) st'=>∀H' ι' σ',Ext H H' ι ι' st.length st'.length->Sim K H' ι' st'->LRel K H' ι' st'.length loc σ'->D.ct σ' H'
 | .bad=>False
def tS(K:aD)(Xw:Addr->L2.St->Hp->Prop)(m:Loc->M Fl):TS:=λD σ H=>∃ι st loc,Sim K H ι st/\LRel K H ι st.length loc σ/\c6 K Xw H ι st (m loc st) D
section
variable{K:aD}{Xw:Addr->L2.St->Hp->Prop}{H:Hp}{ι:Nat->Addr}{st:aW}
theorem aR{α:Type}{m:M α}{f:α->M Fl}{D:Ends}(P:c6 K Xw H ι st (aZ m f st0) D):∃a st1,m st0=.ok a st1/\c6 K Xw H ι st (f a st1) D:=by
 unfold aZ at P;cases e:m st0 with
 |ok a st1=>rw[e] at P;exact⟨a,st1,rfl,P⟩
 |bad=>rw[e] at P;exact P.elim
theorem c6.mono{r:R Fl}{D:Ends}{H1:Hp}{ι1:Nat->Addr}{st1:aW}(P:c6 K Xw H ι st r D)(E:Ext H H1 ι ι1 st.length st1.length):c6 K Xw H1 ι1 st1 r D:=by
 cases r with
 |ok f st2=>
  cases f with
  |nx loc=>exact λH' ι' σ' J I B=>P H' ι' σ' (E.trans J) I B
  |rt d=>exact λH' ι' v J I B=>P H' ι' v (E.trans J) I B
  |ex n loc=>exact λH' ι' σ' J I B=>P H' ι' σ' (E.trans J) I B
  |ct loc=>exact λH' ι' σ' J I B=>P H' ι' σ' (E.trans J) I B
 |bad=>exact P
end
theorem _root_.L2.PS.imp{X:Cx}{s:Stmt}{t t':TS}(h:PS X s t)(k:∀D σ H,t' D σ H->t D σ H):PS X s t':=λpins s σ H D I q=>h pins s σ H D I (k D σ H q)
theorem _root_.L2.PSs.imp{X:Cx}{s:List Stmt}{t t':TS}(h:PSs X s t)(k:∀D σ H,t' D σ H->t D σ H):PSs X s t':=λpins s σ H D I q=>h pins s σ H D I (k D σ H q)
section
variable{T:Tab}{g:fe}{X:Cx}{sc:Scope}{N:List Str}{pos p2 p3:Pos}{Xw:Addr->L2.St->Hp->Prop}
theorem fu(C:Ctx T g X sc N)(h:isLocal sc x=true):L2.Loc X.env.scope x:=by show X.env.scope.names.lookup x=_∨X.env.scope.names.lookup x=_;rw[C.sc];simpa[isLocal] using h
theorem t7{D:Ends}{σ:L2.St}(h:tS X.K Xw (exec g (.set i e')) D σ H):tF (tE X.K (run g e')) (f6 i) D σ H:=by obtain⟨ι,st,loc,S,L,P⟩:=h;rw[exec] at P;obtain⟨d,st1,J,P⟩:=aR P;exact a6 S L J λH1 ι1 v B U I=>P H1 ι1 _ B U ((L.ext B).set i I)
theorem wq{i:Expr}(hu:X.A.units+1<cLine)(hp:dX i=true)(hn:xj e=true)(ho:PE X o (tE X.K (run g o')))(hi:PE X i (tE X.K (run g i')))(he:PE X e (tE X.K (run g e'))):PS X (.Assign [.Subscript o i p2] e pos) (tS X.K Xw (exec g (.setix o' i' e'))):=by
 refine((zt he (zw ho hi set_list (λv=>by cases i<;>first|rfl|cases hp)) (by cases e<;>rfl) (by cases e<;>rfl)).or (wJ hu ho hi he (by cases e<;>first|rfl|cases hn))).imp λD σ H hp=>?_
 obtain⟨ι,st,loc,S,L,P⟩:=hp;rw[exec] at P;obtain⟨d,st1,e1,P⟩:=aR P;obtain⟨x,st2,e2,P⟩:=aR P;obtain⟨k,J,e3,P⟩:=aR P;obtain⟨u,st4,B,P⟩:=aR P;have sz:sizeLine=16777216:=sizeLine_eq;unfold gJ at B;cases x with
 |ref n0=>
  dsimp only at B;split at B
  ·rename_i xs q;split at B
   ·split at B
    ·rename_i j hj;cases B;refine .inl (a6 S L e1 λH1 ι1 v E1 S1 r1=>a6 S1 (L.ext E1) e2 λH2 ι2 vx E2 S2 r2=>a6 S2 ((L.ext E1).ext E2) e3 λH3 ι3 vk Z S3 r3=>?_);have U:=r2.ext Z;have Y:=(r1.ext E2).ext Z;cases U with
     |ref hn=>
      cases r3;obtain⟨vs,g1,g2⟩:=S3.ob _ _ q;have rr:=g2.set j Y;obtain⟨E4,S4⟩:=S3.write q rr;refine⟨_,_,_,j,rfl,rfl,g1,by rw[<-g2.length];exact hj,?_⟩
      have E5:=(E1.trans E2).trans Z;have I:Ext H3 (upd H3 (ι3 n0) (.lst (vs.set j v))) ι3 ι3 J.length (J.set n0 (O.lst (xs.set j d))).length:=by rw[au];exact E4
      exact P _ ι3 σ (E5.trans I) S4 (((L.ext E5)).ext I)
    ·cases B
   ·cases B
  ·rename_i kvs q;split at B
   ·rename_i kk hk;split at B
    ·rename_i hl;cases B;refine .inr (a6 S L e1 λH1 ι1 v E1 S1 r1=>a6 S1 (L.ext E1) e2 λH2 ι2 vx E2 S2 r2=>a6 S2 ((L.ext E1).ext E2) e3 λH3 ι3 vk Z S3 r3=>?_);have U:=r2.ext Z;have Y:=(r1.ext E2).ext Z;have hv:=eA hk r3;subst hv;cases U with
     |ref hn=>
      obtain⟨vs,g1,g2⟩:=S3.ob _ _ q;have ll:=g2.length;obtain⟨E4,S4⟩:=S3.writeD q (g2.put (k:=kk) Y);refine⟨_,_,rfl,vJ.k (k:=kk) g1 (by omega),?_⟩
      have E5:=(E1.trans E2).trans Z;have I:Ext H3 (upd H3 (ι3 n0) (.dK (putK vs kk v))) ι3 ι3 J.length (J.set n0 (O.dct (bM kvs kk d))).length:=by rw[au];exact E4
      exact P _ ι3 σ (E5.trans I) S4 (((L.ext E5)).ext I)
    ·cases B
   ·cases B
  ·cases B
 |_=>cases B
theorem Bj(J:PE X e (tE X.K (run g e'))):PS X (.Return (some e) pos) (tS X.K Xw (exec g (.ret e'))):=
 (zp J).imp λD σ H I=>by obtain⟨ι,st,loc,S,L,P⟩:=I;rw[exec] at P;obtain⟨d,st1,U,P⟩:=aR P;exact a6 S L U λH1 ι1 v Z Y B=>P H1 ι1 v Z Y B
theorem tW{s₀:Stmt}:PS X s₀ (tS X.K Xw (exec g .stop)):=by intro pins s σ H D I h;obtain⟨ι,st,loc,S,L,P⟩:=h;rw[exec] at P;exact False.elim P
theorem Bw(Z:jP m=true)(hl:(ap.endLine==cp.line)=true)(I:starEach [e] X.env=[(false,eval e X.env)])(hb:attributeBase o m X.env (eval o X.env)=eval o X.env)(ho:PE X o (tE X.K (run g o')))(he:PE X e (tE X.K (run g e'))):
  PS X (.Expr (.Call (.Attribute o m ap) [e] [] cp) pos) (tS X.K Xw (exec g (.app o' e'))):=by
 have Z:m= "append":=by simpa[jP] using Z
 subst Z;refine(l7 (ut PySem.F.plainAttrs_list PySem.F.slot_list_append PySem.F.type_list_append k7 ho (cq he dM I) hb (by rw[I];rfl) hl I rfl)).imp λD σ H hp=>?_
 obtain⟨ι,st,loc,S,L,P⟩:=hp;rw[exec] at P;obtain⟨x,st1,e1,P⟩:=aR P;obtain⟨u0,st0,Y,P⟩:=aR P;obtain⟨d,J,e2,P⟩:=aR P;obtain⟨u,st3,B,P⟩:=aR P;have sz:sizeLine=16777216:=sizeLine_eq;unfold append at B;split at B
 ·rename_i n z1 z0;split at B
  ·rename_i xs q;split at B
   ·rename_i hz;cases B;simp only[iK] at Y;split at Y
    ·rename_i zs q0;cases Y;refine a6 S L e1 λH1 ι1 vx E1 S1 r1=>?_;cases r1 with
     |ref hn=>
      obtain⟨ws,w1,_⟩:=S1.ob _ _ q0;refine⟨.inl ⟨rfl,ws,c8.of w1⟩,a6 S1 (L.ext E1) e2 λH2 ι2 v E2 S2 r2=>?_⟩;obtain⟨vs,g1,g2⟩:=S2.ob _ _ q;have l:=g2.length;have rr:=g2.append (.cons r2 .nil);obtain⟨E4,S4⟩:=S2.write q rr;rw[E2.ad n hn] at g1 E4 S4;refine⟨_,_,_,rfl,rfl,g1,by omega,?_⟩
      have E5:=E1.trans E2;have U:Ext H2 (upd H2 (ι1 n) (.lst (vs++[v]))) ι2 ι2 J.length (J.set n (O.lst (xs++[d]))).length:=by rw[au];exact E4
      exact P _ ι2 σ (E5.trans U) S4 ((L.ext E5).ext U)
    ·cases Y
   ·cases B
  ·cases B
 ·cases B
theorem Bn(Z:jO m=true)(hl:(ap.endLine==cp.line)=true)(I:starEach [e] X.env=[(false,eval e X.env)])(hb:attributeBase o m X.env (eval o X.env)=eval o X.env)(ho:PE X o (tE X.K (run g o')))(he:PE X e (tE X.K (run g e'))):
  PS X (.Expr (.Call (.Attribute o m ap) [e] [] cp) pos) (tS X.K Xw (exec g (.ext o' e'))):=by
 have Z:m= "extend":=by simpa[jO] using Z
 subst Z;refine(l7 (ut PySem.F.plainAttrs_list PySem.F.slot_list_extend PySem.F.type_list_extend rY ho (cq he dM I) hb (by rw[I];rfl) hl I rfl)).imp λD σ H hp=>?_
 obtain⟨ι,st,loc,S,L,P⟩:=hp;rw[exec] at P;obtain⟨x,st1,e1,P⟩:=aR P;obtain⟨u0,st0,U,P⟩:=aR P;obtain⟨d,J,e2,P⟩:=aR P;obtain⟨u,st3,B,P⟩:=aR P;have sz:sizeLine=16777216:=sizeLine_eq;cases x with
 |ref n=>
  simp only[iK] at U;split at U
  ·rename_i zs q0;cases U;refine a6 S L e1 λH1 ι1 vx E1 S1 r1=>?_;cases r1 with
   |ref hn=>
    obtain⟨ws,w1,_⟩:=S1.ob _ _ q0;refine⟨.inl ⟨rfl,ws,c8.of w1⟩,a6 S1 (L.ext E1) e2 λH2 ι2 v E2 S2 r2=>?_⟩;have E5:=E1.trans E2;unfold extend at B;split at B
    ·rename_i n1 m1 zz1;cases zz1;split at B
     ·rename_i xs ys q qm;split at B
      ·rename_i hz;cases B;cases r2 with
       |ref hm2=>
        obtain⟨vs,g1,g2⟩:=S2.ob _ _ q;obtain⟨us,k1,k2⟩:=S2.ob _ _ qm;have l:=g2.length;have l2:=k2.length;obtain⟨E4,S4⟩:=S2.write q (g2.append k2);rw[E2.ad n hn] at g1 E4 S4;refine⟨_,_,_,_,rfl,rfl,g1,k1,by omega,?_⟩
        have Y:Ext H2 (upd H2 (ι1 n) (.lst (vs++us))) ι2 ι2 J.length (J.set n (O.lst (xs++ys))).length:=by rw[au];exact E4
        exact P _ ι2 σ (E5.trans Y) S4 ((L.ext E5).ext Y)
      ·cases B
     ·cases B
    ·cases B
  ·cases U
 |_=>cases U
theorem Bq(hl:(ap.endLine==cp.line)=true)(hb:attributeBase o "clear" X.env (eval o X.env)=eval o X.env)(ho:PE X o (tE X.K (run g o'))):
  PS X (.Expr (.Call (.Attribute o "clear" ap) [] [] cp) pos) (tS X.K Xw (exec g (.clr o'))):=by
 refine(l7 (ur PySem.F.plainAttrs_list PySem.F.slot_list_clear PySem.F.type_list_clear uB ho hb hl)).imp λD σ H hp=>?_;obtain⟨ι,st,loc,S,L,P⟩:=hp;rw[exec] at P;obtain⟨x,st1,e1,P⟩:=aR P;obtain⟨u,Z,B,P⟩:=aR P;refine a6 S L e1 λH1 ι1 vx Y U r1=>?_;unfold pB at B;split at B
 ·rename_i n;split at B
  ·rename_i xs q;cases B;cases r1 with
   |ref hn=>
    obtain⟨vs,J,g2⟩:=U.ob _ _ q;obtain⟨E4,S4⟩:=U.write q .nil;have I:Ext H1 (upd H1 (ι1 n) (.lst [])) ι1 ι1 st1.length (st1.set n (O.lst [])).length:=by rw[au];exact E4
    exact⟨.inl ⟨rfl,vs,c8.of J⟩,_,vs,rfl,rfl,J,P _ ι1 σ (Y.trans I) S4 ((L.ext Y).ext I)⟩
  ·cases B
 ·cases B
theorem Bv{p:Pos}(hN:X.N.Nodup)(hi:X.N[i]? =some x)(hx:L2.Loc X.env.scope x)(hf:X.fn x=true)(he:PE X e (tE X.K (run g e'))):
  PS X (.AugAssign (.Name x p) .Add e pos) (tS X.K Xw (exec g (.aug i e'))):=by
 refine(zr hN hi hx he uK (.inl hf)).imp λD σ H hp=>?_;obtain⟨ι,st,loc,S,L,P⟩:=hp;rw[exec] at P;obtain⟨a,st0,B,P⟩:=aR P;obtain⟨y,st1,e1,P⟩:=aR P;obtain⟨z,Y,I,P⟩:=aR P;rw[run] at B;unfold d9 at B;split at B
 ·rename_i d hd;cases B
  have J:loc[i]? =some (some a):=by
   cases q:loc[i]? with
   |none=>rw[q] at hd;cases hd
   |some o=>rw[q] at hd;cases o with
    |none=>cases hd
    |some w=>cases hd;rfl
  obtain⟨v,hv,r⟩:=L.at_ i _ J;refine⟨v,hv,a6 S L e1 λH1 ι1 w U S1 Z=>?_⟩;unfold vC at I;split at I
  ·cases I;cases r;cases Z;exact⟨_,_,rfl,rfl,P _ ι1 _ U S1 ((L.ext U).set i (.int _))⟩
  ·cases I
 ·cases B
theorem uY{x k d:D}(e:getL x k st=.ok d st'):∃n xs j,x=.ref n/\k=.int j/\st[n]? =some (.lst xs)/\0<=j/\lD xs j=some d/\st'=st:=by
 cases x with
 |ref n=>
  unfold getL at e;dsimp only at e;split at e
  ·rename_i xs q;split at e
   ·rename_i j;split at e
    ·rename_i h0;split at e
     ·rename_i d' hd;cases e;exact⟨n,xs,j,rfl,rfl,q,h0,hd,rfl⟩
     ·cases e
    ·cases e
   ·cases e
  ·cases e
 |_=>cases e
theorem vB{x y d:D}(e:vC x y st=.ok d st'):∃i j,x=.int i/\y=.int j/\d=.int (i+j)/\st'=st:=by
 unfold vC at e;split at e
 ·cases e;exact⟨_,_,rfl,rfl,rfl,rfl⟩
 ·cases e
theorem y7{i:Expr}(Z:dX i=true)(ho:PE X o (tE X.K (run g o')))(hi:PE X i (tE X.K (run g i')))(he:PE X e (tE X.K (run g e'))):PS X (.AugAssign (.Subscript o i p2) .Add e pos) (tS X.K Xw (exec g (.augx o' i' e'))):=by
 refine(wK ho hi uX he uK set_list (λov iv new=>by cases i<;>first|rfl|cases Z)).imp λD σ H Z=>?_
 obtain⟨ι,st,loc,S,L,P⟩:=Z;rw[exec] at P;obtain⟨x,st1,e1,P⟩:=aR P;obtain⟨k,st2,e2,P⟩:=aR P;obtain⟨y,st3,e3,P⟩:=aR P;obtain⟨z,st4,e4,P⟩:=aR P;obtain⟨w,I,e5,P⟩:=aR P;obtain⟨u,st6,B,P⟩:=aR P;obtain⟨n,xs,j,rfl,rfl,q,h0,hd,rfl⟩:=uY e3;obtain⟨a,b,rfl,rfl,rfl,rfl⟩:=vB e5;refine a6 S L e1 λH1 ι1 v1 E1 S1 r1=>a6 S1 (L.ext E1) e2 λH2 ι2 v2 E2 S2 r2=>?_;have Y:=r1.ext E2;cases Y with
 |ref hn=>
  cases r2;obtain⟨vs,g1,g2⟩:=S2.ob _ _ q;obtain⟨v,hv,rv⟩:=qY g2 hd;cases rv;refine⟨_,vs,j,_,rfl,rfl,h0,c8.of g1,hv,a6 S2 ((L.ext E1).ext E2) e4 λH4 ι4 v4 E4 S4 r4=>?_⟩;cases r4;refine⟨a,b,rfl,rfl,?_⟩;unfold putL at B;dsimp only at B;split at B
  ·rename_i ys q4;split at B
   ·rename_i U hj;cases B;obtain⟨ws,k1,k2⟩:=S4.ob _ _ q4;obtain⟨E6,S6⟩:=S4.write q4 (k2.set U (.int (a+b)));rw[E4.ad n hn] at k1 E6 S6;have E5:=(E1.trans E2).trans E4;have J:Ext H4 (upd H4 (ι2 n) (.lst (ws.set U (.int (a+b))))) ι4 ι4 I.length (I.set n (O.lst (ys.set U (.int (a+b))))).length:=by rw[au];exact E6
    exact⟨_,ws,j,U,rfl,rfl,k1,by rw[<-k2.length];exact hj,P _ ι4 σ (E5.trans J) S6 ((L.ext E5).ext J)⟩
   ·cases B
  ·cases B
theorem Db{a b:List Stmt}{a':List S}(Y:PT X c (tT X.K (run g c')))(ha:PSs X a (tS X.K Xw (execs g a')))(Z:PSs X b (tS X.K Xw (execs g b'))):PS X (.If c a b pos) (tS X.K Xw (exec g (.ite c' a' b'))):=
 (BD Y ha Z).imp λD σ H U=>by
  obtain⟨ι,st,loc,S,L,P⟩:=U;rw[exec] at P;obtain⟨x,st1,e1,P⟩:=aR P;obtain⟨i,B,e2,P⟩:=aR P;obtain⟨e3,rfl⟩:=bV e2;have:=b9 e3;subst this;refine kT S L e1 λH1 ι1 I J=>?_;cases i with
  |true=>rw[if_pos rfl];exact⟨ι1,B,loc,J,L.ext I,P.mono I⟩
  |false=>rw[if_neg aP];exact⟨ι1,B,loc,J,L.ext I,P.mono I⟩
theorem yS{body:List Stmt}(hp:PassesOwn (model X.prog X.w) X.A X.env X.xe)(hc:PT X c (tT X.K (run g c')))(hb:PSs X body (tS X.K Xw (execs g b'))):PS X (.While c body [] pos) (tS X.K Xw (exec g (.whil c' b'))):=by
 refine(ue hp hc hb).imp λD σ H hp=>?_;obtain⟨ι,st,loc,S,L,P⟩:=hp;rw[exec] at P;refine⟨λm σ2 H2=>∃ι2 B loc2,Ext H H2 ι ι2 st.length B.length/\Sim X.K H2 ι2 B/\LRel X.K H2 ι2 B.length loc2 σ2/\c6 X.K Xw H ι st (fg (run g c') (execs g b') m loc2 B) D,⟨Ai,ι,st,loc,Ext.refl _ _ _,S,L,P⟩,?_⟩;rintro m σ2 H2 ⟨ι2,B,loc2,E2,S2,Y,P2⟩;cases m with
 |zero=>exact P2.elim
 |succ m=>
  rw[fg] at P2;obtain⟨x,st3,e3,P3⟩:=aR P2;obtain⟨b,st4,e4,P4⟩:=aR P3;obtain⟨e5,rfl⟩:=bV e4;have:=b9 e5;subst this;refine kT S2 Y e3 λH3 ι3 E3 S3=>?_;cases b with
  |false=>rw[if_neg aP];exact P4 H3 ι3 σ2 (E2.trans E3) S3 (Y.ext E3)
  |true=>
   rw[if_pos rfl];refine⟨λσ4 J=>∃ι4 I loc5,Ext H J ι ι4 st.length I.length/\Sim X.K J ι4 I/\LRel X.K J ι4 I.length loc5 σ4/\c6 X.K Xw H ι st (fg (run g c') (execs g b') m loc5 I) D,λσ' H' q=>⟨m,aO _,q⟩,?_⟩;rw[if_pos rfl] at P4;obtain⟨r,st6,e6,P6⟩:=aR P4;refine⟨ι3,st4,loc2,S3,Y.ext E3,?_⟩;rw[e6];cases r with
   |nx loc3=>exact λJ ι4 σ4 Z U L4=>⟨ι4,st6,loc3,(E2.trans E3).trans Z,U,L4,P6⟩
   |ct loc3=>exact λJ ι4 σ4 Z U L4=>⟨ι4,st6,loc3,(E2.trans E3).trans Z,U,L4,P6⟩
   |rt d=>exact λJ ι4 w Z U r4=>P6 J ι4 w ((E2.trans E3).trans Z) U r4
   |ex n l=>exact λJ ι4 σ4 Z U L4=>P6 J ι4 σ4 ((E2.trans E3).trans Z) U L4
def mB:List Nat->vO
 |[]=>Ag
 |i::is=>qG (f6 i) (mB is)
theorem gO(C:Ctx T g X sc N)(B:∀y,X.fn y=true):∀{I:List Expr}{is:List Nat},rj sc N I=some is->AN X I (mB is)/\(assignEach I X.env).length=is.length/\(assignEach I X.env).findIdx? (·.1)=none
 |[],is,h=>by cases h;exact⟨qj,rfl,rfl⟩
 |t::r,is,h=>by
  obtain⟨x,Y,h⟩:=bs h;obtain⟨hl,h⟩:=fX h;obtain⟨i,hi,h⟩:=bs h;obtain⟨J,Z,rfl⟩:=map_some h;obtain⟨U,rfl⟩:=fS Y;obtain⟨h1,h2,h3⟩:=gO C B Z;refine⟨jD (dE (i:=i) (by rw[C.n];exact C.nd) (by rw[C.n];exact ci hi) (fu C hl) (.inl (B x))) h1 rfl,?_,?_⟩
  ·show(assignEach r X.env).length+1=J.length+1;rw[h2]
  ·show(((false,assign (.Name x U) X.env)::assignEach r X.env).findIdx? (·.1))=none;rw[List.findIdx?_cons,h3];rfl
theorem nC{K:aD}{H:Hp}{ι:Nat->Addr}{m:Nat}{Q:L2.St->Hp->Prop}:∀{is:List Nat}{ds:List D}{vs:List V}{loc:Loc}{σ:L2.St},VRels K H ι m ds vs->ds.length=is.length->LRel K H ι m loc σ->(∀σ',LRel K H ι m (ib is ds loc) σ'->Q σ' H)->mB is vs σ H Q
 |[],_,_,_,_,.nil,_,L,k=>⟨rfl,k _ L⟩
 |i::is,_,_,_,_,.cons (v:=v) (vs:=vs) h t,hl,L,k=>⟨v,vs,rfl,nC t (by simpa using hl) (L.set i h) k⟩
 |[],_,_,_,_,.cons _ _,hl,_,_=>by simp at hl
 |_::_,_,_,_,_,.nil,hl,_,_=>by simp at hl
theorem iz{J:It}{s:Src}{H0:Hp}{σ:L2.St}{D:Ends}
  (F:cu X.K J s H ι st.length)(E0:Ext H0 H ι0 ι st0.length st.length)(Sm:Sim X.K H ι st)(L:LRel X.K H ι st.length loc σ)(P:c6 X.K Xw H0 ι0 st0 (eF (λx I=>execs g b' (I.set i (some x))) s loc st) D):
  ∃W:Nat->Nat->L2.St->Hp->Prop,(∃m,W 0 m σ H)/\∀k m σ H,W k m σ H->
   (J.stop k H/\D.nx σ H)∨(J.go k H/\∃Nn:L2.St->Hp->Prop,(∀σ' H',Nn σ' H'->∃m',m'<m/\W (k+1) m' σ' H')/\∀x H',J.yld k H x H'->f6 i x σ H' λσ2 Z=>tS X.K Xw (execs g b') {D with nx:=Nn,ct:=Nn,bk:=D.nx} σ2 Z):=by
 refine⟨λk m σ2 Z=>∃ι2 B loc2,Ext H Z ι ι2 st.length B.length/\Sim X.K Z ι2 B/\LRel X.K Z ι2 B.length loc2 σ2/\c6 X.K Xw H0 ι0 st0 (iA (λx I=>execs g b' (I.set i (some x))) s m k loc2 B) D,⟨bF s st+1,ι,st,loc,Ext.refl _ _ _,Sm,L,P⟩,?_⟩;rintro k m σ2 Z ⟨ι2,B,loc2,E2,S2,L2',P2⟩;obtain⟨c1,c2⟩:=F Z ι2 B k E2 S2;cases m with
 |zero=>exact P2.elim
 |succ m=>
  simp only[iA] at P2;cases en:c9 s k B with
  |none=>rw[en] at P2;exact P2.elim
  |some ox=>
   rw[en] at P2;cases ox with
   |none=>exact .inl ⟨c1 en,P2 Z ι2 σ2 (E0.trans E2) S2 L2'⟩
   |some x=>
    obtain⟨hgo,hyl⟩:=c2 x en;refine .inr ⟨hgo,λσ3 Y=>∃ι3 U loc3,Ext H Y ι ι3 st.length U.length/\Sim X.K Y ι3 U/\LRel X.K Y ι3 U.length loc3 σ3/\c6 X.K Xw H0 ι0 st0 (iA (λx I=>execs g b' (I.set i (some x))) s m (k+1) loc3 U) D,λσ' H' q=>⟨m,aO _,q⟩,λv H' y=>?_⟩;obtain⟨rfl,rv⟩:=hyl v H' y;obtain⟨r,U,e3,P3⟩:=aR P2;refine⟨ι2,B,loc2.set i (some x),S2,L2'.set i rv,?_⟩;rw[e3];cases r with
    |nx loc3=>exact λY ι3 σ3 E3 S3 L3=>⟨ι3,U,loc3,E2.trans E3,S3,L3,P3⟩
    |ct loc3=>exact λY ι3 σ3 E3 S3 L3=>⟨ι3,U,loc3,E2.trans E3,S3,L3,P3⟩
    |rt d=>exact λY ι3 w E3 S3 r3=>P3 Y ι3 w ((E0.trans E2).trans E3) S3 r3
    |ex n l=>exact λY ι3 σ3 E3 S3 L3=>P3 Y ι3 σ3 ((E0.trans E2).trans E3) S3 L3
theorem jc{f:D->Loc->M Fl}(n:Nat)(st:aW)(h:∀xs,st[n]?≠some (.lst xs)):eF f (.at n) loc st=.bad:=by unfold eF;simp only[iA,qp h]
theorem gU{J:It}{s:Src}{H0:Hp}{σ:L2.St}{D:Ends}
  (F:eZ X.K J s H ι st.length)(E0:Ext H0 H ι0 ι st0.length st.length)(Sm:Sim X.K H ι st)(L:LRel X.K H ι st.length loc σ)(P:c6 X.K Xw H0 ι0 st0 (eF (λx U=>aZ (items? is.length x) λds=>execs g b' (ib is ds U)) s loc st) D):
  ∃W:Nat->Nat->L2.St->Hp->Prop,(∃m,W 0 m σ H)/\∀k m σ H,W k m σ H->
   (J.stop k H/\D.nx σ H)∨(J.go k H/\∃Nn:L2.St->Hp->Prop,(∀σ' H',Nn σ' H'->∃m',m'<m/\W (k+1) m' σ' H')/\∀x H',J.yld k H x H'->B1 X.K is.length (mB is) x σ H' λσ2 Z=>tS X.K Xw (execs g b') {D with nx:=Nn,ct:=Nn,bk:=D.nx} σ2 Z):=by
 refine⟨λk m σ2 Z=>∃ι2 B loc2,Ext H Z ι ι2 st.length B.length/\Sim X.K Z ι2 B/\LRel X.K Z ι2 B.length loc2 σ2/\c6 X.K Xw H0 ι0 st0 (iA (λx U=>aZ (items? is.length x) λds=>execs g b' (ib is ds U)) s m k loc2 B) D,⟨bF s st+1,ι,st,loc,Ext.refl _ _ _,Sm,L,P⟩,?_⟩;rintro k m σ2 Z ⟨ι2,B,loc2,E2,S2,L2',P2⟩;obtain⟨c1,c2⟩:=F Z ι2 B k E2 S2;cases m with
 |zero=>exact P2.elim
 |succ m=>
  simp only[iA] at P2;cases en:c9 s k B with
  |none=>rw[en] at P2;exact P2.elim
  |some ox=>
   rw[en] at P2;cases ox with
   |none=>exact .inl ⟨c1 en,P2 Z ι2 σ2 (E0.trans E2) S2 L2'⟩
   |some x=>
    obtain⟨hgo,hyl⟩:=c2 x en;refine .inr ⟨hgo,λσ3 Y=>∃ι3 I loc3,Ext H Y ι ι3 st.length I.length/\Sim X.K Y ι3 I/\LRel X.K Y ι3 I.length loc3 σ3/\c6 X.K Xw H0 ι0 st0 (iA (λx U=>aZ (items? is.length x) λds=>execs g b' (ib is ds U)) s m (k+1) loc3 I) D,λσ' H' q=>⟨m,aO _,q⟩,λv H' y=>?_⟩;obtain⟨EH,SH,rv⟩:=hyl v H' y;have EH2:=E2.trans EH;have L3':=L2'.ext EH;obtain⟨r,I,e3,P3⟩:=aR P2;unfold items? at e3;cases x with
    |tup xs=>
     by_cases hl:xs.length=is.length
     ·have e4:execs g b' (ib is xs loc2) B=.ok r I:=by simp only[aZ,if_pos hl] at e3;exact e3
      cases rv with
      |tup hq rw'=>
       refine⟨_,_,rfl,hq,by rw[<-rw'.length];exact hl,nC rw' hl L3' λσ' L'=>⟨ι2,B,ib is xs loc2,SH,L',?_⟩⟩
       rw[e4];cases r with
       |nx loc3=>exact λY ι3 σ3 E3 S3 L3=>⟨ι3,I,loc3,EH2.trans E3,S3,L3,P3⟩
       |ct loc3=>exact λY ι3 σ3 E3 S3 L3=>⟨ι3,I,loc3,EH2.trans E3,S3,L3,P3⟩
       |rt d=>exact λY ι3 w E3 S3 r3=>P3 Y ι3 w ((E0.trans EH2).trans E3) S3 r3
       |ex n l=>exact λY ι3 σ3 E3 S3 L3=>P3 Y ι3 σ3 ((E0.trans EH2).trans E3) S3 L3
     ·simp only[aZ,if_neg hl] at e3;cases e3
    |_=>cases e3
theorem nT{f:D->Loc->M Fl}(n:Nat)(st:aW)(h:∀xs,st[n]?≠some (.lst xs)):eF f (.en n) loc st=.bad:=by
 have B:c9 (.en n) 0 st=none:=by simp only[c9]
 unfold eF;simp only[iA,B]
theorem y1(U:PassesOwn (model X.prog X.w) X.A X.env X.xe)(C:Ctx T g X sc N)(J:T.calm=true){Z:List Expr}{body:List Stmt}{p3:Pos}(Y:∀y,X.fn y=true)(ht:rj sc N Z=some is)(hg:bI sc "enumerate"=true)(I:starEach [a] X.env=[(false,eval a X.env)])(ha:PE X a (tE X.K (run g a')))(hb:PSs X body (tS X.K Xw (execs g b'))):
  PS X (.For (.Tuple Z tk p2) (.Call (.Name "enumerate" p3) [a] [] p4) body [] pos) (tS X.K Xw (exec g (.forE is a' b'))):=by
 obtain⟨h1,h2,h3⟩:=gO C Y ht;refine(gd U (C.calm J) (qi (iN C hg) (C.blt _ (by decide+kernel)) (cq ha dM I) I) (oW (C.calm J) h1 h2 h3) hb (λ_=>rfl)).imp λD σ H U=>?_
 obtain⟨ι,st,loc,S,L,P⟩:=U;rw[exec] at P;obtain⟨d,st1,e1,P⟩:=aR P;obtain⟨s,B,e2,P⟩:=aR P;obtain⟨e3,rfl⟩:=bV e2;refine a6 S L e1 λH1 ι1 v E1 S1 r1=>?_;cases r1 with
 | @ref n hn=>
  cases e3;cases q:B[n]? with
  |none=>
   rw[nT n B (λxs z=>by rw[q] at z;cases z)] at P
   exact P.elim
  |some o=>
   cases o with
   |lst xs=>obtain⟨vs,h1,_⟩:=S1.ob n _ q;exact⟨_,rfl,⟨vs,c8.of h1⟩,gU (eZ.en hn) E1 S1 (L.ext E1) P⟩
   |_=>
    rw[nT n B (λxs z=>by rw[q] at z;cases z)] at P
    exact P.elim
 |_=>cases e3
theorem yX(Z:PassesOwn (model X.prog X.w) X.A X.env X.xe)(C:Ctx T g X sc N)(J:T.calm=true){ts:List Expr}{body:List Stmt}(hfn:∀y,X.fn y=true)(ht:rj sc N ts=some is)(ha:PE X it (tE X.K (run g a')))(hf:∀v,foldedSetIterable it X.env v=pure v)(hb:PSs X body (tS X.K Xw (execs g b'))):
  PS X (.For (.Tuple ts tk p2) it body [] pos) (tS X.K Xw (exec g (.forU is a' b'))):=by
 obtain⟨h1,h2,h3⟩:=gO C hfn ht;refine(gd Z (C.calm J) (oV ha) (oW (C.calm J) h1 h2 h3) hb hf).imp λD σ H Z=>?_;obtain⟨ι,st,loc,S,L,P⟩:=Z;rw[exec] at P;obtain⟨d,st1,e1,P⟩:=aR P;obtain⟨s,B,e2,P⟩:=aR P;obtain⟨U,rfl⟩:=bV e2;refine a6 S L e1 λH1 ι1 v I Y r1=>?_;cases r1 with
 |tup h r=>cases U;exact⟨_,rfl,.inr ⟨⟨_,h⟩,gU (cu.toG (cu.tup h r)) I Y (L.ext I) P⟩⟩
 |fl h r=>cases U;exact⟨_,rfl,.inl ⟨⟨_,h.sql⟩,gU (cu.toG (cu.fl h r)) I Y (L.ext I) P⟩⟩
 | @ref n hn=>
  cases U;cases q:B[n]? with
  |none=>
   rw[jc n B (λxs z=>by rw[q] at z;cases z)] at P
   exact P.elim
  |some o=>
   cases o with
   |lst xs=>obtain⟨vs,h1,_⟩:=Y.ob n _ q;exact⟨_,rfl,.inl ⟨⟨vs,c8.of h1⟩,gU (cu.toG (cu.ref hn)) I Y (L.ext I) P⟩⟩
   |_=>
    rw[jc n B (λxs z=>by rw[q] at z;cases z)] at P
    exact P.elim
 |_=>cases U
theorem Bm(Y:PassesOwn (model X.prog X.w) X.A X.env X.xe)(C:Ctx T g X sc N)(hcm:T.calm=true){body:List Stmt}(hx:isLocal sc x=true)(Z:∀y,X.fn y=true)(hi:e8 N x=some i)(ha:PE X it (tE X.K (run g a')))(hf:∀v,foldedSetIterable it X.env v=pure v)(hb:PSs X body (tS X.K Xw (execs g b'))):
  PS X (.For (.Name x p2) it body [] pos) (tS X.K Xw (exec g (.for_ i false a' b'))):=by
 refine(gd Y (C.calm hcm) (oV ha) (dE (i:=i) (by rw[C.n];exact C.nd) (by rw[C.n];exact ci hi) (fu C hx) (.inl (Z x))) hb hf).imp λD σ H Y=>?_
 obtain⟨ι,st,loc,S,L,P⟩:=Y;rw[exec] at P;obtain⟨d,st1,e1,P⟩:=aR P;obtain⟨s,B,e2,P⟩:=aR P;obtain⟨J,rfl⟩:=bV e2;refine a6 S L e1 λH1 ι1 v I U r1=>?_;cases r1 with
 |tup h r=>cases J;exact⟨_,rfl,.inr ⟨⟨_,h⟩,iz (cu.tup h r) I U (L.ext I) P⟩⟩
 |fl h r=>cases J;exact⟨_,rfl,.inl ⟨⟨_,h.sql⟩,iz (cu.fl h r) I U (L.ext I) P⟩⟩
 | @ref n hn=>
  cases J;cases q:B[n]? with
  |none=>
   rw[jc n B (λxs z=>by rw[q] at z;cases z)] at P
   exact P.elim
  |some o=>
   cases o with
   |lst xs=>obtain⟨vs,h1,_⟩:=U.ob n _ q;exact⟨_,rfl,.inl ⟨⟨vs,c8.of h1⟩,iz (cu.ref hn) I U (L.ext I) P⟩⟩
   |_=>
    rw[jc n B (λxs z=>by rw[q] at z;cases z)] at P
    exact P.elim
 |_=>cases J
theorem yY(J:PassesOwn (model X.prog X.w) X.A X.env X.xe)(C:Ctx T g X sc N)(Z:T.calm=true){body:List Stmt}(hx:isLocal sc x=true)(Y:∀y,X.fn y=true)(hi:e8 N x=some i)(hg:bI sc "range"=true)(B:starEach [a] X.env=[(false,eval a X.env)])(ha:PE X a (tE X.K (run g a')))(hb:PSs X body (tS X.K Xw (execs g b'))):
  PS X (.For (.Name x p2) (.Call (.Name "range" p3) [a] [] p4) body [] pos) (tS X.K Xw (exec g (.for_ i true a' b'))):=by
 have U:Gl X "range":=by show X.env.scope.names.lookup _=some .globalImplicit;rw[C.sc];simpa[bI] using hg
 refine(gd J (C.calm Z) (kZ U (C.blt _ (by decide+kernel)) (cq ha dM B) B) (dE (i:=i) (by rw[C.n];exact C.nd) (by rw[C.n];exact ci hi) (fu C hx) (.inl (Y x))) hb).imp λD σ H J=>?_
 obtain⟨ι,st,loc,S,L,P⟩:=J;rw[exec] at P;obtain⟨d,st1,e1,P⟩:=aR P;obtain⟨s,st2,e2,P⟩:=aR P;obtain⟨I,rfl⟩:=bV e2;refine a6 S L e1 λH1 ι1 v E1 S1 r1=>?_;cases r1 with
 |int j=>
  simp only[cY] at I;split at I
  ·rename_i hj;cases I;exact⟨j,rfl,by omega,by omega,iz cu.rng E1 S1 (L.ext E1) P⟩
  ·cases I
 |_=>cases I
theorem y2(J:PassesOwn (model X.prog X.w) X.A X.env X.xe)(C:Ctx T g X sc N)(Y:T.calm=true){b:Expr}{body:List Stmt}(hx:isLocal sc x=true)(U:∀y,X.fn y=true)(hi:e8 N x=some i)(hg:bI sc "range"=true)(I:starEach [a,b,c] X.env=(false,eval a X.env)::starEach [b,c] X.env)(h1:nI b=true)(h2:nI c=true)
  (ha:PE X a (tE X.K (run g a')))(hb:PSs X body (tS X.K Xw (execs g b'))):PS X (.For (.Name x p2) (.Call (.Name "range" p3) [a,b,c] [] p4) body [] pos) (tS X.K Xw (exec g (.forD i a' b'))):=by
 obtain⟨_,_,_,rfl⟩:=nH h1;obtain⟨_,_,_,rfl⟩:=nH h2;refine(gd J (C.calm Y) (wO (iN C hg) (C.blt _ (by decide+kernel)) (cq ha (cq (xV tf l8) (cq (xV tf l8) dM rfl) rfl) I) I λ_=>rfl) (dE (i:=i) (by rw[C.n];exact C.nd) (by rw[C.n];exact ci hi) (fu C hx) (.inl (U x))) hb).imp λD σ H J=>?_
 obtain⟨ι,st,loc,S,L,P⟩:=J;rw[exec] at P;obtain⟨d,st1,e1,P⟩:=aR P;obtain⟨s,st3,e3,P⟩:=aR P;obtain⟨B,rfl⟩:=bV e3;refine a6 S L e1 λH1 ι1 v E1 S1 r1=>?_;unfold lU at B;split at B
 ·split at B
  ·rename_i Z;cases B;cases r1;exact⟨1,rfl,1,rfl,_,rfl,Z.1,Z.2,iz cu.down E1 S1 (L.ext E1) P⟩
  ·cases B
 ·cases B
theorem y4:PS X (.Continue pos) (tS X.K Xw (exec g .cont)):=ny.imp λD σ H B=>by obtain⟨ι,st,loc,S,L,P⟩:=B;rw[exec] at P;exact P H ι σ (Ext.refl _ _ _) S L
end
theorem Sim.put{K:aD}(S:Sim K H ι st){o o':O}{ho:HO}(e:st[n]? =some o)(new:iI K (upd H (ι n) ho) ι st.length (ι n) o')(I:∀kvs,o≠ .dcf kvs:=by intro _ z;cases z):
  Ext H (upd H (ι n) ho) ι ι st.length st.length/\Sim K (upd H (ι n) ho) ι (st.set n o'):=by
 obtain⟨u,h1,Y,Z⟩:=(S.ob n o e).there2 I;have J:n<st.length:=(av e).1
 have E:Ext H (upd H (ι n) ho) ι ι st.length st.length:=by
  refine⟨⟨ac _,λ_ _=>rfl,λb zs q=>?_,λb B w q=>?_⟩,λb B q k=>⟨by rw[aG (k n J).symm];exact q,k⟩⟩
  ·rw[aG (b7 q h1 (λz=>Y _ z.symm))];exact q
  ·rw[aG (b7 q h1 (λz=>Z _ _ z.symm))];exact q
 refine⟨E,λi j hi hj=>S.inj i j (by simpa using hi) (by simpa using hj),λk B q=>?_⟩
 rw[au];by_cases hk:k=n
 ·subst hk;rw[aL J] at q;cases q;exact new
 ·rw[aF (Ne.symm hk)] at q;have U:k<st.length:=(av q).1;exact(S.ob k B q).move E.toExt0 (aG λz=>hk (S.inj k n U J z))
section
variable{T:Tab}{g:fe}{X:Cx}{sc:Scope}{N:List Str}{pos p2:Pos}{Xw:Addr->L2.St->Hp->Prop}
theorem z8{c:Str}{fs:List (Str×D)}{d:D}{v:V}(C:Ctx T g X sc N)(S:Sim X.K H ι st)(q:st[n]? =some (.ins c fs))(hc:c∈T.ics f)(hl:fs.length<900)(r:VRel X.K H ι st.length d v):
  ∃B dx vs,H (ι n)=some (.ins B dx vs)/\Cls X.K B/\eW X.K B f/\vs.length<1000/\Ext H (upd H (ι n) (.ins B dx (dk f v vs))) ι ι st.length (st.set n (O.ins c (putD f d fs))).length/\Sim X.K (upd H (ι n) (.ins B dx (dk f v vs))) ι (st.set n (.ins c (putD f d fs))):=by
 obtain⟨Y,hi,rfl,hf⟩:=qv hc;obtain⟨B,U,cl,na,_⟩:=C.icl Y hi;obtain⟨C1,dx,vs,J,h1,I,h3⟩:=S.ob n _ q;rw[U] at J;cases J;have lw:=I.length
 have X0:Ext0 H (upd H (ι n) (.ins B dx (dk f v vs))) ι ι st.length st.length:=by
  refine⟨ac _,λ_ _=>rfl,λb zs z=>?_,λb ob w z=>?_⟩
  ·rw[aG (b7 z h1 (by intro y;cases y))];exact z
  ·rw[aG (b7 z h1 (by intro y;cases y))];exact z
 have Z:(putD f d fs).length<=900:=by have:=fw f v vs;have:=(I.put (f:=f) r).length;omega
 obtain⟨E4,S4⟩:=S.put (ho:= .ins B dx (dk f v vs)) (o':= .ins Y.x (putD f d fs)) q ⟨B,dx,dk f v vs,U,bf,(I.put r).ext0 X0,Z⟩;exact⟨B,dx,vs,h1,cl,na f hf,by omega,by rw[au];exact E4,S4⟩
theorem yT(C:Ctx T g X sc N)(hn:xj e=true)(ho:PE X o (tE X.K (run g o')))(he:PE X e (tE X.K (run g e'))):PS X (.Assign [.Attribute o f p2] e pos) (tS X.K Xw (exec g (.setf o' f e' [] (T.ics f)))):=by
 refine(zq ho he (by cases e<;>first|rfl|cases hn)).imp λD σ H hp=>?_
 obtain⟨ι,st,loc,S,L,P⟩:=hp;rw[exec] at P;obtain⟨d,st1,e1,P⟩:=aR P;obtain⟨x,st2,e2,P⟩:=aR P;obtain⟨u,st3,B,P⟩:=aR P;unfold ng at B;cases x with
 |ref n=>
  dsimp only at B;split at B
  ·rename_i c fs q;split at B
   ·rename_i J;cases B;refine a6 S L e1 λH1 ι1 v Z S1 r1=>a6 S1 (L.ext Z) e2 λH2 ι2 vx Y S2 r2=>?_;have I:=Z.trans Y;cases r2 with
    |ref hnn=>obtain⟨C0,dx,vs,h1,cl,na,lz,U,S4⟩:=z8 C S2 q J.2 J.1 (r1.ext Y);exact⟨_,C0,dx,vs,rfl,h1,cl,na,lz,P _ ι2 σ (I.trans U) S4 (L.ext (I.trans U))⟩
   ·cases B
  ·cases B
 |_=>cases B
end
end Ev
set_option maxHeartbeats 4000000
namespace L2
open PySem PySem.Spec PyProof.Rows
variable{o tg:Expr}{ap cp:Pos}
def DJ(o:Obj)(d:Addr)(kvs:List (Key×V)):It:=
 ⟨λi H=>H d=some (.frz o (.dK kvs))/\∃p,kvs[i]? =some p,
  λi H v H'=>∃a p,v=.ref a/\H a=none/\kvs[i]? =some p/\H'=upd H a (.tup [kV p.1,p.2]),
  λi H=>H d=some (.frz o (.dK kvs))/\kvs.length<=i⟩
noncomputable def DV(o:Obj)(it d:Addr)(i:Nat)(h:Heap):Prop:=∃es ep ok ov,o.data=.dict es ep/\IsItemIter h it d i es.size ep ok ov
theorem lQ{X:Cx}{pins:List (Addr×Obj)}{σ:St}{H:Hp}{s:Shared}{d:Addr}{o:Obj}{kvs:List (Key×V)}{es:Array DictEntry}{ep:Nat}(I:Inv X pins σ H s)(e:H d=some (.frz o (.dK kvs)))(ho:o.data=.dict es ep):
  ∃vs,KV kvs vs/\s.heap.DictAt (bd X.prog X.w) d vs ep/\vs.length=es.size/\s.heap.get? d=some o:=by
 obtain⟨U,z,y,vs,r,dd⟩:=(show bT X.prog X.w H s.heap d (.frz o (.dK kvs)) from I.hok d _ e);obtain⟨ep',Y⟩:=dd.dictAt;have B:=Y;obtain⟨od,es',q1,q2,J,q4,Z,q6⟩:=B;rw[U] at q1;cases q1;rw[ho] at J;cases J;exact⟨vs,r,Y,by have:=Z.length;simp at this;omega,U⟩
theorem KV.get2{κ:Type}:∀{kvs:List (κ×V)}{vs:List (κ×Value)},KV kvs vs->∀{j:Nat}{p:κ×V},kvs[j]? =some p->∃u,vs[j]? =some (p.1,u)/\RelV p.2 u
 |_,_,.nil,_,_,h=>by simp at h
 |_,_,.cons r t,0,p,h=>by
  simp at h;subst h;exact⟨_,by rw[List.getElem?_cons_zero,r.1],r.2⟩
 |_,_,.cons r t,j+1,p,h=>KV.get2 t (by simpa using h)
theorem m4{P:Program}{w:World}{K:aD}{elts:List Expr}{k:Nat}{pos:Pos}(o:Obj)(d it:Addr)(kvs:List (Key×V)):Turn P w K (.Tuple elts k pos) (DJ o d kvs) [it] it (DV o it d) where
 mem:=by simp
 obj:=λi h ⟨es,ep,ok,Z,_,st⟩ b U=>by
  have:b=it:=by simpa using U
  subst this;exact⟨_,st,λv z=>nomatch (show Data.fields _=Data.cell v from z)⟩
 keep:=λi h h' ⟨es,ep,ok,Z,hd,st⟩ kk=>⟨es,ep,ok,Z,hd,kk it (by simp) _ st⟩
 item:=by
  intro X hP hw hK hc i pins s σ H E I hf st hg;subst hP hw hK;obtain⟨es,ep,ok,Z,hd,B⟩:=st;obtain⟨e,p,hp⟩:=hg;obtain⟨vs,r,da,J,ho⟩:=lQ I e hd
  have hne:d≠it:=λz=>by obtain⟨od,es',q1,q2,q3,q4,q5,q6⟩:=da;rw[z,B] at q1;cases q1;cases q3
  obtain⟨u,hu,ru⟩:=r.get2 hp;rw[<-J] at B;have lt:=am B;refine wpAny_pyNext_items_item B da hu λkey h1 hkey hio ht hsz hk=>?_;refine⟨_,rfl,wpAny_letOwnedTupleGo_items hio λh2 hit2 Y=>?_⟩
  replace Y:Heap.SameBut it h1 h2:=Y
  have ht2:h2.get? s.heap.objs.size=some {cls:= .type "tuple",data:= .seq #[key,u]}:=(Y.2 _ (bq lt)).trans ht;have hn:H s.heap.objs.size=none:=I.hok.fresh (ac _)
  have rk:RelV (kV p.1) key:=by
   rcases bC (show gR p.1 key=true from hkey) with⟨j,t,e1,e2⟩|⟨x,t,e1,e2⟩
   ·rw[e1,e2];exact⟨t,rfl⟩
   ·rw[e1,e2];exact⟨t,rfl⟩
  have I2:Inv X pins σ (upd H s.heap.objs.size (.tup [kV p.1,p.2])) {s with heap:=h2,toks:=s.toks}:=by
   refine I.turnLaid (fp:=[it]) hf (λb q U z=>?_) (ac _) ⟨(by show 2<=sizeLine;decide),[key,u],.cons rk (.cons ru .nil),?_⟩
   ·have U:b≠it:=λz=>U (by simp[z])
    exact(Y.2 b U).trans (hk b q U z)
   ·exact⟨_,ht2,⟨rfl,rfl⟩,_,rfl⟩
  refine⟨.ref s.heap.objs.size,_,I2,rfl,⟨_,p,rfl,hn,hp,rfl⟩,⟨es,ep,key,u,hd,by rw[<-J];exact hit2⟩,λb U=>?_⟩
  obtain⟨f0,_⟩:=hf b U;have eb:b=it:=by simpa using U
  subst eb;rw[aG (aC lt)];exact f0
 done:=by
  intro X hP hw hK hc i pins s σ H E I hf st hg;subst hP hw hK;obtain⟨es,ep,ok,Z,hd,B⟩:=st;obtain⟨e,hl⟩:=hg;obtain⟨vs,r,da,J,ho⟩:=lQ I e hd;have lv:=r.length;obtain⟨f0,f1,f2,f3,f4,f5⟩:=hf it (by simp)
  rw[<-J] at B;exact wpAny_pyNext_items_end (I.ok.hd hc) B da (aT (by omega)) λh' eb=>⟨rfl,I.turned (t':=s.toks) (λb o U e=>eb b o U e) f0 f1 f3 f4 f5⟩
 self:=λ_ _ _ _ _ ⟨es,ep,ok,Z,_,st⟩ h=>PySem.W.kcp_self st h
def Ad(X:Cx)(td:TE):TI:=λσ H R=>td σ H λx H1=>∃a kvs,x=.ref a/\H1 a=some (.dK kvs)/\∀o,(∀o' w,X.H₀ a≠some (.frz o' w))->R (DJ o a kvs) (upd H1 a (.frz o (.dK kvs)))
theorem uj{X:Cx}{elts:List Expr}{k:Nat}{tp:Pos}{td:TE}(ho:PE X o td)(Z:attributeBase o "items" X.env (eval o X.env)=eval o X.env)(hl:(ap.endLine==cp.line)=true):
  PI X (.Tuple elts k tp) (.Call (.Attribute o "items" ap) [] [] cp) (Ad X td):=by
 intro pins s σ H R I h;refine wpAny_Call_method0_late Z hl (bL (ho pins s σ H _ I h) λv B hp=>?_);obtain⟨x,H1,Y,r1,a,kvs,ex,hd,q1⟩:=hp;subst ex;obtain rfl:v=Value.ref a:=r1;obtain⟨ob,es,ep,vs0,g1,g2,g3,g4,g5,g6,lo⟩:=pq (Y.hok a _ hd);obtain⟨z,hs,vs,rel,dd⟩:=j5 Y.hok hd;obtain⟨t1,t2,_⟩:=eE Y (.inl ⟨kvs,.inl hd⟩);have nf:=Y.nofrzD hd;refine⟨"dict","dict.items",PySem.F.plainAttrs_dict,PySem.F.slot_dict_items,PySem.F.type_dict_items,t1,t2,Calls.callWith_builtin rfl (PySem.evalArgs_none ?_)⟩;refine call_meetsIn PySem.F.slot_dict_items t1 PySem.F.entry_dict_items (PySem.F.args_dict_items_1 _) (meets_dict_items (bd X.prog X.w) a hs) ⟨⟨vs,dd⟩,?_⟩;obtain⟨ep',U⟩:=(dd.push {cls:= .type "dict_items",data:= .fields #[.ref a]}).dictAt;have J:=U;obtain⟨od,es',d1,d2,d3,d4,d5,d6⟩:=J;rw[ah _ g1] at d1;cases d1;rw[g3] at d3;cases d3;have lv:vs.length=es.size:=by have:=d5.length;simp at this;omega
 refine wpAny_pyIter_items ⟨_,aw _ rfl,rfl,rfl⟩ U ?_;have I2:=((Y.freezeD hd g1).kept (t':=B.toks) (h':=B.heap.push {cls:= .type "dict_items",data:= .fields #[.ref a]}) λb q z=>ah _ z);have I3:=I2.kept (t':=B.toks) (h':=(B.heap.push {cls:= .type "dict_items",data:= .fields #[.ref a]}).push {cls:= .type "dict_itemiterator",data:= .fields #[.none,.bool false,.ref a,.int 0 0,.int vs.length 0,.int ep 0,.none,.none]}) λb q z=>ah _ z;refine⟨_,[(B.heap.push {cls:= .type "dict_items",data:= .fields #[.ref a]}).objs.size],_,_,_,rfl,I3,m4 ob a _ kvs,⟨es,ep,.none,.none,g3,?_⟩,λb Z=>?_,q1 ob nf⟩
 ·rw[<-lv];exact aw _ rfl
 ·have eb:b=(B.heap.push {cls:= .type "dict_items",data:= .fields #[.ref a]}).objs.size:=by simpa using Z
  subst eb;exact I2.fpOk (ac _) (I2.hok.fresh (ac _))
def Ends.thaw(X:Cx)(D:Ends):Ends:=⟨λσ=>xJ X (D.nx σ),λv=>xJ X (D.rt v),λσ=>xJ X (D.bk σ),λσ=>xJ X (D.ct σ)⟩
theorem PS.thawD{X:Cx}{st:Stmt}{t:TS}(h:PS X st t):PS X st λD σ H=>t (D.thaw X) σ H:=λpins s σ H D I q=>
 bL (h pins s σ H _ I q) λf Z B=>by
  cases f<;>simp only[SP] at B ⊢
  all_goals first
   |exact B
   |(obtain⟨σ1,H1,U,a,o,kvs,e,J,q2⟩:=B;exact⟨σ1,_,U.thawD e J,q2⟩)
   |(obtain⟨v,σ1,H1,U,Y,a,o,kvs,e,J,q2⟩:=B;exact⟨v,σ1,_,U.thawD e J,Y,q2⟩)
def DI(o:Obj)(d:Addr)(kvs:List (Key×V)):It:=
 ⟨λi H=>H d=some (.frz o (.dK kvs))/\∃p,kvs[i]? =some p,
  λi H v H'=>H'=H/\∃p,kvs[i]? =some p/\v=p.2,
  λi H=>H d=some (.frz o (.dK kvs))/\kvs.length<=i⟩
noncomputable def DU(o:Obj)(it d:Addr)(i:Nat)(h:Heap):Prop:=∃es ep,o.data=.dict es ep/\h.IsValIter it d i es.size ep
theorem oA{P:Program}{w:World}{K:aD}(o:Obj)(d it:Addr)(kvs:List (Key×V)):Turn P w K tg (DI o d kvs) [it] it (DU o it d) where
 mem:=by simp
 obj:=λi h ⟨es,ep,_,Z,ho,_,hd⟩ b hb=>by
  have:b=it:=by simpa using hb
  subst this;exact⟨Z,ho,λv z=>by rw[hd] at z;cases z⟩
 keep:=λi h h' ⟨es,ep,hd,Z,ho,r⟩ kk=>⟨es,ep,hd,Z,kk it (by simp) _ ho,r⟩
 item:=by
  intro X hP hw hK Y i pins s σ H E I hf st hg;subst hP hw hK;obtain⟨es,ep,hd,J⟩:=st;obtain⟨e,p,hp⟩:=hg;obtain⟨vs,r,da,B,ho⟩:=lQ I e hd;obtain⟨u,hu,ru⟩:=r.get2 hp;obtain⟨f0,f1,f2,f3,f4,f5⟩:=hf it (by simp)
  rw[<-B] at J;refine wpAny_pyNext_values_item J da hu λh' U hs'=>?_
  replace hs':Heap.SameBut it s.heap h':=hs'
  obtain⟨Z,ho,hcl,hda⟩:=id U;refine⟨_,rfl,nS (s:={s with heap:=h'}) (n:= "dict_valueiterator") ho hcl hda (by decide) ⟨p.2,H,I.turned (t':=s.toks) (λc q Y e=>hs'.extBut c q Y e) f0 f1 f3 f4 f5,ru,⟨rfl,p,hp,rfl⟩,⟨es,ep,hd,by rw[<-B];exact U⟩,λc Y=>(hf c Y).1⟩⟩
 done:=by
  intro X hP hw hK Y i pins s σ H E I hf st hg;subst hP hw hK;obtain⟨es,ep,hd,J⟩:=st;obtain⟨e,hl⟩:=hg;obtain⟨vs,r,da,B,ho⟩:=lQ I e hd;have lv:=r.length;obtain⟨f0,f1,f2,f3,f4,f5⟩:=hf it (by simp)
  rw[<-B] at J;exact wpAny_pyNext_values_end (I.ok.hd Y) J da (aT (by omega)) λh' eb=>⟨rfl,I.turned (t':=s.toks) (λb o hb e=>eb b o hb e) f0 f1 f3 f4 f5⟩
 self:=λ_ _ _ _ _ ⟨es,ep,_,st⟩ h=>wpAny_pyIter_valiter st h
def BW(X:Cx)(td:TE):TI:=λσ H R=>td σ H λx H1=>∃a kvs,x=.ref a/\H1 a=some (.dK kvs)/\∀o,(∀o' w,X.H₀ a≠some (.frz o' w))->R (DI o a kvs) (upd H1 a (.frz o (.dK kvs)))
theorem wN{X:Cx}{td:TE}(ho:PE X o td)(Z:attributeBase o "values" X.env (eval o X.env)=eval o X.env)(hl:(ap.endLine==cp.line)=true):
  PI X tg (.Call (.Attribute o "values" ap) [] [] cp) (BW X td):=by
 intro pins s σ H R I h;refine wpAny_Call_method0_late Z hl (bL (ho pins s σ H _ I h) λv B hp=>?_);obtain⟨x,H1,Y,r1,a,kvs,ex,hd,q1⟩:=hp;subst ex;obtain rfl:v=Value.ref a:=r1;obtain⟨ob,es,ep,vs0,g1,g2,g3,g4,g5,g6,lo⟩:=pq (Y.hok a _ hd);obtain⟨z,hs,vs,rel,dd⟩:=j5 Y.hok hd;obtain⟨t1,t2,_⟩:=eE Y (.inl ⟨kvs,.inl hd⟩);have nf:=Y.nofrzD hd;refine⟨"dict","dict.values",PySem.F.plainAttrs_dict,PySem.F.slot_dict_values,PySem.F.type_dict_values,t1,t2,Calls.callWith_builtin rfl (PySem.evalArgs_none ?_)⟩;refine call_meetsIn PySem.F.slot_dict_values t1 PySem.F.entry_dict_values (PySem.F.args_dict_values_1 _) (meets_dict_values (bd X.prog X.w) a hs) ⟨⟨vs,dd⟩,?_⟩;obtain⟨ep',U⟩:=(dd.push {cls:= .type "dict_values",data:= .fields #[.ref a]}).dictAt;have J:=U;obtain⟨od,es',d1,d2,d3,d4,d5,d6⟩:=J;rw[ah _ g1] at d1;cases d1;rw[g3] at d3;cases d3;have lv:vs.length=es.size:=by have:=d5.length;simp at this;omega
 refine wpAny_pyIter_values ⟨_,aw _ rfl,rfl,rfl⟩ U ?_;have I2:=((Y.freezeD hd g1).kept (t':=B.toks) (h':=B.heap.push {cls:= .type "dict_values",data:= .fields #[.ref a]}) λb q z=>ah _ z);have I3:=I2.kept (t':=B.toks) (h':=(B.heap.push {cls:= .type "dict_values",data:= .fields #[.ref a]}).push {cls:= .type "dict_valueiterator",data:= .fields #[.ref a,.int 0 0,.int vs.length 0,.int ep 0]}) λb q z=>ah _ z;refine⟨_,[(B.heap.push {cls:= .type "dict_values",data:= .fields #[.ref a]}).objs.size],_,_,_,rfl,I3,oA ob a _ kvs,⟨es,ep,g3,?_⟩,λb Z=>?_,q1 ob nf⟩
 ·rw[<-lv];exact⟨_,aw _ rfl,rfl,rfl⟩
 ·have eb:b=(B.heap.push {cls:= .type "dict_values",data:= .fields #[.ref a]}).objs.size:=by simpa using Z
  subst eb;exact I2.fpOk (ac _) (I2.hok.fresh (ac _))
end L2
set_option maxHeartbeats 16000000
namespace Ev
open PySem PySem.Spec PyProof.Rows L2
variable{a:Addr}{vs:List (Key×V)}{o:O}{kvs:List (Key×D)}{f i m m0 n:Nat}{b st:aW}{loc:Loc}{ι ι0:Nat->Addr}{d v x y:D}{ap cp:Pos}{c e o':Ex}{is:List Nat}{g:fe}{N cs:List Str}{w:World}{P:Program}{α:Type}{args es:List Ex}{L xs:List D}{hi lo:Option Int}
structure Thw(H H':Hp):Prop where
 tp:∀b xs,H b=some (.tup xs)->H' b=some (.tup xs)
 fz:∀b o u,(∀kvs,u≠ .dK kvs)->H b=some (.frz o u)->H' b=some (.frz o u)
section
variable{K:aD}{H H':Hp}{ι:Nat->Addr}{m:Nat}
theorem fV.thw{xs:List V}(e:Thw H H')(h:fV K H a xs):fV K H' a xs:=by
 rcases h with(h|⟨o,h⟩)|h
 ·exact .inl (.inl (e.tp _ _ h))
 ·exact .inl (.inr ⟨o,e.fz _ _ _ (λ_ z=>by cases z) h⟩)
 ·exact .inr h
theorem qZ.thw{xs:List V}(e:Thw H H')(h:qZ K H a xs):qZ K H' a xs:=by
 rcases h with⟨o,h⟩|h
 ·exact .inl ⟨o,e.fz _ _ _ (λ_ z=>by cases z) h⟩
 ·exact .inr h
mutual
theorem VRel.thw{K:aD}{H H':Hp}{ι:Nat->Addr}{m:Nat}(e:Thw H H'):∀{d:D}{v:V},VRel K H ι m d v->VRel K H' ι m d v
 |_,_,.non=>.non
 |_,_,.bl b=>.bl b
 |_,_,.int i=>.int i
 |_,_,.str x=>.str x
 |_,_,.tup h r=>.tup (fV.thw e h) (VRels.thw e r)
 |_,_,.fl h r=>.fl (qZ.thw e h) (VRels.thw e r)
 |_,_,.ref h=>.ref h
theorem VRels.thw{K:aD}{H H':Hp}{ι:Nat->Addr}{m:Nat}(e:Thw H H'):∀{ds:List D}{vs:List V},VRels K H ι m ds vs->VRels K H' ι m ds vs
 |_,_,.nil=>.nil
 |_,_,.cons h t=>.cons (VRel.thw e h) (VRels.thw e t)
end
theorem DRels.thw(e:Thw H H'){ds:List (Key×D)}(h:DRels K H ι m ds vs):DRels K H' ι m ds vs:=by
 induction h with
 |nil=>exact .nil
 |cons h t ih=>exact .cons (VRel.thw e h) ih
theorem FRels.thw(e:Thw H H'){ds:List (Str×D)}{vs:List (Str×V)}(h:FRels K H ι m ds vs):FRels K H' ι m ds vs:=by
 induction h with
 |nil=>exact .nil
 |cons h t ih=>exact .cons (VRel.thw e h) ih
theorem iI.thw(h:iI K H ι m a o)(E:Thw H H')(I:H' a=H a):iI K H' ι m a o:=by
 cases o with
 |lst ds=>obtain⟨xs,h1,B⟩:=h;exact⟨xs,I.trans h1,VRels.thw E B⟩
 |dct ds=>obtain⟨xs,h1,B⟩:=h;exact⟨xs,I.trans h1,B.thw E⟩
 |ins x fs=>obtain⟨C,dx,xs,h0,h1,B,U⟩:=h;exact⟨C,dx,xs,h0,I.trans h1,B.thw E,U⟩
 |dcf ds=>obtain⟨J,xs,h1,B⟩:=h;exact⟨J,xs,I.trans h1,B.thw E⟩
theorem Sim.freeze(S:Sim K H ι st)(e:st[n]? =some (.dct kvs)):∃vs,H (ι n)=some (.dK vs)/\DRels K H ι st.length kvs vs/\∀B,Ext H (upd H (ι n) (.frz B (.dK vs))) ι ι st.length st.length/\Sim K (upd H (ι n) (.frz B (.dK vs))) ι (st.set n (.dcf kvs)):=by
 obtain⟨vs,h1,I⟩:=S.ob n _ e;have J:n<st.length:=(av e).1;refine⟨vs,h1,I,λB=>?_⟩
 have E:Ext0 H (upd H (ι n) (.frz B (.dK vs))) ι ι st.length st.length:=by
  refine⟨ac _,λ_ _=>rfl,λb zs q=>?_,λb o u q=>?_⟩
  ·rw[aG (b7 q h1 (by intro z;cases z))];exact q
  ·rw[aG (b7 q h1 (by intro z;cases z))];exact q
 exact S.put e ⟨B,vs,bf,I.ext0 E⟩
theorem Sim.thaw(S:Sim K H ι st)(e:st[n]? =some (.dcf kvs)):∃B vs,H (ι n)=some (.frz B (.dK vs))/\Sim K (upd H (ι n) (.dK vs)) ι (st.set n (.dct kvs)):=by
 obtain⟨B,vs,h1,Z⟩:=S.ob n _ e;have J:n<st.length:=(av e).1
 have E:Thw H (upd H (ι n) (.dK vs)):=by
  refine⟨λb zs q=>?_,λb o u U q=>?_⟩
  ·rw[aG (b7 q h1 (by intro z;cases z))];exact q
  ·rw[aG (b7 q h1 (by intro z;cases z;exact U _ rfl))];exact q
 refine⟨B,vs,h1,λi j hi Y=>S.inj i j (by simpa using hi) (by simpa using Y),λk o q=>?_⟩
 rw[au];by_cases hk:k=n
 ·subst hk;rw[aL J] at q;cases q;exact⟨vs,bf,Z.thw E⟩
 ·rw[aF (Ne.symm hk)] at q;have I:k<st.length:=(av q).1;exact(S.ob k o q).thw E (aG λz=>hk (S.inj k n I J z))
theorem Ext.thaw{Hm:Hp}{ι':Nat->Addr}{m':Nat}{J:Obj}(E:Ext (upd H (ι n) (.frz J (.dK vs))) Hm ι ι' m m')(U:n<m)(I:H (ι n)=some (.dK vs)):Ext H (upd Hm (ι n) (.dK vs)) ι ι' m m':=by
 refine⟨⟨E.le,E.ad,λb zs q=>?_,λb o u q=>?_⟩,λb o q k=>?_⟩
 ·have B:=b7 q I (by intro z;cases z)
  rw[aG B];exact E.tp b zs (by rw[aG B];exact q)
 ·have B:=b7 q I (by intro z;cases z)
  rw[aG B];exact E.fz b o u (by rw[aG B];exact q)
 ·have B:b≠ι n:=(k n U).symm;obtain⟨q1,q2⟩:=E.fr b o (by rw[aG B];exact q) k
  exact⟨by rw[aG B];exact q1,q2⟩
theorem Thw.of{B:Obj}(h1:H a=some (.frz B (.dK vs))):Thw H (upd H a (.dK vs)):=by
 refine⟨λb zs q=>?_,λb o u I q=>?_⟩
 ·rw[aG (b7 q h1 (by intro z;cases z))];exact q
 ·rw[aG (b7 q h1 (by intro z;cases z;exact I _ rfl))];exact q
theorem LRel.thw{σ:L2.St}(e:Thw H H')(L:LRel K H ι m loc σ):LRel K H' ι m loc σ:=⟨L.len,λi d q=>let⟨v,h1,h2⟩:=L.at_ i d q;⟨v,h1,h2.thw e⟩⟩
theorem DRels.at_{ds:List (Key×D)}(h:DRels K H ι m ds vs):∀{i:Nat}{p:Key×D},ds[i]? =some p->∃v,vs[i]? =some (p.1,v)/\VRel K H ι m p.2 v:=by
 induction h with
 |nil=>intro i p e;simp at e
 |cons h t ih=>
  intro i p e;cases i with
  |zero=>simp at e;subst e;exact⟨_,rfl,h⟩
  |succ i=>exact ih (by simpa using e)
theorem z4(k:Key):VRel K H ι m (kD k) (kV k):=by
 cases k with
 |inl i=>exact .int i
 |inr x=>exact .str x
theorem eZ.di{J:Hp}{o:Obj}(hn:n<m0)(h0:J (ι0 n)=some (.frz o (.dK vs))):eZ K (DJ o (ι0 n) vs) (.di n) J ι0 m0:=λH ι st i E S=>by
 simp only[c9];cases q:st[n]? with
 |none=>exact⟨λe=>(by cases e),λx e=>(by cases e)⟩
 |some ob=>
  have rel:=S.ob n ob q;rw[E.ad n hn] at rel;cases ob with
  |dcf kvs=>
   obtain⟨o',Z,h1,r⟩:=rel;have z:=E.fz _ _ _ h0;rw[h1] at z;cases z;have l:=r.length;refine⟨λe=>?_,λx e=>?_⟩
   ·have e:kvs[i]?.map (λp=>D.tup [kD p.1,p.2])=none:=ag e;have e:kvs[i]? =none:=by simpa using e
    exact⟨h1,by have:=List.getElem?_eq_none_iff.mp e;omega⟩
   ·have e:=ag e;cases e2:kvs[i]? with
    |none=>rw[e2] at e;cases e
    |some p=>rw[e2] at e;have e:D.tup [kD p.1,p.2]=x:=ag e;subst e;obtain⟨v,I,rv⟩:=r.at_ e2;refine⟨⟨h1,_,I⟩,λw H' Y=>?_⟩;obtain⟨a,p',rfl,hp,B,rfl⟩:=Y;rw[I] at B;cases B;obtain⟨U,S1⟩:=S.tup (xs:=[kV p.1,v]) hp;exact⟨U,S1,.tup (.inl (.inl bf)) (.cons (z4 _) (.cons (rv.ext U) .nil))⟩
  |_=>exact⟨λe=>(by cases e),λx e=>(by cases e)⟩
end
theorem qH{B:aW}(e:sq d st=.ok n B):∃kvs,d=.ref n/\st[n]? =some (.dct kvs)/\B=st.set n (.dcf kvs):=by
 cases d with
 |ref k=>
  unfold sq at e;dsimp only at e;cases q:st[k]? with
  |none=>rw[q] at e;cases e
  |some o=>
   rw[q] at e;cases o with
   |dct kvs=>cases e;exact⟨kvs,rfl,q,rfl⟩
   |_=>cases e
 |_=>cases e
section
variable{T:Tab}{g:fe}{X:Cx}{sc:Scope}{N:List Str}{pos p2:Pos}{Xw:Addr->L2.St->Hp->Prop}
theorem kY{D:Ends}{H H1:Hp}{ι1:Nat->Addr}{st1:aW}{kvs:List (Key×Ev.D)}{Y:Obj}{f:M Fl}(E1:Ext H H1 ι ι1 st.length st1.length)(hn:n<st1.length)(g1:H1 (ι1 n)=some (.dK vs))(nf:∀o w,X.H₀ (ι1 n)≠some (.frz o w))
  (P:c6 X.K Xw H ι st (aZ f (λr=>rm n r) (st1.set n (.dcf kvs))) D):c6 X.K Xw (upd H1 (ι1 n) (.frz Y (.dK vs))) ι1 (st1.set n (.dcf kvs)) (f (st1.set n (.dcf kvs))) (D.thaw X):=by
 have ls:(st1.set n (.dcf kvs)).length=st1.length:=au ..;obtain⟨r,B,e3,P⟩:=aR P;rw[e3];unfold rm at P;cases q3:B[n]? with
 |none=>rw[q3] at P;exact P.elim
 |some o3=>
  rw[q3] at P;cases o3 with
  |dcf kvs3=>
   have key:∀{J:Hp}{ι3:Nat->Addr},Ext (upd H1 (ι1 n) (.frz Y (.dK vs))) J ι1 ι3 (st1.set n (.dcf kvs)).length B.length->Sim X.K J ι3 B->J (ι1 n)=some (.frz Y (.dK vs))/\Ext H (upd J (ι1 n) (.dK vs)) ι ι3 st.length (B.set n (.dct kvs3)).length/\Sim X.K (upd J (ι1 n) (.dK vs)) ι3 (B.set n (.dct kvs3)):=λ{J ι3} I Z=>by
    rw[ls] at I;obtain⟨ob3,vs3,k1,k2⟩:=Z.thaw q3;have ad:ι3 n=ι1 n:=I.ad n hn;have z:=I.fz _ _ _ (bf:upd H1 (ι1 n) (.frz Y (.dK vs)) (ι1 n)=_);rw[ad] at k1 k2;rw[k1] at z;cases z;exact⟨k1,by rw[au];exact E1.trans (I.thaw hn g1),k2⟩
   cases r with
   |nx loc3=>
    intro J ι3 σ3 I Z L3;obtain⟨U,a2,a3⟩:=key I Z;exact⟨ι1 n,Y,vs,U,nf,P _ ι3 σ3 a2 a3 (by rw[au];exact L3.thw (Thw.of U))⟩
   |ct loc3=>
    intro J ι3 σ3 I Z L3;obtain⟨U,a2,a3⟩:=key I Z;exact⟨ι1 n,Y,vs,U,nf,P _ ι3 σ3 a2 a3 (by rw[au];exact L3.thw (Thw.of U))⟩
   |rt d=>
    intro J ι3 w I Z r3;obtain⟨U,a2,a3⟩:=key I Z;exact⟨ι1 n,Y,vs,U,nf,P _ ι3 w a2 a3 (by rw[au];exact r3.thw (Thw.of U))⟩
   |ex n l=>exact P.elim
  |_=>exact P.elim
theorem yZ(I:PassesOwn (model X.prog X.w) X.A X.env X.xe)(C:Ctx T g X sc N)(B:T.calm=true){Y:List Expr}{tk:Nat}{o:Expr}{body:List Stmt}{b':List S}(J:∀y,X.fn y=true)(ht:rj sc N Y=some is)
  (U:attributeBase o "items" X.env (eval o X.env)=eval o X.env) (hl:(ap.endLine==cp.line)=true)(ho:PE X o (tE X.K (run g o')))(hb:PSs X body (tS X.K Xw (execs g b'))):
  PS X (.For (.Tuple Y tk p2) (.Call (.Attribute o "items" ap) [] [] cp) body [] pos) (tS X.K Xw (exec g (.forI is o' b'))):=by
 obtain⟨h1,h2,h3⟩:=gO C J ht;refine((gd I (C.calm B) (uj ho U hl) (oW (C.calm B) h1 h2 h3) hb (λ_=>rfl)).thawD).imp λD σ H I=>?_;obtain⟨ι,st,loc,S,L,P⟩:=I;rw[exec] at P;obtain⟨d,st1,e1,P⟩:=aR P;obtain⟨n,st2,e2,P⟩:=aR P;obtain⟨kvs,rfl,q,rfl⟩:=qH e2;refine a6 S L e1 λH1 ι1 v E1 S1 r1=>?_;cases r1 with
 |ref hn=>
  obtain⟨vs,g1,g2,g3⟩:=S1.freeze q;refine⟨ι1 n,vs,rfl,g1,λob nf=>?_⟩;obtain⟨E2,S2⟩:=g3 ob;have Z:(st1.set n (.dcf kvs)).length=st1.length:=au ..;exact gU (D:=D.thaw X) (st0:=st1.set n (.dcf kvs)) (eZ.di (by rw[Z];exact hn) bf) (Ext.refl _ _ _) S2 (by rw[Z];exact(L.ext E1).ext E2) (kY E1 hn g1 nf P)
theorem cu.dv{K:aD}{J:Hp}{o:Obj}(Z:n<m0)(h0:J (ι0 n)=some (.frz o (.dK vs))):cu K (DI o (ι0 n) vs) (.dv n) J ι0 m0:=λH ι st i E S=>by
 simp only[c9];cases q:st[n]? with
 |none=>exact⟨λe=>(by cases e),λx e=>(by cases e)⟩
 |some ob=>
  have rel:=S.ob n ob q;rw[E.ad n Z] at rel;cases ob with
  |dcf kvs=>
   obtain⟨o',Y,h1,r⟩:=rel;have z:=E.fz _ _ _ h0;rw[h1] at z;cases z;have l:=r.length;refine⟨λe=>?_,λx e=>?_⟩
   ·have e:kvs[i]?.map (λp=>p.2)=none:=ag e;have e:kvs[i]? =none:=by simpa using e
    exact⟨h1,by have:=List.getElem?_eq_none_iff.mp e;omega⟩
   ·have e:=ag e;cases e2:kvs[i]? with
    |none=>rw[e2] at e;cases e
    |some p=>rw[e2] at e;have e:p.2=x:=ag e;subst e;obtain⟨v,I,rv⟩:=r.at_ e2;refine⟨⟨h1,_,I⟩,λw H' U=>?_⟩;obtain⟨rfl,p',B,rfl⟩:=U;rw[I] at B;cases B;exact⟨rfl,rv⟩
  |_=>exact⟨λe=>(by cases e),λx e=>(by cases e)⟩
theorem yW(B:PassesOwn (model X.prog X.w) X.A X.env X.xe)(C:Ctx T g X sc N)(J:T.calm=true){x:Str}{o:Expr}{body:List Stmt}{b':List S}(hx:isLocal sc x=true)(I:∀y,X.fn y=true)(hi:e8 N x=some i)
  (U:attributeBase o "values" X.env (eval o X.env)=eval o X.env) (hl:(ap.endLine==cp.line)=true)(ho:PE X o (tE X.K (run g o')))(hb:PSs X body (tS X.K Xw (execs g b'))):
  PS X (.For (.Name x p2) (.Call (.Attribute o "values" ap) [] [] cp) body [] pos) (tS X.K Xw (exec g (.forW i o' b'))):=by
 refine((gd B (C.calm J) (wN ho U hl) (dE (i:=i) (by rw[C.n];exact C.nd) (by rw[C.n];exact ci hi) (fu C hx) (.inl (I x))) hb).thawD).imp λD σ H B=>?_
 obtain⟨ι,st,loc,S,L,P⟩:=B;rw[exec] at P;obtain⟨d,st1,e1,P⟩:=aR P;obtain⟨n,st2,e2,P⟩:=aR P;obtain⟨kvs,rfl,q,rfl⟩:=qH e2;refine a6 S L e1 λH1 ι1 v E1 S1 r1=>?_;cases r1 with
 |ref hn=>
  obtain⟨vs,Z,g2,g3⟩:=S1.freeze q;refine⟨ι1 n,vs,rfl,Z,λob nf=>?_⟩;obtain⟨E2,S2⟩:=g3 ob;have Y:(st1.set n (.dcf kvs)).length=st1.length:=au ..;exact iz (D:=D.thaw X) (st0:=st1.set n (.dcf kvs)) (cu.dv (by rw[Y];exact hn) bf) (Ext.refl _ _ _) S2 (by rw[Y];exact(L.ext E1).ext E2) (kY E1 hn Z nf P)
end
noncomputable abbrev og(X:Cx):Prop:=X.stack=X.env::X.outer/\X.env.frame=some X.env.locals
def SS(T:Tab)(g:fe)(n:Nat):Prop:=∀{X:Cx}{sc:Scope}{N:List Str}{s:Stmt}{s':S}{Xw:Addr->L2.St->Hp->Prop},Ctx T g X sc N->(∀y,X.fn y=true)->PassesOwn (model X.prog X.w) X.A X.env X.xe->og X->cS T n sc N s=some s'->PS X s (tS X.K Xw (exec g s'))
def CD(T:Tab)(g:fe)(n:Nat):Prop:=∀{X:Cx}{sc:Scope}{N:List Str}{s:List Stmt}{s':List S}{Xw:Addr->L2.St->Hp->Prop},Ctx T g X sc N->(∀y,X.fn y=true)->PassesOwn (model X.prog X.w) X.A X.env X.xe->og X->yn T n sc N s=some s'->PSs X s (tS X.K Xw (execs g s'))
theorem tJ{T:Tab}(h1:SS T g n)(U:CD T g n):CD T g (n+1):=by
 intro X sc N s s' Xw C J B I h;cases s with
 |nil=>cases h;refine wI.imp λD σ H B=>?_;obtain⟨ι,st,loc,S,L,P⟩:=B;rw[execs] at P;exact P H ι σ (Ext.refl _ _ _) S L
 |cons a r=>
  obtain⟨r',Y,rfl⟩:=map_some h
  have Z:PS X a (tS X.K Xw (exec g ((cS T n sc N a).getD .stop))):=by
   cases q:cS T n sc N a with
   |none=>exact tW
   |some a'=>exact h1 C J B I q
  refine(ud Z (U (Xw:=Xw) C J B I Y)).imp λD σ H B=>?_;obtain⟨ι,st,loc,S,L,P⟩:=B;rw[execs] at P;obtain⟨f,st1,e1,P⟩:=aR P;refine⟨ι,st,loc,S,L,?_⟩;rw[e1];cases f with
  |nx loc1=>exact λH1 ι1 σ1 E1 S1 L1=>⟨ι1,st1,loc1,S1,L1,P.mono E1⟩
  |rt d=>exact P
  |ex n l=>exact P
  |ct l=>exact P
theorem tG{T:Tab}{sc:Scope}{e:Expr}{e':Ex}(I:uJ e=false)(B:cE T n sc N e=some e')(o:Option Expr)(l:Nat)(env:Env)(ho:o=none∨∃x p,o=some (.Name x p)):swapsWith e o l env=pure false:=by
 cases n with
 |zero=>cases B
 |succ n=>
  rcases ho with rfl|⟨x,p,rfl⟩
  ·cases e<;>first|rfl|(cases B;done)|cases I
  ·cases e<;>first|rfl|(cases B;done)|cases I
theorem wx{T:Tab}(h2:CD T g n):SS T g (n+1):=by
 intro X sc N s s' Xw C J U I h;have snd:=sound T g n;have B:=λ{e:Expr}{e':Ex}(q:cE T n sc N e=some e')=>snd.1 C q;cases s with
 |Assign ts e _=>
  obtain⟨t,ht,h⟩:=bs h;cases cH ht;clear ht;cases t with
  |Name x px=>
   obtain⟨Y,h⟩:=fX h;obtain⟨i,hi,h⟩:=bs h;obtain⟨e',hee,rfl⟩:=map_some h;have k1:X.N[i]? =some x:=by rw[C.n];exact ci hi
   by_cases hk:uJ e=true
   ·cases e with
    |ListComp elt gens scope pos=>
     cases n with
     |zero=>cases hee
     |succ m=>obtain⟨xs,t,it,ifs,rfl,Z,hc,hd⟩:=qX (sound T g m).1 C hee;exact(iS.ps C Z hc hd k1 (fu C Y) (.inl (J _))).imp λD σ H q=>t7 q
    |_=>cases hk
   ·exact(uf (by rw[C.n];exact C.nd) k1 (fu C Y) (B hee).1 (tG (by simpa using hk) hee _ _ _ (.inr ⟨_,_,rfl⟩)) (.inl (J _))).imp λD σ H q=>t7 q
  |Subscript o i _=>
   obtain⟨hp',h⟩:=fX h;obtain⟨o',a1,h⟩:=bs h;obtain⟨i',a2,h⟩:=bs h;obtain⟨e',a3,rfl⟩:=map_some h;exact wq (by have:=C.un;omega) hp'.1 hp'.2 (B a1).1 (B a2).1 (B a3).1
  |Attribute o f _=>obtain⟨hnc,h⟩:=fX h;obtain⟨o',a1,h⟩:=bs h;obtain⟨e',a2,rfl⟩:=map_some h;exact yT C hnc (B a1).1 (B a2).1
  |_=>cases h
 |Return o _=>
  cases o with
  |none=>cases h
  |some e=>
   cases h;cases q:cE T n sc N e with
   |none=>exact tW
   |some e'=>exact Bj (B q).1
 |Expr e _=>
  rcases nA h with⟨z,hq,h⟩|⟨_,h⟩
  ·obtain⟨o',a1,h⟩:=bs h;obtain⟨e',a2,rfl⟩:=map_some h;obtain⟨m,ap,cp,rfl,hm⟩:=oa hq;simp only[Bool.and_eq_true] at hm;exact Bw hm.1.1 hm.1.2 (b6 a2 [] _) (cr hm.2 _ _) (B a1).1 (B a2).1
  rcases nA h with⟨z,hq,h⟩|⟨_,h⟩
  ·obtain⟨o',a1,h⟩:=bs h;obtain⟨e',a2,rfl⟩:=map_some h;obtain⟨m,ap,cp,rfl,hm⟩:=oa hq;simp only[Bool.and_eq_true] at hm;exact Bn hm.1.1 hm.1.2 (b6 a2 [] _) (cr hm.2 _ _) (B a1).1 (B a2).1
  ·obtain⟨o,hq,h⟩:=bs h;obtain⟨o',a1,rfl⟩:=map_some h;obtain⟨ap,cp,rfl,h4,h5⟩:=gP hq;exact Bq h4 (cr h5 _ _) (B a1).1
 |AugAssign t op e _=>
  cases t with
  |Name x _=>
   cases op with
   |Add=>
    obtain⟨Y,h⟩:=fX h;obtain⟨i,hi,h⟩:=bs h;obtain⟨e',q,rfl⟩:=map_some h;exact Bv (by rw[C.n];exact C.nd) (by rw[C.n];exact ci hi) (fu C Y) (J _) (B q).1
   |_=>cases h
  |Subscript o i _=>
   cases op with
   |Add=>obtain⟨Y,h⟩:=fX h;obtain⟨o',q1,h⟩:=bs h;obtain⟨i',q2,h⟩:=bs h;obtain⟨e',q3,rfl⟩:=map_some h;exact y7 Y (B q1).1 (B q2).1 (B q3).1
   |_=>cases h
  |_=>cases h
 |Continue _=>cases h;exact y4
 |If c a b _=>obtain⟨c',a1,h⟩:=bs h;obtain⟨a',a2,h⟩:=bs h;obtain⟨b',a3,rfl⟩:=map_some h;exact Db (B a1).2 (h2 (Xw:=Xw) C J U I a2) (h2 (Xw:=Xw) C J U I a3)
 |For t it body els _=>
  cases els with
  |cons=>cases h
  |nil=>
   cases t with
   |Name x _=>
    obtain⟨Y,h⟩:=fX h;obtain⟨i,hi,h⟩:=bs h;obtain⟨b',hb,h⟩:=bs h;rcases nA h with⟨a,ha,h⟩|⟨_,h⟩
    ·obtain⟨a',q,rfl⟩:=map_some h;obtain⟨hg,_,_,rfl⟩:=nj ha;exact yY U C Y.2 Y.1 J hi hg (b6 q [] _) (B q).1 (h2 (Xw:=Xw) C J U I hb)
    rcases nA h with⟨z,hz,h⟩|⟨_,h⟩
    ·obtain⟨a',q1,rfl⟩:=map_some h;obtain⟨hg,_,_,_,_,rfl,m1,m2⟩:=t4 hz;exact y2 U C Y.2 Y.1 J hi hg (b6 q1 _ _) m1 m2 (B q1).1 (h2 (Xw:=Xw) C J U I hb)
    rcases nA h with⟨z,hz,h⟩|⟨_,h⟩
    ·obtain⟨o',q1,rfl⟩:=map_some h;obtain⟨ap,cp,rfl,h4,h5⟩:=gP hz;exact yW U C Y.2 Y.1 J hi (cr h5 _ _) h4 (B q1).1 (h2 (Xw:=Xw) C J U I hb)
    ·obtain⟨a',q,rfl⟩:=map_some h;exact Bm U C Y.2 Y.1 J hi (B q).1 (je q _) (h2 (Xw:=Xw) C J U I hb)
   |Tuple ts _ _=>
    obtain⟨Z,h⟩:=fX h;obtain⟨is,ht,h⟩:=bs h;obtain⟨b',hb,h⟩:=bs h;rcases nA h with⟨z,hz,h⟩|⟨_,h⟩
    ·obtain⟨a',q1,rfl⟩:=map_some h;obtain⟨hg,_,_,rfl⟩:=jI hz;exact y1 U C Z J ht hg (b6 q1 [] _) (B q1).1 (h2 (Xw:=Xw) C J U I hb)
    rcases nA h with⟨z,hz,h⟩|⟨_,h⟩
    ·obtain⟨o',q1,rfl⟩:=map_some h;obtain⟨ap,cp,rfl,h4,h5⟩:=gP hz;exact yZ U C Z J ht (cr h5 _ _) h4 (B q1).1 (h2 (Xw:=Xw) C J U I hb)
    ·obtain⟨a',q,rfl⟩:=map_some h;exact yX U C Z J ht (B q).1 (je q _) (h2 (Xw:=Xw) C J U I hb)
   |_=>cases h
 |While c body els _=>
  cases els with
  |cons=>cases h
  |nil=>obtain⟨c',hc,h⟩:=bs h;obtain⟨b',hb,rfl⟩:=map_some h;exact yS U (B hc).2 (h2 (Xw:=Xw) C J U I hb)
 |_=>cases h
theorem lR(T:Tab)(g:fe):∀n,SS T g n/\CD T g n
 |0=>⟨λC J I B h=>(by cases h),λC J I B h=>(by cases h)⟩
 |n+1=>⟨wx (lR T g n).2,tJ (lR T g n).1 (lR T g n).2⟩
structure Rec where
 name:Str
 fname:Str
 qual:Str
 ps:List Str
 N:List Str
 st:Stmt
 fn:Fn
structure Chk(T:Tab)(r:Rec):Prop where
 sc:FnScope r.N r.ps (bR r.st)
 nm:∀x∈r.N,(x==("__debug__":Str))=false/\(x==("__classdict__":Str))=false
 cc:yn T 100 (bR r.st) r.N (cU r.st)=some r.fn.body
 ar:r.fn.ar=r.ps.length
 nl:r.fn.nl=r.N.length
structure Lnk(K:aD)(r:Rec)(a:Addr)(fd:FuncData):Prop where
 f:Fun K r.fname r.qual r.st a fd
 b:Binds K fd r.ps []
theorem D5{K:aD}{mg:Str->Option Value}{base:Heap}{x qual:Str}{st:Stmt}{f:Addr}{fd:FuncData}{ps:List Str}{k:Nat}{sp:Sp}(F:Fun K x qual st f fd)(S:FnScope N ps (bR st))(len:∀vs H Q E,sp vs H Q E->vs.length=ps.length)
  (I:∀(B:Value)(A:Around)(outer:List Env)(s:Shared)(H:Hp)(vs:List V)(Q:VK)(E:XK),Room k (A.deeper (envOfC qual (bR st) s.heap.objs.size f B))->sp vs H Q E->
   ∃t,PSs (pw (oq P w) P w K mg base N qual (bR st) f B A outer s H E) (cU st) t/\t {nx:=λ_ H'=>Q .non H',rt:=Q} (start N vs) H):FnOk P w K mg base (oq P w) (k+1) f fd ps sp:=by
 obtain⟨oc,od,kV,doc,pm,an,B,ct,Y,rfl,lk,U⟩:=F.ex;exact B2 lk U S len λA outer s H vs Q E Z J=>I B A outer s H vs Q E Z J
theorem iG{bg:List Rec}{T:Tab}{r:Rec}(B:bg[i]? =some r)(I:Chk T r):∀(n:Nat)(ds:List D)(st:aW),ds.length≠r.ps.length->calls (bg.map (·.fn)) n i ds st=.bad
 |0,_,_,_=>rfl
 |n+1,ds,st,h=>by
  have e:(bg.map (·.fn))[i]? =some r.fn:=by rw[aq,B];rfl
  simp only[calls,e,qW];rw[if_neg (by rw[I.ar];exact h)]
  rfl
theorem rp{K:aD}{H:Hp}{ds:List D}{vs:List V}(r:VRels K H ι m ds vs)(N:List Str)(k:Nat)(I:k=N.length):LRel K H ι m (ds.map some++List.replicate (k - ds.length) none) (L2.start N vs):=by
 have l:=r.length;refine⟨by simp[L2.start,l,I],λi d e=>?_⟩
 by_cases hi:i<ds.length
 ·rw[ao (by simpa using hi),aq] at e
  cases q:ds[i]? with
  |none=>rw[q] at e;cases e
  |some d'=>
   rw[q] at e;have e':d'=d:=by simpa using e
   subst e';obtain⟨v,B,rv⟩:=r.get q;refine⟨v,?_,rv⟩;unfold L2.start;rw[ao (by simpa[<-l] using hi),aq,B]
   rfl
 ·rw[aE (by simpa using hi),List.getElem?_replicate] at e
  split at e<;>cases e
structure Facts(P:Program)(w:World)(K:aD)(mg:Str->Option Value)(T:Tab)(bg:List Rec):Prop where
 chk:∀r∈bg,Chk T r
 calm:T.calm=true
 fns:∀(i:Nat)(f:Str),T.fns[i]? =some f->(f==("__debug__":Str))=false/\∃r a fd,bg[i]? =some r/\Lnk K r a fd/\mg f=some (.ref a)
 csts:∀x d,T.csts.lookup x=some d->(x==("__debug__":Str))=false/\∃u v,mg x=some u/\RelV v u/\∀H ι m,VRel K H ι m d v
 blt:∀x∈sF,mg x=none
 icl:∀c∈T.icl,∃C,PySem.W.nsIn K mainGlobals c.x=some (some (.ref C))/\Cls K C/\(∀f∈c.flds,eW K C f)/\(∀(m:Str)(j:Nat),(m,j)∈c.mts->∃r a fd,bg[j]? =some r/\Lnk K r a fd/\Meth K C m a)
 mks:∀(x:Str)(j:Nat),(x,j)∈T.mks->(x==("__debug__":Str))=false/\∃C r a fd,bg[j]? =some r/\Lnk K r a fd/\PySem.W.nsIn K mainGlobals x=some (some (.ref C))/\mg x=some (.ref C)/\Mk K C a
theorem jg{P:Program}{w:World}{K:aD}{mg:Str->Option Value}{base:Heap}{T:Tab}{bg:List Rec}(Z:Facts P w K mg T bg):
  ∀(n i:Nat)(r:Rec)(a:Addr)(fd:FuncData),bg[i]? =some r->Lnk K r a fd->FnOk P w K mg base (oq P w) (2*n) a fd r.ps (Bg K r.ps.length (calls (bg.map (·.fn)) n i))
 |0,i,r,a,fd,hr,L=>⟨λvs H Q E h=>h.1,λA outer s H args us vs Q E _ _ _ _ h=>by obtain⟨_,ι,st,ds,_,_,q⟩:=h;exact False.elim q⟩
 |n+1,i,r,a,fd,hr,L=>by
  have c:=Z.chk r (aj hr);refine D5 (k:=2*n+1) L.f c.sc (λvs H Q E h=>h.1) (λcdv A outer s H vs Q E I h=>?_);obtain⟨hlen,ι,st,ds,S,rv,q⟩:=h;have un:=I.un
  have C:Ctx T (calls (bg.map (·.fn)) n) (pw (oq P w) P w K mg base r.N r.qual (bR r.st) a cdv A outer s H E) (bR r.st) r.N:=by
   refine⟨rfl,rfl,c.sc.nd,c.nm,λ_=>rfl,?_,λj f hj=>?_,Z.csts,Z.blt,λc hc=>?_,λx j hj=>?_⟩
   ·show(A.deeper _).units+100<cLine;omega
   ·obtain⟨hd,U,Y,fd2,B,J,hm⟩:=Z.fns j f hj;exact⟨hd,Y,fd2,U.ps,2*n,hm,J.f.kp,J.b,I.mono (Nat.le_succ _),iG B (Z.chk U (aj B)) n,jg Z n j U Y fd2 B J⟩
   ·obtain⟨C0,q1,q2,q3,q4⟩:=Z.icl c hc;refine⟨C0,q1,q2,q3,λm j hj=>?_⟩;obtain⟨U,Y,fd2,B,J,M⟩:=q4 m j hj;exact⟨Y,fd2,U.ps,2*n,M,J.b,I.mono (Nat.le_succ _),iG B (Z.chk U (aj B)) n,jg Z n j U Y fd2 B J⟩
   ·obtain⟨hd,C0,U,Y,fd2,B,J,q1,q2,q3⟩:=Z.mks x j hj;exact⟨hd,C0,Y,fd2,U.ps,2*n,q1,q2,q3,J.b,I,iG B (Z.chk U (aj B)) n,jg Z n j U Y fd2 B J⟩
  refine⟨_,(lR _ _ 100).2 (Xw:=λa _ H'=>E (.ref a) none H') C (λ_=>rfl) PassesOwn.leaving ⟨rfl,rfl⟩ c.cc,ι,st,ds.map some++List.replicate (r.fn.nl - ds.length) none,S,rp rv _ _ c.nl,?_⟩;have e:(bg.map (·.fn))[i]? =some r.fn:=by rw[aq,hr];rfl
  have hd:ds.length=r.fn.ar:=by rw[rv.length,hlen,c.ar]
  simp only[calls,e,qW] at q;rw[if_pos hd] at q;unfold aZ at q;cases e1:execs (calls (bg.map (·.fn)) n) r.fn.body (ds.map some++List.replicate (r.fn.nl - ds.length) none) st with
  |bad=>rw[e1] at q;exact q.elim
  |ok f st1=>
   rw[e1] at q;cases f with
   |nx loc=>exact λH1 ι1 σ1 E1 S1 L1=>q H1 ι1 .non E1 S1 .non
   |rt d=>exact q
   |ex m l=>exact λH1 ι1 σ1 E1 S1 L1=>q H1 ι1 E1 S1
   |ct l=>exact q.elim
def p6(K:aD):Sp:=λvs H Q _=>∃(a:Addr)(ns:List Int),vs=[.ref a]/\c8 K H a (ns.map V.int)/\xL H/\ns.length<=63/\∀H',Q (.bl true) H'
theorem nK{K:aD}{H:Hp}{ι:Nat->Addr}{m:Nat}:∀ns:List Int,VRels K H ι m (ns.map .int) (ns.map V.int)
 |[]=>.nil
 |n::ns=>.cons (.int n) (nK ns)
theorem zW{K:aD}{mg:Str->Option Value}{base:Heap}{fd:FuncData}{x:Str}{f:List D->M Rs}(F:FnOk P w K mg base (oq P w) n a fd [x] (Bg K 1 f))
  (h:∀ns:List Int,ns.length<=63->∃st',f [.fl (ns.map .int)] []=.ok (.v (.bl true)) st'):FnOk P w K mg base (oq P w) n a fd [x] (p6 K):=by
 refine F.imp λvs H Q E B=>?_;obtain⟨a,ns,e,J,U,I,q⟩:=B;subst e;obtain⟨st',e⟩:=h ns I;refine⟨rfl,λ_=>0,[],[.fl (ns.map .int)],⟨λi _ hi=>absurd hi (Nat.not_lt_zero _),λi o e=>by simp at e⟩,.cons (.fl (xs:=ns.map V.int) ?_ (nK ns)) .nil,?_⟩
 ·rcases J with(h|h)|h
  ·rcases U a with z|⟨o,xs,z⟩
   ·rw[h] at z;cases z
   ·rw[h] at z;cases z
  ·exact .inl h
  ·exact .inr h
 ·rw[e];intro H' ι' v Z Y r;cases r;exact q H'
theorem walk{l:PySem.W.OpenLaw}{q:Program}{loose:List Str}{XP:(Str->Option Value)->Heap->Prop}{YP:World->Heap->Prop}{d:DefRec}{K:Params->aD}{x:Str}(J:l.most=some 63)(B:d.params.defaults=[])(I:Room n callerA)
  (hY:∀(w:World)(h:Heap),YP w h->(K w.params).In h)
  (F:∀(w:World)(mg:Str->Option Value)(fa:Addr)(h:Heap),(K w.params).In h->h.Ns mainGlobals mg->mg d.name=some (.ref fa)->
   ∃fd:FuncData,(∀(s:Shared)(u:Value),BindsTo s fd ⟨[u],[]⟩ [(x,u)])/\∀base:Heap,(K w.params).In base->base.Ns mainGlobals mg->FnOk l.prog w (K w.params) mg base (oq l.prog w) n fa fd [x] (p6 (K w.params))):
  PySem.W.WalkO q loose XP YP l.row.toRowW d [] (λf vs=>PySem.call f vs):=
 L2.vQ (n:=63) (k:=n) (x:=x) (CX:=λw=>oq l.prog w) (sp:=λw=>p6 (K w.params)) J (by decide) B I hY F (λ_ _ a ns U Z Y=>⟨a,ns,rfl,Y,Z,U,λ_=>rfl⟩) λ_ _ _ _ _ z=>z.elim
set_option maxHeartbeats 4000000
noncomputable def z7(o:Option (Option Value))(s:String):Bool:=match o with
 |some (some (.builtin t))=>t==s
 |_=>false
theorem xk{o:Option (Option Value)}{s:String}(h:z7 o s=true):o=some (some (.builtin s)):=by
 unfold z7 at h;split at h
 ·rename_i t;have:t=s:=by simpa using h
  rw[this]
 ·cases h
noncomputable def xi(o:Option (Option Value)):Bool:=match o with
 |some none=>true
 |_=>false
theorem qA{o:Option (Option Value)}(h:xi o=true):o=some none:=by
 unfold xi at h;split at h
 ·rfl
 ·cases h
def lC(K:aD)(x:Str)(f:Addr->Bool):Bool:=match PySem.W.nsIn K mainGlobals x with
 |some (some (.ref C))=>f C
 |_=>false
theorem hU{K:aD}{x:Str}{f:Addr->Bool}(h:lC K x f=true):∃C,PySem.W.nsIn K mainGlobals x=some (some (.ref C))/\f C=true:=by
 unfold lC at h;split at h
 ·exact⟨_,by assumption,h⟩
 ·cases h
def uI(K:aD)(o:Option (Option Value)):Bool:=match o with
 |some (some v)=>PySem.W.isFn K v
 |_=>false
section
variable{K:aD}{mg:Str->Option Value}{T:Tab}{bg:List Rec}{h:Heap}
def xl(K:aD)(T:Tab):Bool:=
 (T.icl.all λc=>lC K c.x λC=>PySem.W.plainGet K C Str.empty&&(PySem.W.hasDictIn K C&&(PySem.W.plainOver K C&&(z7 (PySem.W.findIn K (.ref C) "__setattr__") "object.__setattr__" &&(c.flds.all (λf=>xi (PySem.W.findIn K (.ref C) f))&&
  c.mts.all (λp=>uI K (PySem.W.findIn K (.ref C) p.1)))))))&&
 ((T.mks.all λp=>lC K p.1 λC=>PySem.W.makesIn K C&&(PySem.W.keepIn K (.ref C)&&uI K (PySem.W.findIn K (.ref C) "__init__"))))
noncomputable def Cu(K:aD)(bg:List Rec)(x m:Str)(j:Nat):Prop:=∃C r a fd,bg[j]? =some r/\Lnk K r a fd/\PySem.W.nsIn K mainGlobals x=some (some (.ref C))/\PySem.W.findIn K (.ref C) m=some (some (.ref a))
noncomputable def DF(K:aD)(mg:Str->Option Value)(bg:List Rec)(x:Str)(j:Nat):Prop:=(x==("__debug__":Str))=false/\∃C r a fd,bg[j]? =some r/\Lnk K r a fd/\PySem.W.nsIn K mainGlobals x=some (some (.ref C))/\mg x=some (.ref C)/\PySem.W.findIn K (.ref C) "__init__"=some (some (.ref a))
theorem nJ{v:Value}{o:Option (Option Value)}(h:uI K o=true)(e:o=some (some v)):PySem.W.isFn K v=true:=by rw[e] at h;exact h
theorem u8(X:K.In h)(G:h.Ns mainGlobals mg)(hc:∀r∈bg,Chk T r)(hq:T.calm=true)(J:T.fns.length<=bg.length)
  (B:∀p∈List.zip T.fns bg,(p.1==("__debug__":Str))=false/\∃a fd,Lnk K p.2 a fd/\mg p.1=some (.ref a))
  (Z:∀x d,T.csts.lookup x=some d->(x==("__debug__":Str))=false/\∃u v,mg x=some u/\RelV v u/\∀H ι m,VRel K H ι m d v)
  (hb:∀x∈sF,mg x=none)
  (hI:xl K T=true)(hm:∀c∈T.icl,∀p∈c.mts,Cu K bg c.x p.1 p.2)(hk:∀p∈T.mks,DF K mg bg p.1 p.2):Facts P w K mg T bg:=by
 unfold xl at hI;simp only[Bool.and_eq_true] at hI;obtain⟨i2,i3⟩:=hI;refine⟨hc,hq,?_,Z,hb,?_,?_⟩
 ·intro i f e;have hl:i<bg.length:=aA (av e).1 J;have er:bg[i]? =some bg[i]:=ae hl;have:(f,bg[i])∈List.zip T.fns bg:=aj (i:=i) (by rw[List.getElem?_zip_eq_some];exact⟨e,er⟩)
  obtain⟨d,a,fd,L,m⟩:=B _ this;exact⟨d,_,a,fd,er,L,m⟩
 ·intro c U;obtain⟨C,e,q⟩:=hU (List.all_eq_true.mp i2 c U);simp only[Bool.and_eq_true] at q;obtain⟨q1,q2,q3,q4,q5,q6⟩:=q;refine⟨C,e,⟨q1,q2,q3,xk q4⟩,λf B=>qA (List.all_eq_true.mp q5 f B),λm j I=>?_⟩
  ·obtain⟨C',r,a,fd,Y,L,e',B⟩:=hm c U (m,j) I;rw[e] at e';cases e';exact⟨r,a,fd,Y,L,⟨B,nJ (List.all_eq_true.mp q6 (m,j) I) B,L.f.kp⟩⟩
 ·intro x j hx;obtain⟨hd,C,r,a,fd,Y,L,e,m,B⟩:=hk (x,j) hx;obtain⟨C',e',q⟩:=hU (List.all_eq_true.mp i3 (x,j) hx);rw[e] at e';cases e';simp only[Bool.and_eq_true] at q;exact⟨hd,C,r,a,fd,Y,L,e,m,⟨q.1,B,nJ q.2.2 B,q.2.1⟩⟩
end
def AL(r:Rec):Option Obj->Option Obj
 |some ⟨oc,od,.func f,sl⟩=>some ⟨oc,od,.func (PySem.W.fnOf r.fname r.qual (dG r.st) (cU r.st) (bR r.st) .none f.kwdefaults f.doc f.pyModule f.annotations f.code f.closureTuple),sl⟩
 |_=>none
def Dq(K:aD)(r:Rec)(a:Addr):Bool:=match K.lookup a with
 |some ⟨_,_,.func f,_⟩=>PySem.W.codeIn K f.code r.qual&&PySem.W.keepIn K (.ref a)
 |_=>false
def AO(r:Rec):Prop:=∀(kV doc pm:Value)(an:Option Addr)(cdv ct:Value)(us:List Value),us.length=r.ps.length->bindArgs (PySem.W.fnOf r.fname r.qual (dG r.st) (cU r.st) (bR r.st) .none kV doc pm an cdv ct) ⟨us,[]⟩=pure (r.ps.zip us)
theorem zV{K:aD}{r:Rec}(B:AO r)(h:Dq K r a=true)(e:K.lookup a=AL r (K.lookup a)):∃fd,Lnk K r a fd:=by
 unfold Dq at h;cases q:K.lookup a with
 |none=>rw[q] at h;cases h
 |some o=>
  obtain⟨U,J,I,sl⟩:=o;cases I with
  |func f=>rw[q] at h e;rw[Bool.and_eq_true] at h;have F:=Ah (x:=r.fname) (qual:=r.qual) (st:=r.st) (q.trans e) h.1 h.2;exact⟨_,F,F.binds B⟩
  |_=>rw[q] at h;cases h
noncomputable def BS(o:Option (Option Value))(a:Option Addr):Bool:=match o,a with
 |some (some (.ref x)),some y=>x==y
 |_,_=>false
theorem o6{o:Option (Option Value)}{a:Option Addr}(h:BS o a=true):∃x,a=some x/\o=some (some (.ref x)):=by
 unfold BS at h;split at h
 ·rename_i x y;have:x=y:=by simpa using h
  subst this;exact⟨_,rfl,rfl⟩
 ·cases h
noncomputable def CB(x:Str):Bool:=(x==("__debug__":Str))==false
def k8(K:aD)(T:Tab)(bg:List Rec)(ad:List Addr):Bool:=
 bg.length==ad.length&&((bg.zip ad).all (λp=>Dq K p.1 p.2)&&((T.fns.zip (bg.zip ad)).all (λp=>CB p.1&&BS (PySem.W.nsIn K mainGlobals p.1) (some p.2.2))&&
 (sF.all (λx=>xi (PySem.W.nsIn K mainGlobals x))&&(T.icl.all (λc=>lC K c.x λC=>c.mts.all λp=>BS (PySem.W.findIn K (.ref C) p.1) ad[p.2]?)&&T.mks.all (λp=>CB p.1&&lC K p.1 λC=>BS (PySem.W.findIn K (.ref C) "__init__") ad[p.2]?)))))
section
variable{K:aD}{mg:Str->Option Value}{T:Tab}{bg:List Rec}{h:Heap}{ad:List Addr}
theorem yc(hb:∀r∈bg,AO r)(I:k8 K T bg ad=true)(e:(bg.zip ad).map (λp=>K.lookup p.2)=(bg.zip ad).map λp=>AL p.1 (K.lookup p.2)){j:Nat}(U:ad[j]? =some a):∃r fd,bg[j]? =some r/\Lnk K r a fd:=by
 unfold k8 at I;simp only[Bool.and_eq_true] at I;obtain⟨h0,h1,_⟩:=I;have h0:bg.length=ad.length:=by simpa using h0
 have Z:j<bg.length:=by rw[h0];exact(av U).1
 have B:bg[j]? =some bg[j]:=ae Z;have J:(bg.zip ad)[j]? =some (bg[j],a):=by rw[List.getElem?_zip_eq_some];exact⟨B,U⟩
 have Y:=aj J
 have e2:K.lookup a=AL bg[j] (K.lookup a):=by have q:=congrArg (·[j]?) e;simpa[List.getElem?_map,J] using q
 obtain⟨fd,L⟩:=zV (hb _ (aj B)) (List.all_eq_true.mp h1 _ Y) e2;exact⟨_,fd,B,L⟩
theorem vm{x:Str}(h:CB x=true):(x==("__debug__":Str))=false:=by unfold CB at h;simpa using h
theorem sw(X:K.In h)(G:h.Ns mainGlobals mg)(hc:∀r∈bg,Chk T r)(hq:T.calm=true)(hbd:∀r∈bg,AO r)(Y:k8 K T bg ad=true)(e:(bg.zip ad).map (λp=>K.lookup p.2)=(bg.zip ad).map λp=>AL p.1 (K.lookup p.2))
  (J:T.fns.length<=bg.length)(hI:xl K T=true)
  (hcs:T.csts=[]):Facts P w K mg T bg:=by
 have LK:=λ{j:Nat}{a:Addr}(Z:ad[j]? =some a)=>yc hbd Y e Z;unfold k8 at Y;simp only[Bool.and_eq_true] at Y;obtain⟨h0,h1,h2,h4,h6,h7⟩:=Y;refine u8 X G hc hq J (λp I=>?_) (λx d U=>?_) (λx U=>PySem.W.mg_none_of X G (qA (List.all_eq_true.mp h4 x U))) hI (λc hc p I=>?_) (λp I=>?_)
 ·obtain⟨i,hi⟩:=List.getElem?_of_mem I;rw[List.getElem?_zip_eq_some] at hi;have h0:bg.length=ad.length:=by simpa using h0
  have hj:i<ad.length:=by rw[<-h0];exact(av hi.2).1
  have Z:ad[i]? =some ad[i]:=ae hj;obtain⟨r,fd,B,L⟩:=LK Z;rw[hi.2] at B;cases B;have hz:(T.fns.zip (bg.zip ad))[i]? =some (p.1,p.2,ad[i]):=by rw[List.getElem?_zip_eq_some];exact⟨hi.1,by rw[List.getElem?_zip_eq_some];exact⟨hi.2,Z⟩⟩
  have q:=List.all_eq_true.mp h2 _ (aj hz);simp only[Bool.and_eq_true] at q;obtain⟨x,ex,eo⟩:=o6 q.2;cases ex;exact⟨vm q.1,_,fd,L,PySem.W.mg_of X G eo⟩
 ·rw[hcs] at U;cases U
 ·obtain⟨C,eC,qq⟩:=hU (List.all_eq_true.mp h6 c hc);obtain⟨a,ea,ef⟩:=o6 (List.all_eq_true.mp qq p I);obtain⟨r,fd,B,L⟩:=LK ea;exact⟨C,r,a,fd,B,L,eC,ef⟩
 ·have q:=List.all_eq_true.mp h7 p I;simp only[Bool.and_eq_true] at q;obtain⟨C,eC,qq⟩:=hU q.2;obtain⟨a,ea,ef⟩:=o6 qq;obtain⟨r,fd,B,L⟩:=LK ea;exact⟨vm q.1,C,r,a,fd,B,L,eC,PySem.W.mg_of X G eC,ef⟩
theorem xb{l:PySem.W.OpenLaw}{fa:Addr}{li:Nat}{x:Str}{r:Rec}(X:K.In h)(G:h.Ns mainGlobals mg)(hfa:mg "law"=some (.ref fa))(I:∀r∈bg,AO r)(hl:k8 K T bg ad=true)(e:(bg.zip ad).map (λp=>K.lookup p.2)=(bg.zip ad).map λp=>AL p.1 (K.lookup p.2))
  (Z:Facts l.prog w K mg T bg)(ha:ad[li]? =some a)(Y:bg[li]? =some r)(hn:PySem.W.nsIn K mainGlobals "law"=some (some (.ref a))) (hp:r.ps=[x])(hs:∀ns:List Int,ns.length<=63->∃st',calls (bg.map (·.fn)) n li [.fl (ns.map .int)] []=.ok (.v (.bl true)) st'):
  ∃fd:FuncData,(∀(s:Shared)(v:Value),BindsTo s fd ⟨[v],[]⟩ [(x,v)])/\∀base:Heap,K.In base->base.Ns mainGlobals mg->FnOk l.prog w K mg base (oq l.prog w) (2*n) fa fd [x] (p6 K):=by
 have q:=hfa.symm.trans (PySem.W.mg_of X G hn);cases q;obtain⟨r',fd,B,L⟩:=yc I hl e ha;rw[Y] at B;cases B;obtain⟨oc,od,kV,J,pm,an,U,ct,osl,rfl,lk,hcd⟩:=L.f.ex;have hb:=I _ (aj Y);refine⟨PySem.W.fnOf r.fname r.qual (dG r.st) (cU r.st) (bR r.st) .none kV J pm an U ct,λs v=>.of_eq ?_,λbase _ _=>?_⟩
 ·have:=hb kV J pm an U ct [v] (by rw[hp];rfl)
  rw[hp] at this;exact this
 ·have F:=jg (P:=l.prog) (w:=w) (base:=base) Z n li r _ _ Y L;rw[hp] at F;exact zW F hs
end
set_option genInjectivity true
open PySem L2
def W{α:Type}(r:R α)(Q:α->aW->Prop):Prop:=match r with
 | .ok a st=>Q a st
 | .bad=>False
theorem W.mono{r:R α}{Q B:α->aW->Prop}(h:W r Q)(k:∀a st,Q a st->B a st):W r B:=by
 cases r with
 |ok a st=>exact k _ _ h
 |bad=>exact h
theorem W.get{r:R α}{Q:α->aW->Prop}(h:W r Q):∃a st,r=.ok a st/\Q a st:=by
 cases r with
 |ok a st=>exact⟨a,st,rfl,h⟩
 |bad=>exact h.elim
def Vq(Q:D->aW->Prop):Rs->aW->Prop:=λr st=>match r with
 | .v d=>Q d st
 | .x _=>False
abbrev Wv(r:R Rs)(Q:D->aW->Prop):Prop:=W r (Vq Q)
theorem aN{β:Type}{m:M α}{f:α->M β}{Q:β->aW->Prop}(h:W (m st) λa st1=>W (f a st1) Q):W (aZ m f st) Q:=by
 unfold aZ;cases e:m st with
 |ok a st1=>rw[e] at h;exact h
 |bad=>rw[e] at h;exact h
section
variable{g:fe}{loc:Loc}{st:aW}{Q:D->aW->Prop}{a b c:Ex}
theorem bi(h:Q d st):W (run g (.c d) loc st) Q:=by rw[run];exact h
theorem aM(e:loc[i]? =some (some d))(h:Q d st):W (run g (.v i) loc st) Q:=by rw[run];unfold d9;rw[e];exact h
theorem bD(h:W (runs g es loc st) λds st1=>Q (.tup ds) st1):W (run g (.tup es) loc st) Q:=by rw[run];exact aN (h.mono λ_ _ q=>q)
theorem cv(h:W (runs g es loc st) λds st1=>Q (.ref st1.length) (st1++[.lst ds])):W (run g (.lst es) loc st) Q:=by rw[run];exact aN (h.mono λ_ _ q=>q)
theorem jn(h:Q (.ref st.length) (st++[.dct []])):W (run g .emp loc st) Q:=by rw[run];exact h
theorem b5{B:Sk}{two ht:Bool}(h:W (run g a loc st) λd st1=>∃s,srcOf B d=some s/\W (cX (fi (run g c) (run g b) ht two loc) s st1) Q):W (run g (.comp B two a c ht b) loc st) Q:=by
 rw[run];exact aN (h.mono λ_ _ ⟨s,e,q⟩=>aN (by unfold d9;rw[e];exact q))
theorem bE{op:Bo}(h:W (run g a loc st) λx st1=>W (run g b loc st1) λy B=>W (cF op x y B) Q):W (run g (.bin op a b) loc st) Q:=by rw[run];exact aN (h.mono λ_ _ q=>aN q)
theorem w_not(h:W (run g a loc st) λx st1=>∃k,x=.bl k/\Q (.bl (!k)) st1):W (run g (.not a) loc st) Q:=by
 rw[run];exact aN (h.mono λ_ _ ⟨i,e,q⟩=>by subst e;exact q)
theorem w_and(h:W (run g a loc st) λx st1=>∃k,x=.bl k/\(k=true->W (run g b loc st1) Q)/\(k=false->Q (.bl false) st1)):W (run g (.and a b) loc st) Q:=by
 rw[run];exact aN (h.mono λ_ _ B=>by
  obtain⟨k,e,q1,q2⟩:=B;subst e;cases k with
  |true=>exact q1 rfl
  |false=>exact q2 rfl)
theorem w_or(h:W (run g a loc st) λx st1=>∃k,x=.bl k/\(k=true->Q (.bl true) st1)/\(k=false->W (run g b loc st1) Q)):W (run g (.or a b) loc st) Q:=by
 rw[run];exact aN (h.mono λ_ _ B=>by
  obtain⟨k,e,q1,q2⟩:=B;subst e;cases k with
  |true=>exact q1 rfl
  |false=>exact q2 rfl)
theorem ba{op:CmpOp}(h:W (run g a loc st) λx st1=>W (run g b loc st1) λy B=>W (bK op x y B) Q):W (run g (.cmp op a b) loc st) Q:=by rw[run];exact aN (h.mono λ_ _ q=>aN q)
theorem vZ{op B:CmpOp}(h:W (run g a loc st) λx st1=>W (run g b loc st1) λy U=>W (bK op x y U) λz I=>∃k,z=.bl k/\
  (k=true->W (run g c loc I) λw J=>W (bK B y w J) Q)/\(k=false->Q (.bl false) I)):W (run g (.chain op B a b c) loc st) Q:=by
 rw[run]
 exact aN (h.mono λ_ _ q=>aN (q.mono λ_ _ q=>aN (q.mono λ_ _ Y=>by
  obtain⟨k,e,q1,q2⟩:=Y;subst e;cases k with
  |true=>exact aN (show W ((aZ (run g c loc) λw=>bK B _ w) _) Q from aN (q1 rfl))
  |false=>exact q2 rfl)))
theorem bx(h:W (run g a loc st) λx st1=>W (run g b loc st1) λy B=>W (index x y B) Q):W (run g (.ix a b) loc st) Q:=by rw[run];exact aN (h.mono λ_ _ q=>aN q)
theorem sO(h:W (run g a loc st) λx st1=>W (run g b loc st1) λy B=>∃i,y=.int i/\W (slice x none (some i) B) Q):W (run g (.sl a b b false true) loc st) Q:=by
 rw[run];refine aN (h.mono λ_ _ q=>aN ?_);show W ((aZ (if true=true then aZ (run g b loc) λz=>aZ (d9 (kF z)) λi=>ret (some i) else ret none) λh=>slice _ none h) _) Q
 exact aN (show W ((aZ (run g b loc) λz=>aZ (d9 (kF z)) λi=>ret (some i)) _) _ from aN (q.mono λ_ _ ⟨i,e,q⟩=>by subst e;exact q))
theorem bY(h:W (runs g args loc st) λds st1=>Wv (g f ds st1) Q):W (run g (.fn f args) loc st) Q:=by
 rw[run];refine aN (h.mono λds st1 q=>aN (W.mono q λr B q=>?_));cases r with
 |v d=>exact q
 |x n=>exact q.elim
theorem bz{f:Str}{ics:List Str}(h:W (run g a loc st) λx st1=>∃n c fs d,x=.ref n/\st1[n]? =some (.ins c fs)/\fs.lookup f=some d/\c∈ics/\Q d st1):W (run g (.fld a f cs ics) loc st) Q:=by
 rw[run];exact aN (h.mono λx st1 ⟨n,c,fs,d,e,e1,e3,hc,q⟩=>by subst e;simp only[Aj,e1,e3];rw[if_pos hc];exact q)
theorem kP{x:Str}(h:W (runs g args loc st) λds st1=>Wv (g f (.ref st1.length::ds) (st1++[.ins x []])) λd B=>d=.non/\Q (.ref st1.length) B):W (run g (.new x f args) loc st) Q:=by
 rw[run];refine aN (h.mono λds st1 q=>?_);unfold uC;refine aN (W.mono q λr B q=>?_);cases r with
 |v d=>obtain⟨rfl,q⟩:=q;exact q
 |x n=>exact q.elim
theorem jm{m:Str}{ms:List (Str×Nat)}(h:W (run g a loc st) λx st1=>∃n c fs j,x=.ref n/\st1[n]? =some (.ins c fs)/\fs.lookup m=none/\ms.lookup c=some j/\W (runs g args loc st1) λds B=>Wv (g j (.ref n::ds) B) Q):W (run g (.meth a m ms args) loc st) Q:=by
 rw[run];refine aN (h.mono λx st1 ⟨n,c,fs,j,e,e1,e2,e3,q⟩=>aN ?_);subst e;simp only[qu,e1,e2,e3];refine aN (q.mono λds B q=>aN (W.mono q λr I q=>?_));cases r with
 |v d=>exact q
 |x n=>exact q.elim
theorem ce{f:Bt}(h:W (runs g args loc st) λds st1=>W (dD f ds st1) Q):W (run g (.bt f args) loc st) Q:=by rw[run];exact aN h
end
section
variable{g:fe}{loc:Loc}{st:aW}{Q:List D->aW->Prop}
theorem az(h:Q [] st):W (runs g [] loc st) Q:=by rw[runs];exact h
theorem ak(h:W (run g e loc st) λd st1=>W (runs g es loc st1) λds B=>Q (d::ds) B):W (runs g (e::es) loc st) Q:=by rw[runs];exact aN (h.mono λ_ _ q=>aN (q.mono λ_ _ q=>q))
end
section
end
def Kn(g:fe)(ss:List S)(Q:Fl->aW->Prop):Fl->aW->Prop:=λr st=>match r with
 | .nx loc=>W (execs g ss loc st) Q
 | .rt d=>Q (.rt d) st
 | .ex n l=>Q (.ex n l) st
 | .ct l=>Q (.ct l) st
def Kr(Q:D->aW->Prop):Fl->aW->Prop:=λr st=>match r with
 | .nx _=>Q .non st
 | .rt d=>Q d st
 | .ex _ _=>False
 | .ct _=>False
section
variable{g:fe}{loc:Loc}{st:aW}{Q:Fl->aW->Prop}{ss:List S}{e o i c:Ex}
theorem a7(h:W (execs g ss loc st) Q):Kn g ss Q (.nx loc) st:=h
theorem lc(h:Q (.rt d) st):Kn g ss Q (.rt d) st:=h
theorem ye(h:Q (.ct loc) st):Kn g ss Q (.ct loc) st:=h
theorem k_{Q:D->aW->Prop}(h:Q .non st):Kr Q (.nx loc) st:=h
theorem bn{Q:D->aW->Prop}(h:Q d st):Kr Q (.rt d) st:=h
theorem aK(h:Q (.nx loc) st):W (execs g [] loc st) Q:=by rw[execs];exact h
theorem bU{s:S}(h:W (exec g s loc st) (Kn g ss Q)):W (execs g (s::ss) loc st) Q:=by
 rw[execs];refine aN (h.mono λr st1 q=>?_);cases r with
 |nx loc'=>exact q
 |rt d=>exact q
 |ex n l=>exact q
 |ct l=>exact q
theorem yt{f:Str}{ics:List Str}(h:W (run g e loc st) λd st1=>W (run g o loc st1) λx I=>W (ng cs ics x f d I) λ_ B=>W (execs g ss loc B) Q):W (execs g (.setf o f e cs ics::ss) loc st) Q:=
 bU (by rw[exec];exact aN (h.mono λ_ _ q=>aN (q.mono λ_ _ q=>aN (q.mono λ_ _ q=>q))))
theorem aX(h:W (run g e loc st) λd st1=>W (execs g ss (loc.set n (some d)) st1) Q):W (execs g (.set n e::ss) loc st) Q:=
 bU (by rw[exec];exact aN (h.mono λ_ _ q=>q))
theorem fQ(h:W (run g e loc st) λd st1=>W (run g o loc st1) λx J=>W (run g i loc J) λk I=>W (gJ x k d I) λ_ B=>W (execs g ss loc B) Q):W (execs g (.setix o i e::ss) loc st) Q:=
 bU (by rw[exec];exact aN (h.mono λ_ _ q=>aN (q.mono λ_ _ q=>aN (q.mono λ_ _ q=>aN (q.mono λ_ _ q=>q)))))
theorem bp(h:W (run g e loc st) λd st1=>Q (.rt d) st1):W (execs g (.ret e::ss) loc st) Q:=
 bU (by rw[exec];exact aN (h.mono λ_ _ q=>q))
theorem dW(h:W (run g o loc st) λx st1=>W (iK x st1) λ_ J=>W (run g e loc J) λd I=>W (append x d I) λ_ B=>W (execs g ss loc B) Q):W (execs g (.app o e::ss) loc st) Q:=
 bU (by rw[exec];exact aN (h.mono λ_ _ q=>aN (q.mono λ_ _ q=>aN (q.mono λ_ _ q=>aN (q.mono λ_ _ q=>q)))))
theorem ji{c:Loc->M D}{f:Loc->M Fl}(I:Nat->Loc->aW->Prop)(turn:∀m loc st,I m loc st->W (c loc st) λx st1=>∃b,x=.bl b/\(b=true->∃m',m=m'+1/\W (f loc st1) λr B=>match r with| .nx loc'=>I m' loc' B| .ct loc'=>I m' loc' B| .rt d=>Q (.rt d) B| .ex n l=>Q (.ex n l) B)/\(b=false->Q (.nx loc) st1)):
  ∀k m loc st,m<k->I m loc st->W (fg c f k loc st) Q
 |0,m,loc,st,h1,h=>by omega
 |k+1,m,loc,st,h1,h=>by
  rw[fg];refine aN ((turn m loc st h).mono λx st1 J=>?_);obtain⟨b,e,q1,q2⟩:=J;subst e;cases b with
  |false=>exact q2 rfl
  |true=>
   obtain⟨m',rfl,q⟩:=q1 rfl;refine aN (show W ((if true=true then aZ (f loc) _ else _) st1) _ from aN (q.mono λr B q=>?_))
   cases r with
   |nx loc'=>exact ji I turn k m' loc' B (by omega) q
   |ct loc'=>exact ji I turn k m' loc' B (by omega) q
   |rt d=>exact q
   |ex n l=>exact q
theorem ck{x y:List S}(h:W (run g c loc st) λz st1=>∃k,z=.bl k/\(k=true->W (execs g x loc st1) (Kn g ss Q))/\(k=false->W (execs g y loc st1) (Kn g ss Q))):W (execs g (.ite c x y::ss) loc st) Q:=
 bU (by
  rw[exec]
  exact aN (h.mono λ_ _ B=>by
   obtain⟨k,e,q1,q2⟩:=B;subst e;cases k with
   |true=>exact q1 rfl
   |false=>exact q2 rfl))
def Kf(I:Loc->aW->Prop)(Q:Fl->aW->Prop):Fl->aW->Prop:=λr st=>match r with
 | .nx loc=>I loc st
 | .ct loc=>I loc st
 | .rt d=>Q (.rt d) st
 | .ex n l=>Q (.ex n l) st
theorem bA{I:Loc->aW->Prop}(h:I loc st):Kf I Q (.nx loc) st:=h
theorem yf{I:Loc->aW->Prop}(h:I loc st):Kf I Q (.ct loc) st:=h
end
section
end
theorem gc{Q:Fl->aW->Prop}{ss body:List S}(I:Nat->Loc->aW->Prop)(m:Nat)(J:m<1000000000)(h0:I m loc st)(turn:∀m loc st,I m loc st->W (run g c loc st) λx st1=>∃b,x=.bl b/\(b=true->∃m',m=m'+1/\W (execs g body loc st1) (Kf (I m') (Kn g ss Q)))/\(b=false->W (execs g ss loc st1) Q)):
  W (execs g (.whil c body::ss) loc st) Q:=by
 refine bU ?_;rw[exec];refine ji I (λm loc st h=>(turn m loc st h).mono λx st1 ⟨b,e,q1,q2⟩=>⟨b,e,λU=>?_,q2⟩) Ai m loc st J h0;obtain⟨m',e,q⟩:=q1 U;refine⟨m',e,q.mono λr B q=>?_⟩;cases r with
 |nx loc'=>exact q
 |rt d=>exact q
 |ex n l=>exact q
 |ct l=>exact q
theorem yG{tab:List Fn}{k:Nat}{fn:Fn}{ds:List D}{Q:D->aW->Prop}(I:tab[f]? =some fn)(B:ds.length=fn.ar)(h:W (execs (calls tab k) fn.body (ds.map some++List.replicate (fn.nl - ds.length) none) st) (Kr Q)):Wv (calls tab (k+1) f ds st) Q:=by
 simp only[Wv,calls,I,qW,if_pos B];refine aN (h.mono λr st1 q=>?_);cases r with
 |nx loc'=>exact q
 |rt d=>exact q
 |ex n l=>exact q.elim
 |ct l=>exact q.elim
section
variable{st:aW}{Q:D->aW->Prop}{i j:Int}
theorem w_add(h:Q (.int (i+j)) st):W (cF .add (.int i) (.int j) st) Q:=h
theorem w_sub(h:Q (.int (i - j)) st):W (cF .sub (.int i) (.int j) st) Q:=h
theorem w_mul(B:(-18446744073709551616<i/\i<18446744073709551616)∨(-18446744073709551616<j/\j<18446744073709551616))(h:Q (.int (i*j)) st):W (cF .mul (.int i) (.int j) st) Q:=by simp only[cF,zS];rw[if_pos (.inl (show(-big<i/\i<big)∨(-big<j/\j<big) from B))];exact h
theorem w_mod(B:0<j)(h:Q (.int (i % j)) st):W (cF .mod (.int i) (.int j) st) Q:=by
 simp only[cF,ii];rw[if_pos (by omega),Int.fmod_eq_emod_of_nonneg i (by omega)];exact h
theorem sV(B:0<j/\j<4611686018427387904)(h:Q (.int (i / j)) st):W (cF .fdiv (.int i) (.int j) st) Q:=by
 simp only[cF,ii];rw[if_pos ⟨by omega,aA (show j.natAbs<4611686018427387904 by omega) (by decide)⟩,Int.fdiv_eq_ediv_of_nonneg i (by omega)];exact h
theorem sX{as bs:List D}(I:st[m]? =some (.lst as))(B:st[n]? =some (.lst bs))(J:as.length+bs.length<=1000000)(h:Q (.ref st.length) (st++[.lst (as++bs)])):W (cF .add (.ref m) (.ref n) st) Q:=by simp only[cF,addD,I,B];rw[if_pos J];exact h
theorem w_eq{k:Bool}(e:cj 60 st x y=some k)(h:Q (.bl k) st):W (bK .Eq x y st) Q:=by simp only[bK,e];exact h
theorem kB{k:Bool}(e:cj 60 st x y=some k)(h:Q (.bl (!k)) st):W (bK .NotEq x y st) Q:=by simp only[bK,e];exact h
theorem mX(h:Q (.bl (decide (i=j))) st):W (bK .Eq (.int i) (.int j) st) Q:=w_eq (k:=decide (i=j)) (by simp[cj,shape,kz];rfl) h
theorem sP(h:Q (.bl (!decide (i=j))) st):W (bK .NotEq (.int i) (.int j) st) Q:=kB (k:=decide (i=j)) (by simp[cj,shape,kz];rfl) h
theorem w_lt(h:Q (.bl (decide (i<j))) st):W (bK .Lt (.int i) (.int j) st) Q:=h
theorem CK(h:Q (.bl (decide (i<=j))) st):W (bK .LtE (.int i) (.int j) st) Q:=h
theorem rc(h:Q (.bl (decide (j<i))) st):W (bK .Gt (.int i) (.int j) st) Q:=h
theorem pN{k:Bool}(e:BU x y=some k)(h:Q (.bl (!k)) st):W (bK .IsNot x y st) Q:=by simp only[bK,e];exact h
theorem bJ(e:lD xs i=some d)(h:Q d st):W (index (.tup xs) (.int i) st) Q:=by simp only[index,bG,e];exact h
theorem db(B:st[n]? =some (.lst xs))(e:lD xs i=some d)(h:Q d st):W (index (.ref n) (.int i) st) Q:=by simp only[index,bG,B,e];exact h
theorem dL(B:st[n]? =some (.dct kvs))(e:bB kvs (.inl i)=some d)(h:Q d st):W (index (.ref n) (.int i) st) Q:=by simp only[index,bG,Cj,B,e];exact h
theorem pR(B:st[n]? =some (.dct kvs))(h:Q (.ref st.length) (st++[.dct kvs])):W (dD .dict [.ref n] st) Q:=by simp only[dD,om,B];exact h
theorem cM{k:Key}{Q:Unit->aW->Prop}(B:st[n]? =some (.dct kvs))(J:gS x=some k)(I:kvs.length<1000000)(h:Q () (st.set n (.dct (bM kvs k v)))):W (gJ (.ref n) x v st) Q:=by simp only[gJ,B,J];rw[if_pos I];exact h
theorem vR{c f:Str}{fs:List (Str×D)}{ics:List Str}{Q:Unit->aW->Prop}(B:st[n]? =some (.ins c fs))(I:fs.length<900/\c∈ics)(h:Q () (st.set n (.ins c (putD f v fs)))):W (ng cs ics (.ref n) f v st) Q:=by simp only[ng,B];rw[if_pos I];exact h
theorem AD{xs:List α}(h0:0<=i)(h1:i<xs.length):∃d,lD xs i=some d/\xs[i.toNat]? =some d:=by
 have hi:i.toNat<xs.length:=by omega
 refine⟨xs[i.toNat],?_,by simp[hi]⟩
 unfold lD uG;rw[if_pos h0,if_pos h1];show xs[i.toNat]? =_;simp[hi]
theorem sQ(h:Q (.int xs.length) st):W (dD .len [.tup xs] st) Q:=h
theorem cN(B:st[n]? =some (.lst xs))(h:Q (.int xs.length) st):W (dD .len [.ref n] st) Q:=by simp only[dD,om,bG,B];exact h
theorem vT(B:st[n]? =some (.lst xs))(h:Q (.ref st.length) (st++[.lst xs])):W (dD .list [.ref n] st) Q:=by simp only[dD,om,bG,B];exact h
theorem jk(B:st[n]? =some (.lst xs))(h:Q (.tup xs) st):W (dD .tuple [.ref n] st) Q:=by simp only[dD,om,bG,B];exact h
theorem AS(B:st[n]? =some (.lst xs))(h:Q (.ref st.length) (st++[.lst (cutD xs lo hi)])):W (slice (.ref n) lo hi st) Q:=by simp only[slice,bG,B];exact h
theorem b_{Q:Unit->aW->Prop}(B:st[n]? =some (.lst xs))(h:Q () st):W (iK (.ref n) st) Q:=by simp only[iK,B];exact h
theorem bW{Q:Unit->aW->Prop}(B:st[n]? =some (.lst xs))(I:xs.length<1000000)(h:Q () (st.set n (.lst (xs++[v])))):W (append (.ref n) v st) Q:=by simp only[append,B];rw[if_pos I];exact h
end
def Gr(st st':aW):Prop:=∃t,st'=st++t
theorem Gr.refl(st:aW):Gr st st:=⟨[],by simp⟩
theorem Gr.trans{a c:aW}(h:Gr a b)(k:Gr b c):Gr a c:=by
 obtain⟨t,rfl⟩:=h;obtain⟨u,rfl⟩:=k;exact⟨t++u,by simp⟩
theorem Gr.one(st:aW)(o:O):Gr st (st++[o]):=⟨[o],rfl⟩
theorem Gr.more{a:aW}(h:Gr a b)(o:O):Gr a (b++[o]):=h.trans (.one b o)
theorem Gr.le{a:aW}(h:Gr a b):a.length<=b.length:=by obtain⟨t,rfl⟩:=h;simp
theorem Gr.at{a:aW}(h:Gr a b)(e:a[i]? =some o):b[i]? =some o:=by obtain⟨t,rfl⟩:=h;have:=(av e).1;rw[ao this];exact e
theorem aI:(st++[o])[st.length]? =some o:=by simp
theorem aV{t:aW}(e:st[i]? =some o):(st++t)[i]? =some o:=by have:=(av e).1;rw[ao this];exact e
theorem dj{j:Int}(h: -1000000<=j/\j<=1000000):cY true (.int j)=some (.its (bO j.toNat)):=by simp only[cY];rw[if_pos h]
theorem bP(n:Nat):(bO n).length=n:=by simp[bO]
theorem bj(h:n<st.length):(st.set n o)[n]? =some o:=by rw[aL h]
theorem kj{f:D->D->Option Bool}:∀{xs:List D},(∀x∈xs,f x x=some true)->cz f xs xs=some true
 |[],_=>rfl
 |x::xs,h=>by
  unfold cz;rw[h x (by simp),kj λy B=>h y (by simp[B])]
  rfl
theorem yI{a b:O}:(st++[a,b])[st.length]? =some a:=by simp
theorem CM{a b:O}:(st++[a,b])[st.length+1]? =some b:=by simp
theorem bX{a b:O}:(st++[a]).set st.length b=st++[b]:=by simp
theorem jv{a b c:O}:(st++[a,b]).set st.length c=st++[c,b]:=by simp
section
variable{g:fe}{loc:Loc}{st:aW}{Q:D->aW->Prop}{a b c e:Ex}
theorem AU(h:W (run g a loc st) λy st1=>∃n,y=.ref n/\st1[n]? =some (.dct [])/\Q (.ref st1.length) (st1++[.lst []])):W (run g (.sit a) loc st) Q:=by
 rw[run];exact aN (h.mono λy st1 ⟨n,e,e1,q⟩=>by subst e;simp only[yP,c5,e1];exact q)
theorem yE(h:W (run g a loc st) λx st1=>∃n kv0,x=.ref n/\st1[n]? =some (.dct kv0)/\W (run g b loc st1) λk I=>W (run g c loc I) λz B=>∃kvs i,B[n]? =some (.dct kvs)/\k=.int i/\Q ((bB kvs (.inl i)).getD z) B):W (run g (.dget a b c) loc st) Q:=by rw[run];refine aN (h.mono λx st1 J=>?_);obtain⟨n,kv0,e,Z,q⟩:=J;subst e;refine aN ?_;simp only[gY,c5,Z];refine aN (q.mono λk I q=>aN (q.mono λz B J=>?_));obtain⟨kvs,i,Y,U,q2⟩:=J;subst U;simp only[vi,c5,Y,gS];exact q2
theorem AV(h:W (run g a loc st) λx st1=>∃n kv0,x=.ref n/\st1[n]? =some (.dct kv0)/\W (run g b loc st1) λk I=>W (run g c loc I) λz B=>∃kvs i,B[n]? =some (.dct kvs)/\k=.int i/\kvs.length<1000000/\(∀d,bB kvs (.inl i)=some d->Q d B)/\(bB kvs (.inl i)=none->Q z (B.set n (.dct (bM kvs (.inl i) z))))):W (run g (.sde a b c) loc st) Q:=by
 rw[run];refine aN (h.mono λx st1 J=>?_);obtain⟨n,kv0,e,e1,q⟩:=J;subst e;refine aN ?_;simp only[gY,c5,e1];refine aN (q.mono λk I q=>aN (q.mono λz B J=>?_));obtain⟨kvs,i,Z,Y,U,q1,q2⟩:=J;subst Y;simp only[yR,Z,gS];rw[if_pos U];cases e3:bB kvs (.inl i) with
 |some d=>exact q1 d e3
 |none=>exact q2 e3
theorem pQ(h:W (run g a loc st) λx st1=>W (run g b loc st1) λy B=>∃i,x=.int i/\Q (.ref B.length) (B++[.dct [(.inl i,y)]])):W (run g (.dict1 a b) loc st) Q:=by
 rw[run];exact aN (h.mono λ_ _ q=>aN (q.mono λ_ _ ⟨i,e,q2⟩=>by subst e;exact q2))
theorem vY(h:W (run g a loc st) λx st1=>∃n kv0,x=.ref n/\st1[n]? =some (.dct kv0)/\W (run g b loc st1) λk B=>∃kvs i,B[n]? =some (.dct kvs)/\k=.int i/\Q ((bB kvs (.inl i)).getD .non) B):W (run g (.dget1 a b) loc st) Q:=by rw[run];refine aN (h.mono λx st1 I=>?_);obtain⟨n,kv0,e,U,q⟩:=I;subst e;refine aN ?_;simp only[gY,c5,U];refine aN (q.mono λk B I=>?_);obtain⟨kvs,i,J,rfl,q⟩:=I;simp only[pr,c5,J,gS];exact q
theorem yz(h:W (run g a loc st) λx st1=>∃n y ys,x=.ref n/\st1[n]? =some (.lst (y::ys))/\Q y (st1.set n (.lst ys))):W (run g (.pop a true) loc st) Q:=by
 rw[run];exact aN (h.mono λx st1 ⟨n,y,ys,e,e1,q⟩=>by subst e;simp only[uh,e1];exact q)
theorem ow(h:W (run g a loc st) λx st1=>∃n y ys,x=.ref n/\st1[n]? =some (.lst (ys++[y]))/\Q y (st1.set n (.lst ys))):W (run g (.pop a false) loc st) Q:=by
 rw[run];exact aN (h.mono λx st1 ⟨n,y,ys,e,e1,q⟩=>by
  subst e;have B:(ys++[y])[(ys++[y]).length - 1]? =some y:=by simp
  simp only[uh,e1,Bool.false_eq_true,if_false,B,List.dropLast_concat];exact q)
theorem sS(h:W (run g a loc st) λy st1=>∃n xs,y=.ref n/\st1[n]? =some (.lst xs)/\Q (.bl true) st1):W (run g (.isi a false) loc st) Q:=by
 rw[run];exact aN (h.mono λy st1 ⟨n,xs,e,e1,q⟩=>by subst e;simp only[z6,e1];exact q)
theorem io:∀ns:List Int,k6 (ns.map .int)=some ns
 |[]=>rfl
 |n::ns=>by simp only[List.map_cons,k6,io ns,Option.map_some]
theorem sN(h:W (run g a loc st) λy st1=>∃ns,bG st1 y=some (ns.map .int)/\ns.length<=2/\(∀n∈ns,0<=n/\n<10)/\Q (.ref st1.length) (st1++[.lst ((Tab23.ie ns).map .int)])):W (run g (.sset a) loc st) Q:=by
 rw[run];exact aN (h.mono λy st1 ⟨ns,e,e1,e2,q⟩=>by simp only[tK,e,io];rw[if_pos ⟨e1,List.all_eq_true.mpr λn B=>decide_eq_true (e2 n B)⟩];exact q)
theorem gF{ns:List Int}(B:st[n]? =some (.lst (ns.map .int)))(I:ns.length<64)(h:Q (.ref st.length) (st++[.lst ((Tab23.cJ ns).map .int)])):W (dD .sorted [.ref n] st) Q:=by simp only[dD,om,numsOf,B,io];rw[if_pos I];exact h
theorem kO{ns:List Int}(B:st[n]? =some (.dct kvs))(J:fA kvs=some ns)(I:ns.length<64)(h:Q (.ref st.length) (st++[.lst ((Tab23.cJ ns).map .int)])):W (dD .sorted [.ref n] st) Q:=by simp only[dD,om,numsOf,B,J];rw[if_pos I];exact h
theorem vX{ps:List (Key×D)}(I:st[n]? =some (.lst xs))(B:rN xs=some ps)(h:Q (.ref st.length) (st++[.dct (qL ps)])):W (dD .dict [.ref n] st) Q:=by simp only[dD,om,I,B];exact h
variable{i j:Int}
theorem w_pow(B:0<=j/\j<=1000/\i.natAbs<1000)(h:Q (.int (i^j.toNat)) st):W (cF .pow (.int i) (.int j) st) Q:=by simp only[cF,ii];rw[if_pos B];exact h
theorem yD(B:st[n]? =some (.dct kvs))(h:Q (.int kvs.length) st):W (dD .len [.ref n] st) Q:=by simp only[dD,om,bG,c5,B];exact h
theorem mW{k:Key}(B:st[n]? =some (.dct kvs))(I:gS x=some k)(h:Q (.bl (!(bB kvs k).isSome)) st):W (bK .NotIn x (.ref n) st) Q:=by simp only[bK,bG,iE,B,I];exact h
theorem jl{ys:List D}{k:Bool}(B:st[n]? =some (.lst ys))(e:eY st x ys=some k)(h:Q (.bl (!k)) st):W (bK .NotIn x (.ref n) st) Q:=by simp only[bK,bG,B,e];exact h
theorem sU{k:Key}(B:st[n]? =some (.dct kvs))(I:gS x=some k)(h:Q (.bl (bB kvs k).isSome) st):W (bK .In x (.ref n) st) Q:=by simp only[bK,bG,iE,B,I];exact h
theorem AT(h:Q (.ref st.length) (st++[.lst (cutD xs lo hi)])):W (slice (.fl xs) lo hi st) Q:=h
end
section
variable{g:fe}{loc:Loc}{st:aW}{Q:Fl->aW->Prop}{ss:List S}{e a b:Ex}
theorem dg{rng:Bool}{body:List S}(h:W (run g e loc st) λd st1=>∃s,cY rng d=some s/\W (eF (λx B=>execs g body (B.set n (some x))) s loc st1) (Kn g ss Q)):W (execs g (.for_ n rng e body::ss) loc st) Q:=
 bU (by rw[exec];exact aN (h.mono λ_ _ ⟨s,e,q⟩=>aN (by unfold d9;rw[e];exact q)))
theorem vV{body:List S}(h:W (run g e loc st) λd st1=>∃s,qQ d=some s/\W (eF (λx B=>aZ (items? is.length x) λds=>execs g body (ib is ds B)) s loc st1) (Kn g ss Q)):W (execs g (.forE is e body::ss) loc st) Q:=
 bU (by rw[exec];exact aN (h.mono λ_ _ ⟨s,e,q⟩=>aN (by unfold d9;rw[e];exact q)))
theorem vW{body:List S}(h:W (run g e loc st) λd st1=>∃i,d=.int i/\(-1000000<=i/\i<=1000000)/\W (eF (λx B=>execs g body (B.set n (some x))) (.its (dF i (i+1).toNat)) loc st1) (Kn g ss Q)):W (execs g (.forD n e body::ss) loc st) Q:=
 bU (by rw[exec];exact aN (h.mono λd st1 ⟨i,e,e1,q⟩=>aN (by subst e;simp only[lU,if_pos e1,d9];exact q)))
theorem sW(h:Q (.ct loc) st):W (execs g (.cont::ss) loc st) Q:=bU (by rw[exec];exact h)
theorem xQ(h:W (run g e loc st) λd st1=>∃n xs,d=.ref n/\st1[n]? =some (.lst xs)/\W (execs g ss loc (st1.set n (.lst []))) Q):W (execs g (.clr e::ss) loc st) Q:=
 bU (by rw[exec];exact aN (h.mono λd st1 ⟨n,xs,e,e1,q⟩=>aN (by subst e;simp only[pB,e1];exact q)))
theorem xP(h:W (run g a loc st) λx st1=>∃n ys,x=.ref n/\st1[n]? =some (.lst ys)/\W (run g b loc st1) λd B=>∃m xs zs,d=.ref m/\B[n]? =some (.lst xs)/\B[m]? =some (.lst zs)/\xs.length+zs.length<=10000000/\W (execs g ss loc (B.set n (.lst (xs++zs)))) Q):W (execs g (.ext a b::ss) loc st) Q:=
 bU (by
  rw[exec]
  exact aN (h.mono λx st1 ⟨n,ys,e,e1,q⟩=>aN (by
   subst e;simp only[iK,e1];exact aN (q.mono λd B ⟨m,xs,zs,e2,e3,e4,hz,q⟩=>aN (by subst e2;simp only[extend,e3,e4];rw[if_pos hz];exact q)))))
theorem AW{m n:Int}(hi:loc[i]? =some (some (.int m)))(h:W (run g e loc st) λd st1=>d=.int n/\W (execs g ss (loc.set i (some (.int (m+n)))) st1) Q):W (execs g (.aug i e::ss) loc st) Q:=
 bU (by rw[exec];exact aN (aM hi (aN (h.mono λd st1 ⟨e,q⟩=>by subst e;exact q))))
theorem yH(h:W (run g a loc st) λx st1=>W (run g b loc st1) λk I=>∃n,∃j:Nat,∃xs,∃m l:Int,x=.ref n/\k=.int j/\I[n]? =some (.lst xs)/\xs[j]? =some (.int m)/\W (run g e loc I) λz B=>z=.int l/\B[n]? =some (.lst xs)/\W (execs g ss loc (B.set n (.lst (xs.set j (.int (m+l)))))) Q):W (execs g (.augx a b e::ss) loc st) Q:=
 bU (by
  rw[exec];refine aN (h.mono λx st1 q=>aN (q.mono λk I U=>aN ?_));obtain⟨n,j,xs,m,l,e1,e2,e3,Z,q4⟩:=U;subst e1 e2;have hj:=(av Z).1;have J:uG xs.length (j:Int)=some j:=by unfold uG;rw[if_pos (by omega),if_pos (by omega)];simp
  have Y:lD xs (j:Int)=some (.int m):=by unfold lD;rw[J];exact Z
  simp only[getL,e3,Y,Int.natCast_nonneg,if_true];refine aN (q4.mono λz B U=>?_);obtain⟨e5,e6,q5⟩:=U;subst e5;refine aN (aN ?_);simp only[putL,e6,J];exact q5)
theorem pO{body:List S}(h:W (run g e loc st) λd st1=>∃s,cY false d=some s/\W (eF (λx B=>aZ (items? is.length x) λds=>execs g body (ib is ds B)) s loc st1) (Kn g ss Q)):W (execs g (.forU is e body::ss) loc st) Q:=
 bU (by rw[exec];exact aN (h.mono λ_ _ ⟨s,e,q⟩=>aN (by unfold d9;rw[e];exact q)))
theorem i4{ds:List D}{f:List D->M Fl}(B:ds.length=n)(h:W (f ds st) Q):W ((aZ (items? n (.tup ds)) f) st) Q:=aN (by unfold items?;dsimp only;rw[if_pos B];exact h)
theorem lJ{f:D->Loc->M Fl}{s:Src}{L:List D}(I:Nat->Loc->aW->Prop)(nx:∀i loc st,I i loc st->c9 s i st=some L[i]?)(step:∀i x loc st,L[i]? =some x->I i loc st->W (f x loc st) (Kf (I (i+1)) Q))
  (fin:∀loc st,I L.length loc st->Q (.nx loc) st):∀k i loc st,i<=L.length->L.length<k+i->I i loc st->W (iA f s k i loc st) Q
 |0,i,loc,st,h1,h2,h=>by omega
 |k+1,i,loc,st,h1,h2,h=>by
  simp only[iA,nx i loc st h];cases e:L[i]? with
  |none=>
   have:i=L.length:=by have:=List.getElem?_eq_none_iff.mp e;omega
   subst this;exact fin loc st h
  |some x=>
   have hi:=(av e).1;refine aN ((step i x loc st e h).mono λr st1 q=>?_);cases r with
   |nx loc'=>exact lJ I nx step fin k (i+1) loc' st1 hi (by omega) q
   |ct loc'=>exact lJ I nx step fin k (i+1) loc' st1 hi (by omega) q
   |rt d=>exact q
   |ex n l=>exact q
theorem cw{f:D->Loc->M Fl}{s:Src}(B:L.length<=bF s st)(I:Nat->Loc->aW->Prop)(h0:I 0 loc st)(nx:∀i loc st,I i loc st->c9 s i st=some L[i]?)(step:∀i x loc st,L[i]? =some x->I i loc st->W (f x loc st) (Kf (I (i+1)) Q))
  (fin:∀loc st,I L.length loc st->Q (.nx loc) st):W (eF f s loc st) Q:=by
 unfold eF;exact lJ I nx step fin _ 0 loc st (Nat.zero_le _) (by omega) h0
theorem xO{f:D->Loc->M Fl}{s:Nat->Src}(hn:st[n]? =some (.dct kvs))(hs:bF (s n) (st.set n (.dcf kvs))=L.length)(Y:∀st',st'[n]? =some (.dcf kvs)->∀i,c9 (s n) i st'=some L[i]?)(I:Nat->Loc->aW->Prop)(h0:I 0 loc (st.set n (.dcf kvs)))(J:∀i loc st,I i loc st->st[n]? =some (.dcf kvs))
  (step:∀i x loc st,L[i]? =some x->I i loc st->W (f x loc st) (Kf (I (i+1)) λ_ _=>False))(fin:∀loc st,I L.length loc st->Q (.nx loc) (st.set n (.dct kvs))):W ((aZ (sq (.ref n)) λn=>aZ (eF f (s n) loc) λr=>rm n r) st) Q:=by
 refine aN ?_;simp only[sq,hn];refine aN (W.mono (cw (Q:=λr st'=>∃B,r=.nx B/\I L.length B st') (by rw[hs];exact ac _) I h0 (λi l st' hi=>Y st' (J i l st' hi) i) (λi x l st' e hi=>(step i x l st' e hi).mono λr U q=>?_) λl st' hi=>⟨l,rfl,hi⟩) λr st' Z=>?_)
 ·cases r with
  |nx l=>exact q
  |ct l=>exact q
  |rt d=>exact q.elim
  |ex n l=>exact q.elim
 ·obtain⟨B,rfl,hi⟩:=Z;simp only[rm,J _ _ _ hi];exact fin B st' hi
theorem pP{body:List S}(J:is.length=2)(h:W (run g e loc st) λd st1=>∃n kvs,∃I:Nat->Loc->aW->Prop,d=.ref n/\st1[n]? =some (.dct kvs)/\I 0 loc (st1.set n (.dcf kvs))/\(∀i loc st,I i loc st->st[n]? =some (.dcf kvs))/\
  (∀i p loc st,kvs[i]? =some p->I i loc st->W (execs g body (ib is [kD p.1,p.2] loc) st) (Kf (I (i+1)) λ_ _=>False))/\∀loc st,I kvs.length loc st->W (execs g ss loc (st.set n (.dct kvs))) Q):W (execs g (.forI is e body::ss) loc st) Q:=
 bU (by
  rw[exec];refine aN (h.mono λd st1 U=>?_);obtain⟨n,kvs,I,rfl,B,h0,Z,step,fin⟩:=U;have Y:n<st1.length:=(av B).1;refine xO (Q:=Kn g ss Q) (s:= .di) (L:=kvs.map λp=>.tup [kD p.1,p.2]) B (by simp only[bF,List.getElem?_set_self Y,List.length_map]) (λst' e i=>by simp only[c9,e,List.getElem?_map]) I h0 Z (λi x l st' e hi=>?_) λl st' hi=>fin l st' (by simpa using hi)
  rw[aq] at e;obtain⟨p,e1,e2⟩:=Option.map_eq_some_iff.mp e;subst e2;exact i4 J.symm (step i p l st' e1 hi))
theorem vU{body:List S}(h:W (run g e loc st) λd st1=>∃n kvs,∃I:Nat->Loc->aW->Prop,d=.ref n/\st1[n]? =some (.dct kvs)/\I 0 loc (st1.set n (.dcf kvs))/\(∀i loc st,I i loc st->st[n]? =some (.dcf kvs))/\
  (∀i p loc st,kvs[i]? =some p->I i loc st->W (execs g body (loc.set m (some p.2)) st) (Kf (I (i+1)) λ_ _=>False))/\∀loc st,I kvs.length loc st->W (execs g ss loc (st.set n (.dct kvs))) Q):W (execs g (.forW m e body::ss) loc st) Q:=
 bU (by
  rw[exec];refine aN (h.mono λd st1 J=>?_);obtain⟨n,kvs,I,rfl,B,h0,Y,step,fin⟩:=J;have U:n<st1.length:=(av B).1;refine xO (Q:=Kn g ss Q) (s:= .dv) (L:=kvs.map λp=>p.2) B (by simp only[bF,List.getElem?_set_self U,List.length_map]) (λst' e i=>by simp only[c9,e,List.getElem?_map]) I h0 Y (λi x l st' e hi=>?_) λl st' hi=>fin l st' (by simpa using hi)
  rw[aq] at e;obtain⟨p,e1,Z⟩:=Option.map_eq_some_iff.mp e;subst Z;exact step i p l st' e1 hi)
end
section
variable{st:aW}{Q:D->aW->Prop}{f:D->M (Option D)}
theorem jo{s:Src}{L:List D}{Q:List D->aW->Prop}(I:Nat->List D->aW->Prop)(nx:∀i acc st,I i acc st->c9 s i st=some L[i]?)(step:∀i x acc st,L[i]? =some x->I i acc st->W (f x st) λo st1=>I (i+1) (match o with|some y=>acc++[y]|none=>acc) st1)
  (fin:∀acc st,I L.length acc st->Q acc st):∀k i acc st,i<=L.length->L.length<k+i->I i acc st->W (dH f s k i acc st) Q
 |0,i,acc,st,h1,h2,h=>by omega
 |k+1,i,acc,st,h1,h2,h=>by
  simp only[dH,nx i acc st h];cases e:L[i]? with
  |none=>
   have:i=L.length:=by have:=List.getElem?_eq_none_iff.mp e;omega
   subst this;exact fin acc st h
  |some x=>
   have hi:=(av e).1;refine aN ((step i x acc st e h).mono λo st1 q=>?_);cases o with
   |none=>exact jo I nx step fin k (i+1) acc st1 hi (by omega) q
   |some y=>exact jo I nx step fin k (i+1) (acc++[y]) st1 hi (by omega) q
theorem bN{s:Src}(B:bF s st<=1000000)(J:L.length<=bF s st)(I:Nat->List D->aW->Prop)(h0:I 0 [] st)(nx:∀i acc st,I i acc st->c9 s i st=some L[i]?)(step:∀i x acc st,L[i]? =some x->I i acc st->W (f x st) λo st1=>I (i+1) (match o with|some y=>acc++[y]|none=>acc) st1)
  (fin:∀acc st,I L.length acc st->Q (.ref st.length) (st++[.lst acc])):W (cX f s st) Q:=by
 unfold cX;rw[if_pos B];exact aN (W.mono (jo (Q:=λacc st=>Q (.ref st.length) (st++[.lst acc])) I nx step fin _ 0 [] st (Nat.zero_le _) (by omega) h0) λacc st q=>(show Q (.ref st.length) (st++[.lst acc]) from q))
theorem yB{F:D->D}(J:xs.length<=1000000)(h:∀x∈xs,∀st1,Gr st st1->W (f x st1) λo B=>o=some (F x)/\Gr st1 B)(k:∀B,Gr st B->Q (.ref B.length) (B++[.lst (xs.map F)])):W (cX f (.its xs) st) Q:=by
 refine bN (L:=xs) J (ac _) (λi acc st1=>Gr st st1/\acc=(xs.take i).map F) ⟨.refl _,rfl⟩ (λi acc st1 _=>rfl) (λi x acc st1 e I=>?_) (λacc st1 I=>?_)
 ·obtain⟨g,rfl⟩:=I;refine(h x (aj e) st1 g).mono λo B q=>?_;obtain⟨rfl,U⟩:=q;refine⟨g.trans U,?_⟩;rw[List.take_add_one,e];simp
 ·obtain⟨g,rfl⟩:=I;rw[List.take_length];exact k st1 g
theorem yC{F:D->D}(J:st[n]? =some (.lst xs))(Y:xs.length<=1000000)(h:∀x∈xs,∀st1,Gr st st1->W (f x st1) λo B=>o=some (F x)/\Gr st1 B)(k:∀B,Gr st B->Q (.ref B.length) (B++[.lst (xs.map F)])):W (cX f (.at n) st) Q:=by
 have U:bF (.at n) st=xs.length:=by simp only[bF,J]
 refine bN (L:=xs) (by rw[U];exact Y) (by rw[U];exact ac _) (λi acc st1=>Gr st st1/\acc=(xs.take i).map F) ⟨.refl _,rfl⟩ (λi acc st1 I=>by simp only[c9,I.1.at J]) (λi x acc st1 e I=>?_) (λacc st1 I=>?_)
 ·obtain⟨g,rfl⟩:=I;refine(h x (aj e) st1 g).mono λo B q=>?_;obtain⟨rfl,Z⟩:=q;refine⟨g.trans Z,?_⟩;rw[List.take_add_one,e];simp
 ·obtain⟨g,rfl⟩:=I;rw[List.take_length];exact k st1 g
theorem d_{c:Loc->M D}{Q:Option D->aW->Prop}(h:W (run g e (some x::loc) st) λy st1=>Q (some y) st1):W (fi c (run g e) false false loc x st) Q:=
 aN (m:=own false x) (aN (m:=ret true) (aN (h.mono λ_ _ q=>q)))
theorem i0{c:Loc->M D}{Q:Option D->aW->Prop}(h:W (run g e (some x::some y::loc) st) λy st1=>Q (some y) st1):W (fi c (run g e) false true loc (.tup [x,y]) st) Q:=
 aN (m:=own true (.tup [x,y])) (show W (ret [x,y] st) _ from aN (m:=ret true) (aN (h.mono λ_ _ q=>q)))
theorem lK{Q:Option D->aW->Prop}(h:W (run g c (some x::loc) st) λz st1=>∃k,z=.bl k/\(k=true->W (run g e (some x::loc) st1) λy B=>Q (some y) B)/\(k=false->Q none st1)):W (fi (run g c) (run g e) true false loc x st) Q:=
 aN (m:=own false x) (aN (aN (h.mono λz st1 ⟨k,e,q1,q2⟩=>by
  subst e;cases k with
  |true=>exact aN ((q1 rfl).mono λ_ _ q=>q)
  |false=>exact q2 rfl)))
theorem vS{Q:Option D->aW->Prop}(h:W (run g c (some x::some y::loc) st) λz st1=>∃k,z=.bl k/\(k=true->W (run g e (some x::some y::loc) st1) λy B=>Q (some y) B)/\(k=false->Q none st1)):W (fi (run g c) (run g e) true true loc (.tup [x,y]) st) Q:=
 aN (m:=own true (.tup [x,y])) (show W (ret [x,y] st) _ from aN (aN (h.mono λz st1 ⟨k,e,q1,q2⟩=>by
  subst e;cases k with
  |true=>exact aN ((q1 rfl).mono λ_ _ q=>q)
  |false=>exact q2 rfl)))
end
mutual
noncomputable def vL:D->Bool
 | .tup xs=>jH xs
 | .fl _=>false
 | .ref _=>false
 |_=>true
noncomputable def jH:List D->Bool
 |[]=>true
 |d::ds=>vL d&&jH ds
end
mutual
noncomputable def vN:D->Nat
 | .tup xs=>iY xs+1
 |_=>0
noncomputable def iY:List D->Nat
 |[]=>0
 |d::ds=>max (vN d) (iY ds)
end
mutual
theorem qN{st:aW}:∀(n:Nat)(d:D),vL d=true->vN d<n->cj n st d d=some true
 |0,_,_,h=>absurd h (Nat.not_lt_zero _)
 |n+1,.tup xs,h,hd=>by
  have h:jH xs=true:=h;have hd:iY xs+1<n+1:=hd;show(match shape st (.tup xs),shape st (.tup xs) with|a,b=>cj (n+1) st (.tup xs) (.tup xs))=_
  dsimp only;have:=nV (st:=st) n xs h (by omega)
  unfold cj;simp only[shape];exact this
 |n+1,.non,_,_=>by simp[cj,shape,kz]
 |n+1,.bl _,_,_=>by simp[cj,shape,kz]
 |n+1,.int _,_,_=>by simp[cj,shape,kz]
 |n+1,.str _,_,_=>by simp[cj,shape,kz]
 |_+1,.fl _,h,_=>by cases h
 |_+1,.ref _,h,_=>by cases h
theorem nV{st:aW}:∀(n:Nat)(xs:List D),jH xs=true->iY xs<n->cz (mj (cj n st)) xs xs=some true
 |_,[],_,_=>rfl
 |n,d::ds,h,hd=>by
  have h:(vL d&&jH ds)=true:=h;rw[Bool.and_eq_true] at h;have hd:max (vN d) (iY ds)<n:=hd
  have h1:mj (cj n st) d d=some true:=by
   unfold mj;split
   ·rw[if_pos rfl]
   ·exact qN n d h.1 (by omega)
  unfold cz;rw[h1,nV n ds h.2 (by omega)]
  rfl
end
theorem qR{m:Nat}:∀{xs:List D},(∀x∈xs,vN x<=m)->iY xs<=m
 |[],_=>Nat.zero_le _
 |x::xs,h=>by show max (vN x) (iY xs)<=m;have h1:=h x (.head _);have I:=qR λy B=>h y (.tail _ B);omega
theorem uv:∀{xs:List D},(∀x∈xs,vL x=true)->jH xs=true
 |[],_=>rfl
 |x::xs,h=>by show(vL x&&jH xs)=true;rw[h x (.head _),uv λy B=>h y (.tail _ B)];rfl
theorem Gr.set{a:aW}(h:Gr a b)(B:a.length<=n):Gr a (b.set n o):=by
 obtain⟨t,rfl⟩:=h;exact⟨t.set (n - a.length) o,by rw[List.set_append_right _ _ B]⟩
namespace K49
variable{d e t z:D}{L0 a b f i j m n nd p rn v w x y:Nat}{s s0 st st' st1:aW}{loc:Loc}{g:fe}{o:O}{xs:List D}{kv kvs:List (Key×D)}{Bs Ws:List (List Nat)}{F L hs ks l rs ws:List Nat}{P:Nat->Prop}{N:Nat->Option Nat}{X:Option Nat}
noncomputable abbrev jR:Nat:=0
noncomputable def dw:Fn:=⟨3,8,[.set 3 (.lst []),.setix (.v 2) (.v 1) (.c (.bl true)),.set 4 (.lst [(.tup [(.v 1),(.c (.int (0)))])]),.whil (.cmp .Gt (.bt .len [(.v 4)]) (.c (.int (0)))) [.set 5 (.pop (.v 4) false),.set 6 (.ix (.v 5) (.c (.int (0)))),.ite (.cmp .Eq (.ix (.v 5) (.c (.int (1)))) (.bt .len [(.ix (.v 0) (.v 6))])) [.app (.v 3) (.v 6),.cont] [],.app (.v 4) (.tup [(.v 6),(.bin .add (.ix (.v 5) (.c (.int (1)))) (.c (.int (1))))]),.set 7 (.ix (.ix (.v 0) (.v 6)) (.ix (.v 5) (.c (.int (1))))),.ite (.cmp .NotIn (.v 7) (.v 2)) [.setix (.v 2) (.v 7) (.c (.bl true)),.app (.v 4) (.tup [(.v 7),(.c (.int (0)))])] []],.ret (.v 3)]⟩
noncomputable abbrev uQ:Nat:=1
noncomputable def j0:Fn:=⟨1,5,[.set 1 (.comp .rng false (.bt .len [(.v 0)]) (.c (.non)) false (.lst [])),.forE [2,3] (.v 0) [.for_ 4 false (.v 3) [.app (.ix (.v 1) (.v 4)) (.v 2)]],.ret (.v 1)]⟩
noncomputable abbrev iu:Nat:=2
noncomputable def cQ:Fn:=⟨1,9,[.set 1 (.fn 0 [(.v 0),(.c (.int (0))),.emp]),.set 2 (.bt .dict [(.comp .en true (.v 1) (.c (.non)) false (.tup [(.v 1),(.v 0)]))]),.set 3 (.fn 1 [(.v 0)]),.set 4 (.comp .seq false (.v 1) (.c (.non)) false (.bt .sorted [(.comp .seq false (.ix (.v 4) (.v 0)) (.cmp .In (.v 0) (.v 4)) true (.ix (.v 4) (.v 0)))])),.set 5 (.dict1 (.c (.int (0))) (.c (.int (0)))),.set 6 (.c (.bl true)),.whil (.v 6) [.set 6 (.c (.bl false)),.forD 7 (.bin .sub (.bt .len [(.v 1)]) (.c (.int (2)))) [.set 8 (.fn 3 [(.comp .seq false (.ix (.v 4) (.v 7)) (.cmp .In (.ix (.v 2) (.v 0)) (.v 6)) true (.ix (.v 2) (.v 0))),(.v 5),(.v 2)]),.ite (.cmp .NotEq (.dget1 (.v 5) (.ix (.v 1) (.v 7))) (.v 8)) [.setix (.v 5) (.ix (.v 1) (.v 7)) (.v 8),.set 6 (.c (.bl true))] []]],.ret (.v 5)]⟩
noncomputable abbrev jS:Nat:=3
noncomputable def dz:Fn:=⟨3,6,[.set 3 (.ix (.v 0) (.c (.int (0)))),.for_ 4 false (.v 0) [.set 5 (.v 4),.whil (.cmp .NotEq (.v 5) (.v 3)) [.ite (.cmp .Lt (.ix (.v 2) (.v 5)) (.ix (.v 2) (.v 3))) [.set 5 (.ix (.v 1) (.v 5))] [.set 3 (.ix (.v 1) (.v 3))]]],.ret (.v 3)]⟩
noncomputable abbrev kG:Nat:=4
noncomputable def dN:Fn:=⟨1,8,[.set 1 .emp,.forI [2,3] (.v 0) [.ite (.cmp .NotEq (.v 2) (.c (.int (0)))) [.app (.sde (.v 1) (.v 3) (.lst [])) (.v 2)] []],.set 4 .emp,.set 5 (.lst [(.tup [(.c (.int (0))),(.c (.non))])]),.set 6 (.c (.int (0))),.whil (.cmp .Gt (.bt .len [(.v 5)]) (.c (.int (0)))) [.set 7 (.pop (.v 5) false),.ite (.cmp .IsNot (.ix (.v 7) (.c (.int (1)))) (.c (.non))) [.setix (.v 4) (.ix (.v 7) (.c (.int (0)))) (.tup [(.ix (.v 7) (.c (.int (1)))),(.v 6)]),.cont] [],.app (.v 5) (.tup [(.ix (.v 7) (.c (.int (0)))),(.v 6)]),.aug 6 (.c (.int (1))),.ext (.v 5) (.comp .seq false (.dget (.v 1) (.ix (.v 7) (.c (.int (0)))) (.lst [])) (.c (.non)) false (.tup [(.v 0),(.c (.non))]))],.ret (.v 4)]⟩
noncomputable abbrev mm:Nat:=5
noncomputable def eG:Fn:=⟨3,3,[.ret (.and (.cmp .In (.v 1) (.v 0)) (.chain .LtE .Lt (.ix (.ix (.v 0) (.v 1)) (.c (.int (0)))) (.ix (.ix (.v 0) (.v 2)) (.c (.int (0)))) (.ix (.ix (.v 0) (.v 1)) (.c (.int (1))))))]⟩
noncomputable abbrev nM:Nat:=6
noncomputable def fC:Fn:=⟨2,2,[.ret (.sset (.comp .seq true (.meth (.fld (.ix (.fld (.v 0) "blocks" [] ["Function"]) (.v 1)) "end" [] ["Block"]) "edges" [("Jump",28),("Branch",31),("Back",25),("Risk",36)] []) (.c (.non)) false (.ix (.v 0) (.c (.int (0))))))]⟩
noncomputable abbrev sg:Nat:=7
noncomputable def iC:Fn:=⟨1,1,[.ret (.comp .rng false (.bt .len [(.fld (.v 0) "blocks" [] ["Function"])]) (.c (.non)) false (.fn 6 [(.v 1),(.v 0)]))]⟩
noncomputable abbrev si:Nat:=8
noncomputable def iD:Fn:=⟨1,1,[.ite (.cmp .Eq (.bt .len [(.fld (.v 0) "blocks" [] ["Function"])]) (.c (.int (0)))) [.ret (.lst [])] [],.ret (.bt .sorted [(.fn 0 [(.fn 7 [(.v 0)]),(.c (.int (0))),.emp])])]⟩
noncomputable abbrev mn:Nat:=9
noncomputable def eI:Fn:=⟨1,4,[.set 1 .emp,.for_ 2 false (.fn 8 [(.v 0)]) [.for_ 3 false (.fn 6 [(.v 0),(.v 2)]) [.app (.sde (.v 1) (.v 3) (.lst [])) (.v 2)]],.ret (.v 1)]⟩
noncomputable abbrev o7:Nat:=10
noncomputable def gm:Fn:=⟨1,3,[.set 1 (.fn 9 [(.v 0)]),.set 2 (.fn 12 [(.v 0),(.v 1)]),.ret (.comp .seq false (.bt .sorted [(.v 2)]) (.c (.non)) false (.tup [(.v 0),(.fn 13 [(.v 0),(.ix (.v 3) (.v 0)),(.v 2)])]))]⟩
noncomputable abbrev uR:Nat:=11
noncomputable def j1:Fn:=⟨1,5,[.set 1 (.comp .seq false (.fld (.v 0) "blocks" [] ["Function"]) (.c (.non)) false (.c (.int (0)))),.forU [2,3] (.fn 10 [(.v 0)]) [.for_ 4 false (.v 3) [.augx (.v 1) (.v 4) (.c (.int (1)))]],.ret (.v 1)]⟩
noncomputable abbrev iw:Nat:=12
noncomputable def cR:Fn:=⟨2,7,[.set 2 .emp,.ite (.cmp .Gt (.bt .len [(.v 1)]) (.c (.int (0)))) [.set 3 (.fn 4 [(.fn 2 [(.fn 7 [(.v 0)])])]),.forI [4,5] (.v 1) [.set 6 (.comp .seq false (.v 5) (.fn 5 [(.v 4),(.v 5),(.v 0)]) true (.v 0)),.ite (.cmp .Gt (.bt .len [(.v 6)]) (.c (.int (0)))) [.setix (.v 2) (.v 4) (.v 6)] []]] [],.ret (.v 2)]⟩
noncomputable abbrev kH:Nat:=13
noncomputable def dO:Fn:=⟨3,6,[.set 3 (.dict1 (.v 0) (.c (.bl true))),.set 4 (.bt .list [(.v 1)]),.whil (.cmp .Gt (.bt .len [(.v 4)]) (.c (.int (0)))) [.set 5 (.pop (.v 4) false),.ite (.cmp .NotIn (.v 5) (.v 3)) [.setix (.v 3) (.v 5) (.c (.bl true)),.ext (.v 4) (.ix (.v 2) (.v 5))] []],.ret (.bt .sorted [(.v 3)])]⟩
noncomputable abbrev mq:Nat:=14
noncomputable def eK:Fn:=⟨2,3,[.set 2 (.bin .mod (.bin .add (.bin .add (.bin .mul (.bin .mod (.v 0) (.c (.int (2147483629)))) (.c (.int (48271)))) (.bin .mul (.v 1) (.c (.int (7919))))) (.c (.int (104729)))) (.c (.int (2147483629)))),.set 2 (.bin .mod (.bin .add (.bin .add (.bin .mul (.bin .mod (.bin .mul (.v 2) (.v 2)) (.c (.int (2147483629)))) (.c (.int (16807)))) (.bin .mul (.v 1) (.c (.int (104729))))) (.c (.int (11)))) (.c (.int (2147483587)))),.ret (.bin .mod (.bin .mul (.v 2) (.v 2)) (.c (.int (2147483587))))]⟩
noncomputable abbrev jT:Nat:=15
noncomputable def dA:Fn:=⟨2,6,[.set 2 (.lst []),.for_ 3 false (.v 0) [.set 4 (.v 3),.for_ 5 true (.c (.int (40))) [.ite (.cmp .Lt (.v 3) (.bin .pow (.c (.int (10))) (.c (.int (18))))) [.app (.v 2) (.bin .mod (.fn 14 [(.v 3),(.bt .len [(.v 2)])]) (.c (.int (1009))))] [.ite (.cmp .Gt (.v 4) (.c (.int (0)))) [.app (.v 2) (.bin .mod (.v 4) (.c (.int (1009)))),.set 4 (.bin .fdiv (.v 4) (.c (.int (1009))))] []]]],.whil (.cmp .Lt (.bt .len [(.v 2)]) (.v 1)) [.app (.v 2) (.bin .mod (.fn 14 [(.bt .len [(.v 2)]),(.v 1)]) (.c (.int (1009))))],.ret (.sl (.v 2) (.v 1) (.v 1) false true)]⟩
noncomputable abbrev nN:Nat:=16
noncomputable def fD:Fn:=⟨1,1,[.ite (.cmp .Eq (.v 0) (.lst [])) [.ret (.c (.int (0)))] [],.ret (.pop (.v 0) true)]⟩
noncomputable abbrev o8:Nat:=17
noncomputable def gn:Fn:=⟨2,5,[.set 2 (.fn 16 [(.v 0)]),.ite (.or (.cmp .Eq (.v 1) (.c (.int (1)))) (.cmp .Eq (.bin .mod (.v 2) (.c (.int (7)))) (.c (.int (0))))) [.ret (.new "Back" 32 [(.tup [(.c (.str "num")),(.c (.int (0)))])])] [],.set 3 (.tup [(.bin .add (.c (.int (1))) (.bin .mod (.bin .fdiv (.v 2) (.c (.int (7)))) (.bin .sub (.v 1) (.c (.int (1)))))),(.tup [])]),.set 4 (.tup [(.bin .add (.c (.int (1))) (.bin .mod (.fn 16 [(.v 0)]) (.bin .sub (.v 1) (.c (.int (1)))))),(.tup [])]),.ite (.cmp .Lt (.bin .mod (.v 2) (.c (.int (7)))) (.c (.int (3)))) [.ret (.new "Jump" 26 [(.v 3)])] [],.ite (.cmp .Lt (.bin .mod (.v 2) (.c (.int (7)))) (.c (.int (6)))) [.ret (.new "Branch" 29 [(.tup [(.c (.str "truth")),(.c (.bl true))]),(.v 3),(.v 4)])] [],.ret (.new "Risk" 34 [(.c (.str "div")),(.c (.non)),(.tup [(.tup [(.c (.str "num")),(.c (.int (7)))]),(.tup [(.c (.str "num")),(.c (.int (2)))])]),(.v 3),(.tup [(.tup [(.c (.str "zero")),(.v 4)])])])]⟩
noncomputable abbrev mr:Nat:=18
noncomputable def eL:Fn:=⟨1,3,[.set 1 (.bin .add (.c (.int (1))) (.bin .mod (.fn 16 [(.v 0)]) (.c (.int (9))))),.set 2 (.comp .rng false (.v 1) (.c (.non)) false (.new "Block" 37 [(.tup []),(.tup []),(.fn 17 [(.v 1),(.v 2)])])),.ret (.new "Function" 39 [(.tup []),(.tup [(.c (.str "num"))]),.emp,(.v 2)])]⟩
noncomputable abbrev mw:Nat:=19
noncomputable def eM:Fn:=⟨1,4,[.set 1 (.lst []),.for_ 2 false (.fld (.v 0) "blocks" [] ["Function"]) [.set 3 (.meth (.fld (.v 2) "end" [] ["Block"]) "told" [("Jump",27),("Branch",30),("Back",33),("Risk",35),("Block",38),("Function",40)] []),.ite (.cmp .Eq (.ix (.v 3) (.c (.int (0)))) (.c (.str "jump"))) [.app (.v 1) (.lst [(.ix (.ix (.v 3) (.c (.int (1)))) (.c (.int (0))))])] [.ite (.cmp .Eq (.ix (.v 3) (.c (.int (0)))) (.c (.str "branch"))) [.app (.v 1) (.lst [(.ix (.ix (.v 3) (.c (.int (2)))) (.c (.int (0)))),(.ix (.ix (.v 3) (.c (.int (3)))) (.c (.int (0))))])] [.ite (.cmp .Eq (.ix (.v 3) (.c (.int (0)))) (.c (.str "risk"))) [.app (.v 1) (.bin .add (.lst [(.ix (.ix (.v 3) (.c (.int (4)))) (.c (.int (0))))]) (.comp .seq true (.ix (.v 3) (.c (.int (5)))) (.c (.non)) false (.ix (.v 1) (.c (.int (0))))))] [.app (.v 1) (.lst [])]]]],.ret (.v 1)]⟩
noncomputable abbrev nO:Nat:=20
noncomputable def fE:Fn:=⟨3,6,[.set 3 (.lst [(.v 1)]),.set 4 (.c (.int (0))),.whil (.cmp .Lt (.v 4) (.bt .len [(.v 3)])) [.for_ 5 false (.ix (.v 0) (.ix (.v 3) (.v 4))) [.ite (.and (.cmp .NotEq (.v 5) (.v 2)) (.cmp .NotIn (.v 5) (.v 3))) [.app (.v 3) (.v 5)] []],.set 4 (.bin .add (.v 4) (.c (.int (1))))],.ret (.v 3)]⟩
noncomputable abbrev mo:Nat:=21
noncomputable def eJ:Fn:=⟨3,3,[.ite (.cmp .NotIn (.v 2) (.fn 20 [(.v 0),(.c (.int (0))),(.c (.non))])) [.ret (.c (.bl false))] [],.ret (.or (.cmp .In (.v 1) (.tup [(.c (.int (0))),(.v 2)])) (.cmp .NotIn (.v 2) (.fn 20 [(.v 0),(.c (.int (0))),(.v 1)])))]⟩
noncomputable abbrev o9:Nat:=22
noncomputable def gp:Fn:=⟨1,9,[.set 1 (.fn 20 [(.v 0),(.c (.int (0))),(.c (.non))]),.set 2 (.lst []),.for_ 3 false (.bt .sorted [(.v 1)]) [.set 4 (.comp .seq false (.v 1) (.and (.cmp .In (.v 4) (.ix (.v 1) (.v 0))) (.fn 21 [(.v 1),(.v 4),(.v 0)])) true (.v 0)),.set 5 (.comp .seq false (.v 4) (.cmp .NotEq (.v 0) (.v 4)) true (.v 0)),.set 6 (.lst []),.for_ 7 false (.bt .sorted [(.v 1)]) [.set 8 (.fn 20 [(.v 0),(.v 7),(.v 3)]),.ite (.or (.cmp .Eq (.v 7) (.v 3)) (.cmp .NotEq (.comp .seq false (.v 5) (.cmp .In (.v 0) (.v 9)) true (.v 0)) (.lst []))) [.app (.v 6) (.v 7)] []],.ite (.cmp .NotEq (.v 4) (.lst [])) [.app (.v 2) (.tup [(.v 3),(.v 6)])] []],.ret (.v 2)]⟩
noncomputable abbrev jU:Nat:=23
noncomputable def dB:Fn:=⟨1,4,[.set 1 .emp,.for_ 2 false (.bt .sorted [(.fn 20 [(.v 0),(.c (.int (0))),(.c (.non))])]) [.for_ 3 false (.sset (.ix (.v 0) (.v 2))) [.app (.sde (.v 1) (.v 3) (.lst [])) (.v 2)]],.ret (.v 1)]⟩
noncomputable abbrev BV:Nat:=24
noncomputable def u9:Fn:=⟨1,12,[.set 1 (.fn 15 [(.sl (.v 0) (.c (.int (12))) (.c (.int (12))) false true),(.c (.int (60)))]),.set 2 (.fn 18 [(.v 1)]),.set 3 (.meth (.v 2) "told" [("Jump",27),("Branch",30),("Back",33),("Risk",35),("Block",38),("Function",40)] []),.set 4 (.fn 19 [(.v 2)]),.set 5 (.fn 22 [(.v 4)]),.set 6 (.fn 10 [(.v 2)]),.set 7 (.comp .rng false (.bt .len [(.v 4)]) (.c (.non)) false (.bt .len [(.comp .seq true (.v 6) (.cmp .In (.v 2) (.v 1)) true (.v 0))])),.ite (.or (.not (.isi (.v 6) false)) (.or (.cmp .NotEq (.v 6) (.v 5)) (.cmp .NotEq (.fn 11 [(.v 2)]) (.v 7)))) [.ret (.c (.bl false))] [],.forU [8,9] (.v 6) [.ite (.not (.isi (.v 9) false)) [.ret (.c (.bl false))] [],.clr (.v 9)],.app (.v 6) (.c (.str "q")),.set 10 (.fn 9 [(.v 2)]),.ite (.cmp .NotEq (.v 10) (.fn 23 [(.v 4)])) [.ret (.c (.bl false))] [],.forW 11 (.v 10) [.app (.v 11) (.c (.int (99)))],.clr (.fn 11 [(.v 2)]),.ite (.or (.cmp .NotEq (.fn 10 [(.v 2)]) (.v 5)) (.cmp .NotEq (.fn 11 [(.v 2)]) (.v 7))) [.ret (.c (.bl false))] [],.ret (.and (.cmp .Eq (.fn 9 [(.v 2)]) (.fn 23 [(.v 4)])) (.cmp .Eq (.meth (.v 2) "told" [("Jump",27),("Branch",30),("Back",33),("Risk",35),("Block",38),("Function",40)] []) (.v 3)))]⟩
noncomputable def fJ:Fn:=⟨1,1,[.ret (.lst [])]⟩
noncomputable abbrev nQ:Nat:=26
noncomputable def fI:Fn:=⟨2,2,[.setf (.v 0) "edge" (.v 1) [] ["Jump","Risk"]]⟩
noncomputable def fH:Fn:=⟨1,1,[.ret (.tup [(.c (.str "jump")),(.fld (.v 0) "edge" [] ["Jump","Risk"])])]⟩
noncomputable def eP:Fn:=⟨1,1,[.ret (.lst [(.tup [(.fld (.v 0) "edge" [] ["Jump","Risk"]),(.c (.bl false))])])]⟩
noncomputable abbrev kI:Nat:=29
noncomputable def dS:Fn:=⟨4,4,[.setf (.v 0) "test" (.v 1) [] ["Branch"],.setf (.v 0) "yes" (.v 2) [] ["Branch"],.setf (.v 0) "no" (.v 3) [] ["Branch"]]⟩
noncomputable def dR:Fn:=⟨1,1,[.ret (.tup [(.c (.str "branch")),(.fld (.v 0) "test" [] ["Branch"]),(.fld (.v 0) "yes" [] ["Branch"]),(.fld (.v 0) "no" [] ["Branch"])])]⟩
noncomputable def dC:Fn:=⟨1,1,[.ret (.lst [(.tup [(.fld (.v 0) "yes" [] ["Branch"]),(.c (.bl false))]),(.tup [(.fld (.v 0) "no" [] ["Branch"]),(.c (.bl false))])])]⟩
noncomputable abbrev nR:Nat:=32
noncomputable def fL:Fn:=⟨2,2,[.setf (.v 0) "operand" (.v 1) [] ["Back"]]⟩
noncomputable def fK:Fn:=⟨1,1,[.ret (.tup [(.c (.str "back")),(.fld (.v 0) "operand" [] ["Back"])])]⟩
noncomputable abbrev nP:Nat:=34
noncomputable def fG:Fn:=⟨6,6,[.setf (.v 0) "op" (.v 1) [] ["Risk"],.setf (.v 0) "extra" (.v 2) [] ["Risk"],.setf (.v 0) "asked" (.bt .tuple [(.v 3)]) [] ["Risk"],.setf (.v 0) "edge" (.v 4) [] ["Jump","Risk"],.setf (.v 0) "catches" (.bt .tuple [(.v 5)]) [] ["Risk"]]⟩
noncomputable def fF:Fn:=⟨1,1,[.ret (.tup [(.c (.str "risk")),(.fld (.v 0) "op" [] ["Risk"]),(.fld (.v 0) "extra" [] ["Risk"]),(.fld (.v 0) "asked" [] ["Risk"]),(.fld (.v 0) "edge" [] ["Jump","Risk"]),(.fld (.v 0) "catches" [] ["Risk"])])]⟩
noncomputable def eO:Fn:=⟨1,1,[.ret (.bin .add (.lst [(.tup [(.fld (.v 0) "edge" [] ["Jump","Risk"]),(.c (.bl true))])]) (.comp .seq true (.fld (.v 0) "catches" [] ["Risk"]) (.c (.non)) false (.tup [(.v 1),(.c (.bl false))])))]⟩
noncomputable abbrev my:Nat:=37
noncomputable def eR:Fn:=⟨4,4,[.setf (.v 0) "params" (.bt .tuple [(.v 1)]) [] ["Block"],.setf (.v 0) "rows" (.bt .tuple [(.v 2)]) [] ["Block"],.setf (.v 0) "end" (.v 3) [] ["Block"]]⟩
noncomputable abbrev mx:Nat:=38
noncomputable def eQ:Fn:=⟨1,1,[.ret (.tup [(.fld (.v 0) "params" [] ["Block"]),(.bt .tuple [(.comp .seq false (.fld (.v 0) "rows" [] ["Block"]) (.c (.non)) false (.meth (.v 0) "told" [("Jump",27),("Branch",30),("Back",33),("Risk",35),("Block",38),("Function",40)] []))]),(.meth (.fld (.v 0) "end" [] ["Block"]) "told" [("Jump",27),("Branch",30),("Back",33),("Risk",35),("Block",38),("Function",40)] [])])]⟩
noncomputable abbrev iX:Nat:=39
noncomputable def c0:Fn:=⟨5,5,[.setf (.v 0) "takes" (.bt .tuple [(.v 1)]) [] ["Function"],.setf (.v 0) "gives" (.v 2) [] ["Function"],.setf (.v 0) "kinds" (.bt .dict [(.v 3)]) [] ["Function"],.setf (.v 0) "kept_kinds" (.bt .dict [(.v 3)]) [] ["Function"],.setf (.v 0) "blocks" (.bt .tuple [(.v 4)]) [] ["Function"]]⟩
noncomputable abbrev iW:Nat:=40
noncomputable def cZ:Fn:=⟨1,2,[.set 1 (.bt .tuple [(.sit (.fld (.v 0) "kept_kinds" [] ["Function"]))]),.ret (.tup [(.fld (.v 0) "takes" [] ["Function"]),(.fld (.v 0) "gives" [] ["Function"]),(.v 1),(.bt .tuple [(.comp .seq false (.fld (.v 0) "blocks" [] ["Function"]) (.c (.non)) false (.meth (.v 0) "told" [("Jump",27),("Branch",30),("Back",33),("Risk",35),("Block",38),("Function",40)] []))])])]⟩
def tab:List Fn:=[dw,j0,cQ,dz,dN,eG,fC,iC,iD,eI,gm,j1,cR,dO,eK,dA,fD,gn,eL,eM,fE,eJ,gp,dB,u9,fJ,fI,fH,eP,dS,dR,dC,fL,fK,fG,fF,eO,eR,eQ,c0,cZ]
local macro_rules| `(tactic|walk_at "call0")=> `(tactic|(refine yG rfl rfl ?_;dsimp only[dw,j0,cQ,dz,dN,eG,fC,iC,iD,eI,gm,j1,cR,dO,eK,dA,fD,gn,eL,eM,fE,eJ,gp,dB,u9,fJ,fI,fH,eP,dS,dR,dC,fL,fK,fG,fF,eO,eR,eQ,c0,cZ,List.map_cons,List.map_nil,List.cons_append,List.nil_append,List.length_cons,List.length_nil,List.replicate,Nat.reduceAdd,Nat.reduceSub]))
noncomputable def kX(op ex x e c:D):List (Str×D):=[("op",op),("extra",ex),("asked",x),("edge",e),("catches",c)]
theorem jb:∀{fs:List (Str×D)}{m:Str},(fs.map (·.1)).contains m=false->fs.lookup m=none
 |[],_,_=>rfl
 |(a,w)::r,m,h=>by simp only[List.map_cons,List.contains_cons,Bool.or_eq_false_iff] at h;simp only[List.lookup_cons,h.1];exact jb h.2
theorem lk:∀{fs:List (Str×D)}{f:Str}{d:D}(i:Nat),fs[i]? =some (f,d)->((fs.take i).map (·.1)).contains f=false->fs.lookup f=some d
 |(a,w)::r,f,d,0,h,_=>by simp at h;obtain⟨rfl,rfl⟩:=h;simp[List.lookup_cons]
 |(a,w)::r,f,d,i+1,h,k=>by
  simp only[List.take_succ_cons,List.map_cons,List.contains_cons,Bool.or_eq_false_iff] at k;simp only[List.lookup_cons,k.1];exact lk i (by simpa using h) k.2
theorem pc{c f:Str}{fs:List (Str×D)}{ics:List Str}{P:D->Prop}(B:st1[p]? =some (.ins c fs))(i:Nat)(hi:fs[i]? =some (f,d))(q:P d)(I:c∈ics:=by decide+kernel)(hk:((fs.take i).map (·.1)).contains f=false:=by(simp only[kX,List.nil_append,List.cons_append,List.take_succ_cons,List.take_zero,List.map_cons,List.map_nil];decide+kernel)):∃n c fs d,D.ref p=.ref n/\st1[n]? =some (.ins c fs)/\fs.lookup f=some d/\c∈ics/\P d:=⟨p,c,fs,d,rfl,B,lk i hi hk,I,q⟩
theorem xY{c m:Str}{fs:List (Str×D)}{ms:List (Str×Nat)}{P:Nat->Nat->Prop}(B:st1[p]? =some (.ins c fs))(J:ms.lookup c=some j)(q:P p j)(I:(fs.map (·.1)).contains m=false:=by(simp only[kX,List.nil_append,List.cons_append,List.map_cons,List.map_nil];decide+kernel)):∃n c fs j,D.ref p=.ref n/\st1[n]? =some (.ins c fs)/\fs.lookup m=none/\ms.lookup c=some j/\P n j:=⟨p,c,fs,j,rfl,B,jb I,J,q⟩
theorem qc:∀{fs:List (Str×D)}{f:Str}{v:D},(fs.map (·.1)).contains f=false->putD f v fs=fs++[(f,v)]
 |[],_,_,_=>rfl
 |(a,w)::r,f,v,h=>by
  simp only[List.map_cons,List.contains_cons,Bool.or_eq_false_iff] at h;have B:a≠f:=λz=>by simp[z] at h
  simp[putD,B,qc h.2]
theorem e7{Q:Fl->aW->Prop}{ss:List S}{e:Ex}{f:Str}{cs ics:List Str}(h0:loc[0]? =some (some (.ref p)))
  (h:W (run g e loc st) λd st1=>∃c fs,(st1[p]? =some (.ins c fs)/\fs.length<900/\c∈ics/\(fs.map (·.1)).contains f=false)/\W (execs g ss loc (st1.set p (.ins c (fs++[(f,d)])))) Q):W (execs g (.setf (.v 0) f e cs ics::ss) loc st) Q:=
 yt (h.mono λd st1 ⟨c,fs,⟨hp,hl,hc,hk⟩,q⟩=>aM h0 (vR hp ⟨hl,hc⟩ (by rw[qc hk];exact q)))
theorem mU{c f:Str}{fs:List (Str×D)}{ics:List Str}{P:Str->List (Str×D)->Prop}(B:st1[p]? =some (.ins c fs))(q:P c fs)(I:fs.length<900:=by simp)(hc:c∈ics:=by decide+kernel)(hk:(fs.map (·.1)).contains f=false:=by(simp only[kX,List.nil_append,List.cons_append,List.map_cons,List.map_nil];decide+kernel)):∃c fs,(st1[p]? =some (.ins c fs)/\fs.length<900/\c∈ics/\(fs.map (·.1)).contains f=false)/\P c fs:=⟨c,fs,⟨B,I,hc,hk⟩,q⟩
theorem sn{x:O}(h:st[i]? =some o)(B:j≠i):(st.set j x)[i]? =some o:=by rw[aF B];exact h
theorem eq_str{a b:Str}:cj 60 st (.str a) (.str b)=some (a==b):=by simp[cj,shape,kz]
def Sm(m:Nat)(d:D):Prop:=vL d=true/\vN d<=m
theorem Sm.mono(h:Sm m d)(k:m<=n):Sm n d:=⟨h.1,aB h.2 k⟩
theorem Sm.tup(h:∀x∈xs,Sm m x):Sm (m+1) (.tup xs):=⟨uv λx B=>(h x B).1,by show iY xs+1<=m+1;exact Nat.succ_le_succ (qR λx B=>(h x B).2)⟩
theorem Sm.eq(h:Sm m d)(k:m<60:=by decide):cj 60 st d d=some true:=qN 60 d h.1 (Nat.lt_of_le_of_lt h.2 k)
theorem xG{P:D->Prop}{a:D}{l:List D}(h1:P a)(I:∀x∈l,P x):∀x∈a::l,P x:=by
 intro x B;rcases List.mem_cons.mp B with rfl|B
 ·exact h1
 ·exact I x B
theorem Dz{P:D->Prop}:∀x∈([]:List D),P x:=λ_ h=>nomatch h
noncomputable def kK(p r e:D):List (Str×D):=[("params",p),("rows",r),("end",e)]
noncomputable def xp(t g a b l:D):List (Str×D):=[("takes",t),("gives",g),("kinds",a),("kept_kinds",b),("blocks",l)]
noncomputable abbrev kN:D:= .tup [.str "num"]
noncomputable abbrev w5(i:Int):D:= .tup [.str "num",.int i]
noncomputable abbrev eg(a:Nat):D:= .tup [.int (a:Int),.tup []]
inductive En where
 |bk|jp (a:Nat)|br (a b:Nat)|rk (a b:Nat)
noncomputable def En.fol:En->List Nat
 | .bk=>[]
 | .jp a=>[a]
 | .br a b=>[a,b]
 | .rk a b=>[a,b]
def En.tl:En->D
 | .bk=>.tup [.str "back",w5 0]
 | .jp a=>.tup [.str "jump",eg a]
 | .br a b=>.tup [.str "branch",.tup [.str "truth",.bl true],eg a,eg b]
 | .rk a b=>.tup [.str "risk",.str "div",.non,.tup [w5 7,w5 2],eg a,.tup [.tup [.str "zero",eg b]]]
inductive EndAt(st:aW)(n:Nat):En->Prop where
 |bk (h:st[n]? =some (.ins "Back" [("operand",w5 0)])):EndAt st n .bk
 |jp (a:Nat)(h:st[n]? =some (.ins "Jump" [("edge",eg a)])):EndAt st n (.jp a)
 |br (a b:Nat)(h:st[n]? =some (.ins "Branch" [("test",.tup [.str "truth",.bl true]),("yes",eg a),("no",eg b)])):EndAt st n (.br a b)
 |rk (a b:Nat)(h:st[n]? =some (.ins "Risk" (kX (.str "div") .non (.tup [w5 7,w5 2]) (eg a) (.tup [.tup [.str "zero",eg b]])))):EndAt st n (.rk a b)
def Ki(st st':aW):Prop:=∀(m:Nat)(c:Str)(fs:List (Str×D)),st[m]? =some (.ins c fs)->st'[m]? =some (.ins c fs)
theorem Af(h:Gr st st'):Ki st st':=λ_ _ _ e=>h.at e
theorem EndAt.ki{e:En}(h:EndAt st n e)(k:Ki st st'):EndAt st' n e:=by
 cases h with
 |bk h=>exact .bk (k _ _ _ h)
 |jp a h=>exact .jp a (k _ _ _ h)
 |br a b h=>exact .br a b (k _ _ _ h)
 |rk a b h=>exact .rk a b (k _ _ _ h)
theorem lX(h:st[n]? =some (.lst xs)):bG st (.ref n)=some xs:=by simp only[bG,h]
theorem hZ{x:D}(hs:bG st x=some xs)(h:Q (.tup xs) st):W (dD .tuple [x] st) Q:=by simp only[dD,om,hs];exact h
theorem ig{x:D}(g:Gr st st')(h:bG st x=some xs):bG st' x=some xs:=by
 cases x with
 |ref n=>
  simp only[bG] at h ⊢;cases q:st[n]? with
  |none=>rw[q] at h;cases h
  |some o=>rw[q] at h;rw[g.at q];exact h
 |_=>exact h
section
variable{k:Nat}{st:aW}{Q:D->aW->Prop}
theorem Aa(h:Q .non (st++[.ins "Jump" [("edge",e)]])):Wv (calls tab (k+1) nQ [.ref st.length,e] (st++[.ins "Jump" []])) Q:=by
 obtain⟨s0,e_⟩:∃s0,s0=st++[O.ins "Jump" []]:=⟨_,rfl⟩;rw[<-e_]
 walk_at "call0"
 rw[e_];refine e7 rfl (aM rfl (mU aI ?_));rw[bX];exact aK (k_ h)
theorem Ac(h:Q .non (st++[.ins "Back" [("operand",e)]])):Wv (calls tab (k+1) nR [.ref st.length,e] (st++[.ins "Back" []])) Q:=by
 obtain⟨s0,e_⟩:∃s0,s0=st++[O.ins "Back" []]:=⟨_,rfl⟩;rw[<-e_]
 walk_at "call0"
 rw[e_];refine e7 rfl (aM rfl (mU aI ?_));rw[bX];exact aK (k_ h)
theorem uS{y m:D}(h:Q .non (st++[.ins "Branch" [("test",t),("yes",y),("no",m)]])):Wv (calls tab (k+1) kI [.ref st.length,t,y,m] (st++[.ins "Branch" []])) Q:=by
 obtain⟨s0,e_⟩:∃s0,s0=st++[O.ins "Branch" []]:=⟨_,rfl⟩;rw[<-e_]
 walk_at "call0"
 rw[e_];refine e7 rfl (aM rfl (mU aI ?_));rw[bX];refine e7 rfl (aM rfl (mU aI ?_));rw[bX];refine e7 rfl (aM rfl (mU aI ?_));rw[bX];exact aK (k_ h)
theorem z_{op ex x y:D}{cs:List D}(I:bG st x=some xs)(B:bG st y=some cs)(h:Q .non (st++[.ins "Risk" (kX op ex (.tup xs) e (.tup cs))])):Wv (calls tab (k+1) nP [.ref st.length,op,ex,x,e,y] (st++[.ins "Risk" []])) Q:=by
 obtain⟨s0,e_⟩:∃s0,s0=st++[O.ins "Risk" []]:=⟨_,rfl⟩;rw[<-e_]
 walk_at "call0"
 rw[e_];refine e7 rfl (aM rfl (mU aI ?_));rw[bX];refine e7 rfl (aM rfl (mU aI ?_));rw[bX];refine e7 rfl (ce (ak (aM rfl (az (hZ (ig (.one _ _) I) (mU aI ?_))))));rw[bX];refine e7 rfl (aM rfl (mU aI ?_));rw[bX];refine e7 rfl (ce (ak (aM rfl (az (hZ (ig (.one _ _) B) (mU aI ?_))))));rw[bX];exact aK (k_ h)
theorem xm{p q x:D}{ps rs:List D}(I:bG st p=some ps)(B:bG st q=some rs)(h:Q .non (st++[.ins "Block" (kK (.tup ps) (.tup rs) x)])):Wv (calls tab (k+1) my [.ref st.length,p,q,x] (st++[.ins "Block" []])) Q:=by
 obtain⟨s0,e_⟩:∃s0,s0=st++[O.ins "Block" []]:=⟨_,rfl⟩;rw[<-e_]
 walk_at "call0"
 rw[e_];refine e7 rfl (ce (ak (aM rfl (az (hZ (ig (.one _ _) I) (mU aI ?_))))));rw[bX];refine e7 rfl (ce (ak (aM rfl (az (hZ (ig (.one _ _) B) (mU aI ?_))))));rw[bX];refine e7 rfl (aM rfl (mU aI ?_));rw[bX];exact aK (k_ h)
theorem Ab{g l:D}{B bs:List D}{d:Nat}(ht:bG st t=some B)(hd:st[d]? =some (.dct kvs))(I:bG st l=some bs)(h:∀a b st1,st1[st.length]? =some (.ins "Function" (xp (.tup B) g (.ref a) (.ref b) (.tup bs)))->st1[a]? =some (.dct kvs)->st1[b]? =some (.dct kvs)->Gr st st1->Q .non st1):Wv (calls tab (k+1) iX [.ref st.length,t,g,.ref d,l] (st++[.ins "Function" []])) Q:=by
 obtain⟨s0,e_⟩:∃s0,s0=st++[O.ins "Function" []]:=⟨_,rfl⟩;rw[<-e_]
 walk_at "call0"
 rw[e_];have U:∀a:O,(st++[a]).length=st.length+1:=λa=>by simp
 have J:∀a b:O,(st++[a,b]).length=st.length+2:=λa b=>by simp
 refine e7 rfl (ce (ak (aM rfl (az (hZ (ig (.one _ _) ht) (mU aI ?_))))));rw[bX];refine e7 rfl (aM rfl (mU aI ?_));rw[bX];refine e7 rfl (ce (ak (aM rfl (az (pR (aV hd) (mU (aV aI) ?_))))));rw[U,List.append_assoc,show ∀a b:O,[a]++[b]=[a,b] from λ_ _=>rfl,jv];refine e7 rfl (ce (ak (aM rfl (az (pR (aV hd) (mU (aV yI) ?_))))));rw[J,bo _ _ (by simp),jv]
 refine e7 rfl (ce (ak (aM rfl (az (hZ (ig ⟨_,by rw[List.append_assoc]⟩ I) (mU (aV yI) ?_))))))
 rw[bo _ _ (by simp),jv]
 refine aK (k_ (h (st.length+1) (st.length+2) _ (aV yI) (aV CM) ?_ ⟨_,by rw[List.append_assoc]⟩))
 rw[List.append_assoc,aE (Nat.le_add_right _ _),Nat.add_sub_cancel_left];rfl
end
def Lf(st:aW)(l:Nat):Prop:=∃ns:List Int,st[l]? =some (.lst (ns.map .int))
structure Bu(l:Nat)(st st':aW):Prop where
 le:st.length<=st'.length
 same:∀i,i<st.length->i≠l->st'[i]? =st[i]?
theorem Bu.at{l:Nat}{a b:aW}(h:Bu l a b)(e:a[i]? =some o)(B:i≠l):b[i]? =some o:=by rw[h.same i (av e).1 B];exact e
theorem Bu.trans{l:Nat}{a b c:aW}(h:Bu l a b)(k:Bu l b c):Bu l a c:=
 ⟨aB h.le k.le,λi hi B=>(k.same i (aA hi h.le) B).trans (h.same i hi B)⟩
theorem Bu.gr{l:Nat}{a b:aW}(g:Gr a b):Bu l a b:=⟨g.le,λi hi _=>by obtain⟨t,rfl⟩:=g;rw[ao hi]⟩
theorem Bu.set{l:Nat}{a b:aW}(h:Bu l a b)(I:n=l∨a.length<=n):Bu l a (b.set n o):=
 ⟨by rw[au];exact h.le,λi hi B=>by rw[aF (by omega)];exact h.same i hi B⟩
theorem Bu.ki{l:Nat}{a b:aW}(h:Bu l a b)(B:Lf a l):Ki a b:=λm c fs e=>h.at e λz=>by obtain⟨ns,q⟩:=B;rw[z,q] at e;cases e
theorem eq_nil(B:st[n]? =some (.lst xs))(I:st[m]? =some (.lst [])):cj 60 st (.ref n) (.ref m)=some (xs.isEmpty):=by
 by_cases h:n=m
 ·subst h;rw[B] at I;cases I;simp[cj,shape,B,cz]
 ·cases xs with
  |nil=>simp[cj,shape,B,I,cz]
  |cons x xs=>simp[cj,shape,B,I,cz]
section
variable{k l n:Nat}{st:aW}{Q:D->aW->Prop}
theorem oQ(I:Lf st l)(h:∀w st1,Bu l st st1->Lf st1 l->Q (.int w) st1):Wv (calls tab (k+1) nN [.ref l] st) Q:=by
 obtain⟨ns,e⟩:=I;have B:l<st.length:=(av e).1
 walk_at "call0"
 refine ck (ba (aM rfl (cv (az (w_eq (eq_nil (aV e) aI) ⟨_,rfl,λz=>?_,λz=>?_⟩)))))
 ·exact bp (bi (lc (bn (h _ _ (.gr (.one _ _)) ⟨ns,aV e⟩))))
 ·cases ns with
  |nil=>cases z
  |cons a ns=>
   refine aK (a7 (bp (yz (aM rfl ⟨l,_,_,rfl,aV e,bn (h _ _ ((Bu.gr (.one _ _)).set (.inl rfl)) ⟨ns,bj (by simp;omega)⟩)⟩))))
theorem s_end(hn:1<=n/\n<=9)(hl:Lf st l)(h:∀e m st1,Bu l st st1->Lf st1 l->(∀a∈e.fol,1<=a/\a<n)->EndAt st1 m e->Q (.ref m) st1):Wv (calls tab (k+2) o8 [.ref l,.int n] st) Q:=by
 walk_at "call0"
 refine aX (bY (ak (aM rfl (az (oQ hl λw st1 b1 l1=>?_)))));have grow:∀{s:aW}{o:O},Bu l st s->Lf s l->Bu l st (s++[o])/\Lf (s++[o]) l:=λb ⟨ns,e⟩=>⟨b.trans (.gr (.one _ _)),ns,aV e⟩
 have bk:W (run (calls tab (k+1)) (.new "Back" 32 [(.tup [(.c (.str "num")),(.c (.int (0)))])]) [some (.ref l),some (.int n),some (.int w),none,none] st1) Q:=by obtain⟨U,l2⟩:=grow (o:= .ins "Back" [("operand",w5 0)]) b1 l1;exact kP (ak (bD (ak (bi (ak (bi (az (az (Ac ⟨rfl,h .bk _ _ U l2 (λa I=>nomatch I) (.bk aI)⟩)))))))))
 refine ck (w_or (ba (aM rfl (bi (mX ⟨_,rfl,λz=>?_,λz=>?_⟩)))))
 ·exact⟨_,rfl,λ_=>bp (bk.mono λ_ _ q=>lc (bn q)),λz=>nomatch z⟩
 have hn2:2<=n:=by have:¬((n:Int)=1):=of_decide_eq_false z;omega
 refine ba (bE (aM rfl (bi (w_mod (by omega) (bi (mX ⟨_,rfl,λ_=>?_,λ_=>?_⟩))))))
 ·exact bp (bk.mono λ_ _ q=>lc (bn q))
 refine aK (a7 (aX (bD (ak (bE (bi (bE (bE (aM rfl (bi (sV (by omega) (bE (aM rfl (bi (w_sub (w_mod (by omega) (w_add (ak (bD (az (az ?_)))))))))))))))))))))
 obtain⟨p,hp,hp1,hp2⟩:∃p:Nat,1+w / 7 % ((n:Int) - 1)=(p:Int)/\1<=p/\p<n:=by
  have o1:=Int.emod_nonneg (w / 7) (b:=(n:Int) - 1) (by omega)
  have o2:=Int.emod_lt_of_pos (w / 7) (b:=(n:Int) - 1) (by omega)
  exact⟨(1+w / 7 % ((n:Int) - 1)).toNat,by omega,by omega,by omega⟩
 rw[hp];refine aX (bD (ak (bE (bi (bE (bY (ak (aM rfl (az (oQ l1 λY s2 Z l2=>?_))))))))));refine bE (aM rfl (bi (w_sub (w_mod (by omega) (w_add (ak (bD (az (az ?_)))))))))
 obtain⟨q,hq,hq1,hq2⟩:∃q:Nat,1+Y % ((n:Int) - 1)=(q:Int)/\1<=q/\q<n:=by
  have o1:=Int.emod_nonneg Y (b:=(n:Int) - 1) (by omega)
  have o2:=Int.emod_lt_of_pos Y (b:=(n:Int) - 1) (by omega)
  exact⟨(1+Y % ((n:Int) - 1)).toNat,by omega,by omega,by omega⟩
 rw[hq];have U:=b1.trans Z
 have two:∀a∈[p,q],1<=a/\a<n:=λa I=>by simp only[List.mem_cons,List.not_mem_nil,or_false] at I;omega
 refine ck (ba (bE (aM rfl (bi (w_mod (by omega) (bi (w_lt ⟨_,rfl,λ_=>?_,λ_=>?_⟩)))))))
 ·obtain⟨J,B⟩:=grow (o:= .ins "Jump" [("edge",eg p)]) U l2;exact bp (kP (ak (aM rfl (az (Aa ⟨rfl,lc (bn (h (.jp p) _ _ J B (λa I=>two a (by simp[List.mem_singleton.mp I])) (.jp p aI)))⟩)))))
 refine aK (a7 (ck (ba (bE (aM rfl (bi (w_mod (by omega) (bi (w_lt ⟨_,rfl,λ_=>?_,λ_=>?_⟩)))))))))
 ·obtain⟨J,B⟩:=grow (o:= .ins "Branch" [("test",.tup [.str "truth",.bl true]),("yes",eg p),("no",eg q)]) U l2;exact bp (kP (ak (bD (ak (bi (ak (bi (az (ak (aM rfl (ak (aM rfl (az (uS ⟨rfl,lc (bn (h (.br p q) _ _ J B two (.br p q aI)))⟩))))))))))))))
 obtain⟨J,B⟩:=grow (o:= .ins "Risk" (kX (.str "div") .non (.tup [w5 7,w5 2]) (eg p) (.tup [.tup [.str "zero",eg q]]))) U l2;refine aK (a7 (bp (kP (ak (bi (ak (bi ?_)))))));refine ak (bD (ak (bD (ak (bi (ak (bi (az (ak (bD (ak (bi (ak (bi (az (az ?_))))))))))))))));refine ak (aM rfl (ak (bD (ak (bD (ak (bi (ak (aM rfl (az (az (az ?_))))))))))));exact z_ rfl rfl ⟨rfl,bn (h (.rk p q) _ _ J B two (.rk p q aI))⟩
end
def kx(st:aW)(b:Nat)(e:En):Prop:=∃n,st[b]? =some (.ins "Block" (kK (.tup []) (.tup []) (.ref n)))/\EndAt st n e
theorem kx.ki{e:En}(h:kx st b e)(k:Ki st st'):kx st' b e:=by obtain⟨n,h1,B⟩:=h;exact⟨n,k _ _ _ h1,B.ki k⟩
def iT(st:aW)(bs:List Nat)(G:List En):Prop:=bs.length=G.length/\∀(j b:Nat)(e:En),bs[j]? =some b->G[j]? =some e->kx st b e
theorem iT.ki{bs:List Nat}{L:List En}(h:iT st bs L)(k:Ki st st'):iT st' bs L:=⟨h.1,λj b p a c=>(h.2 j b p a c).ki k⟩
theorem nb{α β:Type}{P:Nat->α->β->Prop}{as:List α}{bs:List β}{a:α}{b:β}(J:as.length=bs.length)(h:∀(j:Nat) x y,as[j]? =some x->bs[j]? =some y->P j x y)(U:P as.length a b):∀(j:Nat) x y,(as++[a])[j]? =some x->(bs++[b])[j]? =some y->P j x y:=λj x y h1 B=>by
 by_cases hj:j<as.length
 ·rw[ao hj] at h1;rw[ao (by omega)] at B
  exact h j x y h1 B
 ·have I:j=as.length:=by have:=(av h1).1;simp at this;omega
  subst I;rw[aE (ac _),Nat.sub_self] at h1;rw[J,aE (ac _),Nat.sub_self] at B;cases h1;cases B;exact U
theorem iT.snoc{bs:List Nat}{L:List En}{e:En}(h:iT st bs L)(B:kx st b e):iT st (bs++[b]) (L++[e]):=
 ⟨by simp[h.1],nb (P:=λ_ b e=>kx st b e) h.1 h.2 B⟩
def d8(st:aW)(f:Nat)(G:List En):Prop:=∃kd kk bs,st[f]? =some (.ins "Function" (xp (.tup []) kN (.ref kd) (.ref kk) (.tup (bs.map .ref))))/\st[kk]? =some (.dct [])/\iT st bs G
theorem d8.gr{L:List En}(h:d8 st f L)(k:Gr st st'):d8 st' f L:=by obtain⟨I,B,bs,h1,U,J⟩:=h;exact⟨I,B,bs,k.at h1,k.at U,J.ki (Af k)⟩
noncomputable def dI(n:Nat)(G:List En):Prop:=∀e∈G,∀a∈e.fol,1<=a/\a<n
theorem p_{x:D}(h:(bO n)[i]? =some x):i<n/\x=.int (i:Int):=by
 have hi:i<n:=by have:=(av h).1;rwa [bP] at this
 refine⟨hi,?_⟩;have:(bO n)[i]? =some (.int (i:Int)):=by simp[bO,hi]
 rw[this] at h;exact(ag h).symm
section
variable{k l:Nat}{st:aW}{Q:D->aW->Prop}
theorem wt(hl:Lf st l)(h:∀G f st1,Bu l st st1->0<G.length/\G.length<=9->dI G.length G->d8 st1 f G->Q (.ref f) st1):Wv (calls tab (k+3) mr [.ref l] st) Q:=by
 walk_at "call0"
 refine aX (bE (bi (bE (bY (ak (aM rfl (az (oQ hl λw st1 b1 l1=>bi (w_mod (by omega) (w_add ?_))))))))))
 obtain⟨n,hn,J,I⟩:∃n:Nat,1+w % 9=(n:Int)/\1<=n/\n<=9:=⟨(1+w % 9).toNat,by omega,by omega,by omega⟩
 rw[hn];refine aX (b5 (aM rfl ⟨_,dj (by omega),?_⟩))
 rw[Int.toNat_natCast];refine bN (L:=bO n) (by show(bO n).length<=1000000;rw[bP];omega) (ac _) (λi acc s=>Bu l st s/\Lf s l/\∃bs G,acc=bs.map .ref/\G.length=i/\dI n G/\iT s bs G) ⟨b1,l1,[],[],rfl,rfl,(λe he=>nomatch he),rfl,λj b e a _=>by simp at a⟩ (λ_ _ _ _=>rfl) (λi x acc s B hI=>?_) λacc s hI=>?_
 ·obtain⟨b2,l2,bs,G,rfl,U,hf,hB⟩:=hI;refine d_ (kP (ak (bD (az (ak (bD (az (ak (bY (ak (aM rfl (ak (aM rfl (az (s_end ⟨J,I⟩ l2 λe m Z b3 l3 he hE=>az (xm rfl rfl ⟨rfl,?_⟩))))))))))))))));have Y:Gr Z (Z++[O.ins "Block" (kK (.tup []) (.tup []) (.ref m))]):= .one _ _;obtain⟨ns,l4⟩:=l3;refine⟨b2.trans (b3.trans (.gr Y)),⟨ns,Y.at l4⟩,bs++[Z.length],G++[e],by simp,by simp[U],λx B=>?_,((hB.ki (b3.ki l2)).ki (Af Y)).snoc ⟨m,aI,hE.ki (Af Y)⟩⟩
  rcases List.mem_append.mp B with B|B
  ·exact hf x B
  ·rw[List.mem_singleton.mp B];exact he
 ·obtain⟨b2,l2,bs,G,rfl,U,hf,hB⟩:=hI;rw[bP] at U;subst U;refine bp (kP (ak (bD (az (ak (bD (ak (bi (az (ak (jn (ak (aM rfl (az ?_))))))))))))));refine Ab rfl aI (lX (aV aI)) λkd kk s1 a1 a2 a3 g1=>⟨rfl,bn ?_⟩;have g2:Gr s s1:=((Gr.one _ _).more _).trans g1;exact h _ _ _ (b2.trans (.gr g2)) ⟨J,I⟩ hf ⟨kd,kk,bs,a1,a3,hB.ki (Af g2)⟩
end
def Mk(st st':aW)(m:Nat):Prop:=∃zs:List Int,st'=st++[.lst (zs.map .int)]/\zs.length<=m
section
variable{k n:Nat}{st:aW}{Q:D->aW->Prop}
theorem p7{c m:Int}(h:∀r,Q (.int r) st):Wv (calls tab (k+1) mq [.int c,.int m] st) Q:=by
 walk_at "call0"
 refine aX (bE (bE (bE (bE (bE (aM rfl (bi (w_mod (by decide) (bi (w_mul (.inr (by decide)) (bE (aM rfl (bi (w_mul (.inr (by decide)) (w_add (bi (w_add (bi (w_mod (by decide) ?_)))))))))))))))))))
 refine aX (bE (bE (bE (bE (bE (bE (aM rfl (aM rfl (w_mul ?_ (bi (w_mod (by decide) (bi (w_mul (.inr (by decide)) (bE (aM rfl (bi (w_mul (.inr (by decide)) (w_add (bi (w_add (bi (w_mod (by decide) ?_))))))))))))))))))))))
 ·omega
 exact bp (bE (bE (aM rfl (aM rfl (w_mul (by omega) (bi (w_mod (by decide) (bn (h _)))))))))
theorem oz{e:Ex}{ss:List S}{zs:List Int}{Q:Fl->aW->Prop}(I:loc[2]? =some (some (.ref st.length)))(J:zs.length<10000)(B:∀P:D->aW->Prop,(∀r,P (.int r) (st++[.lst (zs.map .int)]))->W (run g e loc (st++[.lst (zs.map .int)])) P)(h:∀r:Int,W (execs g ss loc (st++[.lst ((zs++[r]).map .int)])) Q):W (execs g (.app (.v 2) e::ss) loc (st++[.lst (zs.map .int)])) Q:=
 dW (aM I (b_ aI (B _ λr=>bW aI (by rw[List.length_map];omega) (by rw[bX];have:=h r;rw[List.map_append] at this;exact this))))
theorem rF{cs:List Int}(hn:st[n]? =some (.lst (cs.map .int)))(hc:cs.length<=63)(h:∀m st',Lf st' m->Gr st st'->st.length<=m->Q (.ref m) st'):Wv (calls tab (k+2) jT [.ref n,.int 60] st) Q:=by
 walk_at "call0"
 refine aX (cv (az (dg (aM rfl ⟨_,rfl,?_⟩))));have hL:bF (.at n) (st++[O.lst []])=(cs.map D.int).length:=by simp only[bF,aV hn]
 refine cw (L:=cs.map .int) (by rw[hL];exact ac _) (λi loc st'=>(∃a b c,loc=[some (.ref n),some (.int 60),some (.ref st.length),a,b,c])/\Mk st st' (40*i)) ⟨⟨_,_,_,rfl⟩,[],rfl,by simp⟩ (λi loc st' I=>by obtain⟨_,zs,rfl,_⟩:=I;simp only[c9,aV hn]) (λi z loc st' B I=>?_) λloc st' I=>?_
 ·obtain⟨⟨a,b,c,rfl⟩,hM⟩:=I
  have hi:i<cs.length:=by have:=(av B).1;rwa [List.length_map] at this
  obtain⟨v,_,rfl⟩:=List.mem_map.mp (aj B);refine aX (aM rfl (dg (bi ⟨_,dj (by decide),?_⟩)))
  refine cw (L:=bO 40) (ac _) (λj loc st'=>(∃(b:Int)(c:Option D),loc=[some (.ref n),some (.int 60),some (.ref st.length),some (.int v),some (.int b),c])/\Mk st st' (40*i+j)) ⟨⟨_,_,rfl⟩,hM⟩ (λ_ _ _ _=>rfl) (λj y loc J hy hJ=>?_) λloc J hJ=>?_
  ·obtain⟨⟨b2,c2,rfl⟩,zs,rfl,U⟩:=hJ
   have hj:j<40:=by have:=(av hy).1;rwa [bP] at this
   have fin:∀r:Int,Mk st (st++[O.lst ((zs++[r]).map D.int)]) (40*i+(j+1)):=λr=>⟨_,rfl,by simp;omega⟩
   refine ck (ba (aM rfl (bE (bi (bi (w_pow (by decide) (w_lt ⟨_,rfl,λ_=>?_,λ_=>?_⟩)))))))
   ·refine oz rfl (by omega) (λP Y=>?_) λr=>?_
    ·exact bE (bY (ak (aM rfl (ak (ce (ak (aM rfl (az (cN aI (az (p7 λr=>bi (w_mod (by decide) (Y _)))))))))))))
    exact aK (a7 (aK (bA ⟨⟨_,_,rfl⟩,fin r⟩)))
   ·refine ck (ba (aM rfl (bi (rc ⟨_,rfl,λ_=>?_,λ_=>?_⟩))))
    ·refine oz rfl (by omega) (λP Y=>?_) λr=>?_
     ·exact bE (aM rfl (bi (w_mod (by decide) (Y _))))
     exact aX (bE (aM rfl (bi (sV (by decide) (aK (a7 (aK (a7 (aK (bA ⟨⟨_,_,rfl⟩,fin r⟩))))))))))
    ·exact aK (a7 (aK (a7 (aK (bA ⟨⟨_,_,rfl⟩,zs,rfl,by omega⟩)))))
  ·obtain⟨⟨b2,c2,rfl⟩,Z⟩:=hJ;rw[bP] at Z;exact a7 (aK (bA ⟨⟨_,_,_,rfl⟩,Z⟩))
 ·obtain⟨⟨a,b,c,rfl⟩,zs,rfl,U⟩:=I;rw[List.length_map] at U;refine a7 (gc (λm' loc st'=>∃zs:List Int,st'=st++[.lst (zs.map .int)]/\zs.length<=3000/\m'=60 - zs.length/\loc=[some (.ref n),some (.int 60),some (.ref st.length),a,b,c]) (60 - zs.length) (by omega) ⟨zs,rfl,by omega,rfl,rfl⟩ λm' loc J I=>?_)
  obtain⟨ys,rfl,hy,rfl,rfl⟩:=I;refine ba (ce (ak (aM rfl (az (cN aI (aM rfl (w_lt ⟨_,rfl,λB=>?_,λB=>?_⟩)))))))
  ·have B:((ys.map D.int).length:Int)<60:=of_decide_eq_true B;rw[List.length_map] at B;refine⟨60 - ys.length - 1,by omega,?_⟩
   refine oz rfl (by omega) (λP Y=>?_) λr=>?_
   ·exact bE (bY (ak (ce (ak (aM rfl (az (cN aI (ak (aM rfl (az (p7 λr=>bi (w_mod (by decide) (Y _)))))))))))))
   exact aK (bA ⟨ys++[r],rfl,by simp;omega,by simp;omega,rfl⟩)
  ·refine bp (sO (aM rfl (aM rfl ⟨_,rfl,AS aI (bn (h _ _ ?_ ((Gr.one _ _).more _) (by simp)))⟩)))
   refine⟨((ys.drop (HT.cC (ys.map D.int).length 0 none)).take (HT.cC (ys.map D.int).length (ys.map D.int).length (some 60) - HT.cC (ys.map D.int).length 0 none)),?_⟩;rw[aI];unfold cutD;rw[List.map_take,List.map_drop]
end
noncomputable abbrev mT:List (Str×Nat):=[("Jump",27),("Branch",30),("Back",33),("Risk",35),("Block",38),("Function",40)]
noncomputable def xE(e:En):D:= .tup [.tup [],.tup [],e.tl]
theorem B3{f:Str}{a b c:D}{P:D->Prop}(B:st1[p]? =some (.ins "Block" (kK a b c)))(i:Nat)(hi:(kK a b c)[i]? =some (f,d))(q:P d)(I:(((kK a b c).take i).map (·.1)).contains f=false:=by(simp only[kK,List.take_succ_cons,List.take_zero,List.map_cons,List.map_nil];decide+kernel)):∃n c fs d,D.ref p=.ref n/\st1[n]? =some (.ins c fs)/\fs.lookup f=some d/\c∈(["Block"]:List Str)/\P d:=⟨p,_,_,d,rfl,B,lk i hi I,.head _,q⟩
theorem xq{f:Str}{g a b l:D}{P:D->Prop}(B:st1[p]? =some (.ins "Function" (xp t g a b l)))(i:Nat)(hi:(xp t g a b l)[i]? =some (f,d))(q:P d)(I:(((xp t g a b l).take i).map (·.1)).contains f=false:=by(simp only[xp,List.take_succ_cons,List.take_zero,List.map_cons,List.map_nil];decide+kernel)):∃n c fs d,D.ref p=.ref n/\st1[n]? =some (.ins c fs)/\fs.lookup f=some d/\c∈(["Function"]:List Str)/\P d:=⟨p,_,_,d,rfl,B,lk i hi I,.head _,q⟩
theorem D7{m:Str}{a b c:D}{ms:List (Str×Nat)}{P:Nat->Nat->Prop}(B:st1[p]? =some (.ins "Block" (kK a b c)))(J:ms.lookup ("Block":Str)=some j)(q:P p j)(I:((kK a b c).map (·.1)).contains m=false:=by(simp only[kK,List.map_cons,List.map_nil];decide+kernel)):∃n c fs j,D.ref p=.ref n/\st1[n]? =some (.ins c fs)/\fs.lookup m=none/\ms.lookup c=some j/\P n j:=⟨p,_,_,j,rfl,B,jb I,J,q⟩
theorem DN{m:Str}{g a b l:D}{ms:List (Str×Nat)}{P:Nat->Nat->Prop}(B:st1[p]? =some (.ins "Function" (xp t g a b l)))(J:ms.lookup ("Function":Str)=some j)(q:P p j)(I:((xp t g a b l).map (·.1)).contains m=false:=by(simp only[xp,List.map_cons,List.map_nil];decide+kernel)):∃n c fs j,D.ref p=.ref n/\st1[n]? =some (.ins c fs)/\fs.lookup m=none/\ms.lookup c=some j/\P n j:=⟨p,_,_,j,rfl,B,jb I,J,q⟩
section
variable{k n r:Nat}{st:aW}{Q:D->aW->Prop}{loc:Loc}{a:Ex}
theorem xZ{e:En}(h:W (run (calls tab (k+1)) a loc st) λx st1=>∃n,x=.ref n/\EndAt st1 n e/\Q e.tl st1):W (run (calls tab (k+1)) (.meth a "told" mT []) loc st) Q:=by
 refine jm (h.mono λx st1 I=>?_);obtain⟨n,rfl,B,q⟩:=I;cases B with
 |bk hh=>
  refine xY hh rfl (az ?_)
  walk_at "call0"
  exact bp (bD (ak (bi (ak (bz (aM rfl (pc hh 0 rfl (az (bn q)))))))))
 |jp a hh=>
  refine xY hh rfl (az ?_)
  walk_at "call0"
  exact bp (bD (ak (bi (ak (bz (aM rfl (pc hh 0 rfl (az (bn q)))))))))
 |br a b hh=>
  refine xY hh rfl (az ?_)
  walk_at "call0"
  refine bp (bD (ak (bi (ak (bz (aM rfl (pc hh 0 rfl ?_)))))));refine ak (bz (aM rfl (pc hh 1 rfl ?_)));refine ak (bz (aM rfl (pc hh 2 rfl ?_)));exact az (bn q)
 |rk a b hh=>
  refine xY hh rfl (az ?_)
  walk_at "call0"
  refine bp (bD (ak (bi (ak (bz (aM rfl (pc hh 0 rfl ?_)))))));refine ak (bz (aM rfl (pc hh 1 rfl ?_)));refine ak (bz (aM rfl (pc hh 2 rfl ?_)));refine ak (bz (aM rfl (pc hh 3 rfl ?_)));refine ak (bz (aM rfl (pc hh 4 rfl ?_)));exact az (bn q)
theorem Br{e:En}(J:kx st r e)(h:∀st1,Gr st st1->Q (xE e) st1):Wv (calls tab (k+2) mx [.ref r] st) Q:=by
 obtain⟨n,h1,U⟩:=J
 walk_at "call0"
 refine bp (bD (ak (bz (aM rfl (B3 h1 0 rfl ?_)))));refine ak (ce (ak (b5 (bz (aM rfl (B3 h1 1 rfl ⟨_,rfl,?_⟩))))));refine bN (L:=[]) (by show(0:Nat)<=1000000;decide) (ac _) (λi' acc st1=>st1=st/\acc=[]) ⟨rfl,rfl⟩ (λ_ _ _ _=>rfl) (λj x acc st1 I B=>by simp at I) λacc st1 B=>?_
 obtain⟨rfl,rfl⟩:=B;refine az (jk aI ?_);exact ak (xZ (e:=e) (bz (aM rfl (B3 (aV h1) 2 rfl ⟨n,rfl,U.ki (Af (.one _ _)),az (bn (h _ (.one _ _)))⟩))))
def pW(G:List En):D:= .tup [.tup [],kN,.tup [],.tup (G.map xE)]
theorem tV{G:List En}(hg:G.length<=9)(hf:d8 st r G)(h:∀st1,Gr st st1->Q (pW G) st1):Wv (calls tab (k+3) iW [.ref r] st) Q:=by
 obtain⟨kd,kk,bs,h1,h3,Y⟩:=hf;have I:=Y.1
 walk_at "call0"
 refine aX (ce (ak (AU (bz (aM rfl (xq h1 3 rfl ⟨kk,rfl,h3,az (jk aI ?_)⟩))))));refine bp (bD (ak (bz (aM rfl (xq (aV h1) 0 rfl ?_)))));refine ak (bz (aM rfl (xq (aV h1) 1 rfl ?_)));refine ak (aM rfl (ak (ce (ak (b5 (bz (aM rfl (xq (aV h1) 4 rfl ⟨_,rfl,?_⟩))))))));refine bN (L:=bs.map .ref) (by show(bs.map D.ref).length<=1000000;rw[List.length_map];omega) (ac _) (λi acc st1=>Gr st st1/\acc=(G.take i).map xE) ⟨.one _ _,rfl⟩ (λ_ _ _ _=>rfl) (λj x acc st1 B J=>?_) λacc st1 J=>?_
 ·obtain⟨g,rfl⟩:=J;rw[aq] at B;obtain⟨b,hb,B⟩:=Option.map_eq_some_iff.mp B;subst B;have hj:j<G.length:=by rw[<-Y.1];exact(av hb).1
  have Z:G[j]? =some G[j]:=ae hj;have hB:=(Y.2 j b _ hb Z).ki (Af g);have U:=hB;obtain⟨n,e1,_⟩:=U;refine d_ (jm (aM rfl (D7 e1 rfl (az (Br hB λst2 g2=>⟨g.trans g2,?_⟩)))));rw[List.take_add_one,Z,List.map_append];rfl
 ·obtain⟨g,rfl⟩:=J;refine az (jk aI (az (bn ?_)));rw[List.length_map,I,List.take_length];exact h _ (g.more _)
end
theorem wc(G:List En):Sm 30 (pW G):=by
 refine Sm.mono (m:=26) (Sm.tup (m:=25) (xG ?_ (xG ?_ (xG ?_ (xG ?_ Dz))))) (by decide)
 ·simp[Sm,vL,jH,vN,iY]
 ·simp[Sm,vL,jH,vN,iY]
 ·simp[Sm,vL,jH,vN,iY]
 ·refine Sm.mono (m:=21) (Sm.tup (m:=20) λx B=>?_) (by decide)
  obtain⟨e,_,rfl⟩:=List.mem_map.mp B;cases e<;>simp[Sm,xE,En.tl,vL,jH,vN,iY]
noncomputable abbrev mE:List (Str×Nat):=[("Jump",28),("Branch",31),("Back",25),("Risk",36)]
def eD:En->List D
 | .bk=>[]
 | .jp a=>[.tup [eg a,.bl false]]
 | .br a b=>[.tup [eg a,.bl false],.tup [eg b,.bl false]]
 | .rk a b=>[.tup [eg a,.bl true],.tup [eg b,.bl false]]
noncomputable def wy(e:En):List Nat:=match e.fol with
 |[a,b]=>if a=b then [a] else if a<b then [a,b] else [b,a]
 |l=>l
theorem Bh(a b:Int):Tab23.ie [a,b]=if a=b then [a] else if a<b then [a,b] else [b,a]:=by
 by_cases h:a=b
 ·subst h;rw[if_pos rfl];simp[Tab23.ie,Tab23.cJ,Tab23.insI]
 ·rw[if_neg h];have B:¬b=a:=λz=>h z.symm;by_cases h3:a<b
  ·rw[if_pos h3];simp[Tab23.ie,Tab23.cJ,Tab23.insI,B,Int.le_of_lt h3]
  ·rw[if_neg h3];have:¬a<=b:=by omega
   simp[Tab23.ie,Tab23.cJ,Tab23.insI,B,this]
noncomputable def zs(l:List Nat):List Int:=l.map λ(a:Nat)=>(a:Int)
theorem tM(e:En):Tab23.ie (zs e.fol)=zs (wy e):=by
 have two:∀a b:Nat,Tab23.ie [(a:Int),(b:Int)]=zs (if a=b then [a] else if a<b then [a,b] else [b,a]):=λa b=>by
  rw[Bh];by_cases h:a=b
  ·rw[if_pos h,if_pos (by rw[h])];rfl
  ·rw[if_neg h,if_neg (λz=>h (Int.ofNat_inj.mp z))];by_cases h2:a<b
   ·rw[if_pos h2,if_pos (Int.ofNat_lt.mpr h2)];rfl
   ·rw[if_neg h2,if_neg (λz=>h2 (Int.ofNat_lt.mp z))];rfl
 cases e with
 |bk=>rfl
 |jp a=>simp[zs,En.fol,wy,Tab23.ie,Tab23.cJ,Tab23.insI]
 |br a b=>exact two a b
 |rk a b=>exact two a b
theorem yq{e:En}:a∈wy e↔a∈e.fol:=by
 have two:∀x y:Nat,a∈(if x=y then [x] else if x<y then [x,y] else [y,x])↔a∈[x,y]:=λx y=>by
  by_cases h:x=y
  ·subst h;simp
  ·rw[if_neg h];by_cases h2:x<y
   ·rw[if_pos h2]
   ·rw[if_neg h2];simp[or_comm]
 cases e with
 |bk=>rfl
 |jp x=>rfl
 |br x y=>exact two x y
 |rk x y=>exact two x y
theorem Cg(e:En):(eD e).length<=2:=by cases e<;>simp[eD]
theorem u6(e:En):e.fol.length<=2:=by cases e<;>simp[En.fol]
theorem cB(h:xs[i]? =some d):lD xs (i:Int)=some d:=by
 have hi:=(av h).1;obtain⟨d',e,e'⟩:=AD (xs:=xs) (i:=(i:Int)) (by omega) (by omega)
 rw[Int.toNat_natCast,h] at e';rw[e,e']
section
variable{k n r:Nat}{st:aW}{Q:D->aW->Prop}{loc:Loc}{a:Ex}
theorem w_{e:En}(h:W (run (calls tab (k+1)) a loc st) λx st1=>∃n,x=.ref n/\EndAt st1 n e/\∀m B,Gr st1 B->B[m]? =some (.lst (eD e))->Q (.ref m) B):W (run (calls tab (k+1)) (.meth a "edges" mE []) loc st) Q:=by
 refine jm (h.mono λx st1 Z=>?_);obtain⟨n,rfl,Y,q⟩:=Z;cases Y with
 |bk hh=>
  refine xY hh rfl (az ?_)
  walk_at "call0"
  exact bp (cv (az (bn (q _ _ (.one _ _) aI))))
 |jp a hh=>
  refine xY hh rfl (az ?_)
  walk_at "call0"
  exact bp (cv (ak (bD (ak (bz (aM rfl (pc hh 0 rfl (ak (bi (az (az (bn (q _ _ (.one _ _) aI)))))))))))))
 |br a b hh=>
  refine xY hh rfl (az ?_)
  walk_at "call0"
  refine bp (cv (ak (bD (ak (bz (aM rfl (pc hh 1 rfl (ak (bi (az ?_))))))))));exact ak (bD (ak (bz (aM rfl (pc hh 2 rfl (ak (bi (az (az (bn (q _ _ (.one _ _) aI)))))))))))
 |rk a b hh=>
  refine xY hh rfl (az ?_)
  walk_at "call0"
  refine bp (bE (cv (ak (bD (ak (bz (aM rfl (pc hh 3 rfl (ak (bi (az (az ?_))))))))))));refine b5 (bz (aM rfl (pc (aV hh) 4 rfl ⟨_,rfl,?_⟩)));refine bN (L:=[.tup [.str "zero",eg b]]) (by show(1:Nat)<=1000000;decide) (ac _) (λi acc J=>J=st1++[.lst [.tup [eg a,.bl true]]]/\acc=[D.tup [eg b,.bl false]].take i) ⟨rfl,rfl⟩ (λ_ _ _ _=>rfl) (λj x acc J I U=>?_) λacc J U=>?_
  ·obtain⟨rfl,rfl⟩:=U
   match j,I with
   |0,I=>cases I;exact i0 (bD (ak (aM rfl (ak (bi (az ⟨rfl,rfl⟩))))))
   |j+1,I=>simp at I
  ·obtain⟨rfl,rfl⟩:=U;exact sX (aV aI) aI (by show(2:Nat)<=1000000;decide) (bn (q _ _ (((Gr.one _ _).more _).more _) aI))
theorem xS{G:List En}{e:En}(hf:d8 st r G)(hp:G[i]? =some e)(hb:∀a∈e.fol,a<10)(h:∀m st1,Gr st st1->st.length<=m->st1[m]? =some (.lst ((zs (wy e)).map .int))->Q (.ref m) st1):Wv (calls tab (k+2) nM [.ref r,.int i] st) Q:=by
 obtain⟨kd,kk,bs,h1,h3,h4⟩:=hf;have hi:i<bs.length:=by rw[h4.1];exact(av hp).1
 have I:bs[i]? =some bs[i]:=ae hi;obtain⟨n,e1,e4⟩:=h4.2 i _ e I hp
 walk_at "call0"
 have Y:lD (bs.map D.ref) (i:Int)=some (.ref bs[i]):=cB (by rw[aq,I];rfl)
 refine bp (sN (b5 (w_ (e:=e) (bz (bx (bz (aM rfl (xq h1 4 rfl (aM rfl (bJ Y (B3 e1 2 rfl ⟨n,rfl,e4,λm st1 g hm=>⟨_,rfl,?_⟩⟩)))))))))));have hL:bF (.at m) st1=(eD e).length:=by simp only[bF,hm]
 refine bN (L:=eD e) (by rw[hL];exact aB (Cg _) (by decide)) (by rw[hL];exact ac _) (λj acc U=>U=st1/\acc=((zs e.fol).map D.int).take j) ⟨rfl,rfl⟩ (λj acc U J=>by rw[J.1];simp only[c9,hm]) (λj x acc U B J=>?_) λacc U J=>?_
 ·obtain⟨rfl,rfl⟩:=J
  have ex:∃(a:Nat)(b:Bool),x=.tup [eg a,.bl b]/\((zs e.fol).map D.int)[j]? =some (.int a):=by
   cases e with
   |bk=>simp[eD] at B
   |jp a=>
    match j,B with
    |0,B=>cases B;exact⟨_,_,rfl,rfl⟩
    |j+1,B=>simp[eD] at B
   |br a b=>
    match j,B with
    |0,B=>cases B;exact⟨_,_,rfl,rfl⟩
    |1,B=>cases B;exact⟨_,_,rfl,rfl⟩
    |j+2,B=>simp[eD] at B
   |rk a b=>
    match j,B with
    |0,B=>cases B;exact⟨_,_,rfl,rfl⟩
    |1,B=>cases B;exact⟨_,_,rfl,rfl⟩
    |j+2,B=>simp[eD] at B
  obtain⟨a,b,rfl,Z⟩:=ex;refine i0 (bx (aM rfl (bi (bJ rfl ⟨rfl,?_⟩))));rw[List.take_add_one,Z];rfl
 ·obtain⟨rfl,rfl⟩:=J;have e5:((zs e.fol).map D.int).take (eD e).length=(zs e.fol).map D.int:=by cases e<;>rfl
  rw[e5];refine⟨zs e.fol,lX aI,by unfold zs;rw[List.length_map];exact u6 _,λx B=>?_,?_⟩
  ·obtain⟨a,Z,rfl⟩:=List.mem_map.mp B;have:=hb a Z;omega
  ·rw[tM];exact bn (h _ _ ((g.more _).more _) (by simp;have:=g.le;omega) aI)
end
def bS(st:aW)(w:Nat)(Ws:List (List Nat)):Prop:=∃rs:List Nat,st[w]? =some (.lst (rs.map .ref))/\rs.length=Ws.length/\∀(j r:Nat)(ws:List Nat),rs[j]? =some r->Ws[j]? =some ws->st[r]? =some (.lst ((zs ws).map .int))
theorem bS.gr(h:bS st w Ws)(g:Gr st st'):bS st' w Ws:=by obtain⟨rs,h1,I,B⟩:=h;exact⟨rs,g.at h1,I,λj r ws a b=>g.at (B j r ws a b)⟩
theorem bS.bu{dn:Nat}(h:bS st w Ws)(hd:st[dn]? =some (.dct kv))(b:Bu dn st st'):bS st' w Ws:=by
 obtain⟨rs,h1,I,B⟩:=h;have ne:∀{i:Nat}{xs:List D},st[i]? =some (.lst xs)->i≠dn:=λe z=>by rw[z,hd] at e;cases e
 exact⟨rs,b.at h1 (ne h1),I,λj r ws a c=>b.at (B j r ws a c) (ne (B j r ws a c))⟩
noncomputable def wf(Ws:List (List Nat))(v:Nat):List Nat:=(Ws[v]?).getD []
theorem gE(h:Ws[v]? =some ws):wf Ws v=ws:=by unfold wf;rw[h];rfl
theorem a8(l:List Nat):((zs l).map D.int).length=l.length:=by simp[zs]
theorem cV(h:l[i]? =some a):((zs l).map D.int)[i]? =some (.int (a:Int)):=by unfold zs;rw[List.map_map,aq,h];rfl
theorem dJ(h:((zs l).map D.int)[i]? =some z):∃a,l[i]? =some a/\z=.int (a:Int):=by have hi:=(av h).1;rw[a8] at hi;have e:=ae hi;rw[cV e] at h;exact⟨_,e,(ag h).symm⟩
theorem md(nd:l.Nodup)(h:l[j]? =some b):b∉l.take j:=λz=>by
 obtain⟨I,U⟩:=av h;obtain⟨i,hi,B⟩:=List.getElem_of_mem z;rw[List.getElem_take] at B;rw[List.length_take] at hi;have h1:=nd.idxOf_getElem i (by omega)
 have J:=nd.idxOf_getElem j I;rw[B] at h1;rw[U] at J;omega
theorem cA(l m:List Nat):(zs (l++m)).map D.int=(zs l).map D.int++(zs m).map D.int:=by simp[zs]
section
variable{k r:Nat}{st:aW}{Q:D->aW->Prop}
theorem tR{G:List En}(hg:G.length<=9)(J:∀e∈G,∀a∈e.fol,a<10)(hf:d8 st r G)(h:∀m st1,Gr st st1->st.length<=m->bS st1 m (G.map wy)->Q (.ref m) st1):Wv (calls tab (k+3) sg [.ref r] st) Q:=by
 have Z:=hf;obtain⟨kd,kk,bs,h1,h3,h4⟩:=hf;have hbl:bs.length=G.length:=by rw[h4.1]
 walk_at "call0"
 refine bp (b5 (ce (ak (bz (aM rfl (xq h1 4 rfl (az (sQ ⟨_,dj (by rw[List.length_map];omega),?_⟩))))))))
 rw[Int.toNat_natCast,List.length_map,hbl];refine bN (L:=bO G.length) (by show(bO G.length).length<=1000000;rw[bP];omega) (ac _) (λi acc st1=>Gr st st1/\∃rs:List Nat,acc=rs.map .ref/\rs.length=i/\∀(j r:Nat)(ws:List Nat),rs[j]? =some r->(G.map wy)[j]? =some ws->st1[r]? =some (.lst ((zs ws).map .int))) ⟨.refl _,[],rfl,rfl,λj r ws a _=>by simp at a⟩ (λ_ _ _ _=>rfl) (λi x acc st1 hx hI=>?_) λacc st1 hI=>?_
 ·obtain⟨g,rs,rfl,hi,B⟩:=hI;obtain⟨I,rfl⟩:=p_ hx;have he:G[i]? =some G[i]:=ae I;refine d_ (bY (ak (aM rfl (ak (aM rfl (az (xS (Z.gr g) he (J _ (List.getElem_mem I)) λm st2 g2 hle hm=>?_)))))));refine⟨g.trans g2,rs++[m],by simp,by simp[hi],λj r ws U h6=>?_⟩
  by_cases hj:j<rs.length
  ·rw[ao hj] at U;exact g2.at (B j r ws U h6)
  ·have Y:j=i:=by have:=(av U).1;simp at this;omega
   subst Y;rw[aE (by omega),hi,Nat.sub_self] at U
   cases U;rw[aq,he] at h6;cases h6;exact hm
 ·obtain⟨g,rs,rfl,hi,B⟩:=hI;rw[bP] at hi;refine bn (h _ _ (g.more _) g.le ⟨rs,aI,by simp[hi],λj r ws a b=>aV (B j r ws a b)⟩)
end
theorem jB{k:Key}{v:D}(h:∀p∈kvs,p.1≠k):bM kvs k v=kvs++[(k,v)]:=by unfold bM;rw[if_neg];intro z;obtain⟨p,B,I⟩:=List.any_eq_true.mp z;exact h p B (of_decide_eq_true I)
section
variable{k r:Nat}{st:aW}
noncomputable def pD(p:List (Nat×Nat)):List D:=p.reverse.map λq=>.tup [.int (q.1:Int),.int (q.2:Int)]
theorem i_(v i:Nat)(r:List (Nat×Nat)):pD ((v,i)::r)=pD r++[.tup [.int (v:Int),.int (i:Int)]]:=by simp[pD]
theorem t9(p:Key×D)(r:List (Key×D))(k:Key)(v:D):bM (p::r) k v=if p.1=k then(p.1,v)::r.map (λkv=>if kv.1=k then(kv.1,v) else kv) else p::bM r k v:=by
 unfold bM;by_cases e:p.1=k
 ·simp[e]
 ·simp only[List.any_cons,e,decide_false,Bool.false_or,if_false,List.map_cons];split<;>rfl
theorem pS{k B:Key}{v:D}(h:¬k=B):∀kvs:List (Key×D),bB (kvs.map λkv=>if kv.1=k then(kv.1,v) else kv) B=bB kvs B
 |[]=>rfl
 |p::r=>by
  rw[List.map_cons];unfold bB;rw[pS h r];by_cases e:p.1=k
  ·rw[if_pos e,if_neg (λz=>h (e.symm.trans z)),if_neg (λz=>h (e.symm.trans z))]
  ·rw[if_neg e]
theorem i5{k B:Key}{v:D}:∀kvs:List (Key×D),bB (bM kvs k v) B=if k=B then some v else bB kvs B
 |[]=>rfl
 |p::r=>by
  rw[t9];by_cases e:p.1=k
  ·rw[if_pos e];unfold bB;by_cases e2:k=B
   ·rw[if_pos (show p.1=B from e.trans e2),if_pos e2]
   ·rw[if_neg (λz=>e2 (e.symm.trans z)),if_neg e2,pS e2,if_neg (λz=>e2 (e.symm.trans z))]
  ·rw[if_neg e];unfold bB;rw[i5 r];by_cases e2:k=B
   ·rw[if_neg (λz=>e (z.trans e2.symm)),if_pos e2,if_pos e2]
   ·rw[if_neg e2,if_neg e2]
theorem qd(kv:List (Key×D))(key:Key)(v:D):(bM kv key v).length<=kv.length+1:=by
 unfold bM;split
 ·rw[List.length_map];omega
 ·rw[ai];simp
def KL(kv:List (Key×D)):Prop:=(kv.map (·.1)).Nodup/\∀p∈kv,∃x:Nat,p.1=.inl (x:Int)
theorem KL.put(h:KL kv)(x:Nat)(v:D):KL (bM kv (.inl (x:Int)) v):=by
 unfold bM;split
 ·have e:∀p:Key×D,(if p.1=.inl (x:Int) then(p.1,v) else p).1=p.1:=λp=>by split<;>rfl
  refine⟨by rw[List.map_map];simpa[Function.comp_def,e] using h.1,λp B=>?_⟩
  obtain⟨q,I,rfl⟩:=List.mem_map.mp B;rw[e];exact h.2 q I
 ·rename_i J;refine⟨?_,λp B=>?_⟩
  ·rw[List.map_append,List.nodup_append];refine⟨h.1,by simp,λa b c d z=>J ?_⟩
   obtain⟨q,I,e⟩:=List.mem_map.mp b;rw[List.any_eq_true];exact⟨q,I,decide_eq_true (by rw[e,z];simpa using d)⟩
  ·rcases List.mem_append.mp B with B|B
   ·exact h.2 p B
   ·exact⟨x,by rw[List.mem_singleton.mp B]⟩
structure Gi(Ws:List (List Nat))(st0:aW)(dn:Nat)(pile:List (Nat×Nat))(O:List Nat)(kvs:List (Key×D))(st:aW):Prop where
 inv:Go.Inv (wf Ws) pile O
 bu:Bu dn st0 st
 o:st[st0.length]? =some (.lst ((zs O).map .int))
 p:st[st0.length+1]? =some (.lst (pD pile))
 d:st[dn]? =some (.dct kvs)
 ky:∀v:Nat,(bB kvs (.inl (v:Int))).isSome=decide (v∈Go.all pile O)
 kl:kvs.length=(Go.all pile O).length
 le:∀q∈pile,q.2<=(wf Ws q.1).length
 ln:(Go.all pile O).length+Go.left (wf Ws) Ws.length pile O<=60
end
theorem qT(h0:0<Ws.length)(B:∀v f,f∈wf Ws v->f<Ws.length)(h:Go.be (wf Ws) v):v<Ws.length:=by
 cases h with
 |zero=>exact h0
 |next c h=>exact B _ _ h
theorem Bf{f:Nat->Nat}(h:∀v,f v<=3):∀l:List Nat,(l.map f).sum<=3*l.length
 |[]=>ac _
 |x::l=>by rw[List.map_cons,List.sum_cons,List.length_cons];have:=Bf h l;have:=h x;omega
theorem xa(I:Ws.length<=9)(B:∀v,(wf Ws v).length<=2):Go.left (wf Ws) Ws.length [(0,0)] []<=40:=by
 unfold Go.left;have a:=Bf (f:=λv=>(wf Ws v).length+1) (λv=>by have:=B v;omega) ((List.range Ws.length).filter λv=>decide (v∉Go.all [(0,0)] []))
 have b:((List.range Ws.length).filter λv=>decide (v∉Go.all [(0,0)] [])).length<=Ws.length:=by have:=List.length_filter_le (λv=>decide (v∉Go.all [(0,0)] [])) (List.range Ws.length);rwa [List.length_range] at this
 have c:=B 0;simp only[List.map_cons,List.map_nil,List.sum_cons,List.sum_nil];omega
section
variable{k w dn:Nat}{st:aW}{Q:D->aW->Prop}
theorem tY(hW:bS st w Ws)(hn:0<Ws.length/\Ws.length<=9)(hw:∀v f,f∈wf Ws v->f<Ws.length)(h2:∀v,(wf Ws v).length<=2)(hd:st[dn]? =some (.dct []))
  (h:∀O m st1,Bu dn st st1->Go.Inv (wf Ws) [] O->O.length<=60->st.length<=m->st1[m]? =some (.lst ((zs O).map .int))->Q (.ref m) st1):Wv (calls tab (k+1) jR [.ref w,.int 0,.ref dn] st) Q:=by
 have hdl:dn<st.length:=(av hd).1
 walk_at "call0"
 refine aX (cv (az (fQ (bi (aM rfl (aM rfl (cM (aV hd) rfl (by decide) ?_)))))))
 refine aX (cv (ak (bD (ak (aM rfl (ak (bi (az (az ?_)))))))));have e1:((st++[O.lst []]).set dn (O.dct (bM [] (.inl 0) (.bl true)))).length=st.length+1:=by simp
 rw[e1];have b0:Bu dn st (((st++[O.lst []]).set dn (O.dct (bM [] (.inl 0) (.bl true))))++[O.lst [.tup [.int 0,.int 0]]]):=((Bu.gr (.one _ _)).set (.inl rfl)).trans (.gr (.one _ _))
 have g0:Gi Ws st dn [(0,0)] [] [(.inl 0,.bl true)] (((st++[O.lst []]).set dn (O.dct (bM [] (.inl 0) (.bl true))))++[O.lst [.tup [.int 0,.int 0]]]):=by
  refine⟨Go.iq,b0,aV (sn aI (by omega)),by rw[<-e1];exact aI,aV (bj (by simp;omega)),λv=>?_,rfl,λq B=>by rw[List.mem_singleton.mp B];exact Nat.zero_le _,?_⟩
  ·unfold bB;by_cases hv:v=0
   ·subst hv;rfl
   ·rw[if_neg (λz=>hv (by have:=Sum.inl.inj z;omega))]
    simp[bB,Go.all,hv]
  ·have:=xa hn.2 h2;simp only[Go.all,List.map_cons,List.map_nil,List.nil_append,List.length_cons,List.length_nil] at this ⊢;omega
 refine gc (λm loc st'=>∃pile O kvs a b c,loc=[some (.ref w),some (.int 0),some (.ref dn),some (.ref st.length),some (.ref (st.length+1)),a,b,c]/\Gi Ws st dn pile O kvs st'/\Go.left (wf Ws) Ws.length pile O<=m) 1000 (by decide) ⟨_,_,_,_,_,_,rfl,g0,by have:=g0.ln;omega⟩ λm loc st' hI=>?_
 obtain⟨pile,O,kvs,a,b,c,rfl,G,hm⟩:=hI;have o1:st.length≠dn:=by omega
 have o2:st.length+1≠dn:=by omega
 refine ba (ce (ak (aM rfl (az (cN G.p (bi (rc ⟨_,rfl,λz=>?_,λz=>?_⟩)))))))
 ·cases pile with
  |nil=>cases z
  |cons q r=>
   obtain⟨v,i⟩:=q;have dec:=Go.r_ (ways:=wf Ws) (n:=Ws.length) (v:=v) (i:=i) (r:=r) (O:=O) hw;have invS:=Go.uL G.inv;have Z:v<Ws.length:=qT hn.1 hw (G.inv.come v (by simp[Go.all]))
   have Y:Ws[v]? =some Ws[v]:=ae Z;have I:wf Ws v=Ws[v]:=gE Y;obtain⟨rs,w1,w2,w3⟩:=hW.bu hd G.bu;have hrv:v<rs.length:=by omega
   have hrs:rs[v]? =some rs[v]:=ae hrv;have w4:=w3 v _ _ hrs Y;refine⟨m - 1,by omega,?_⟩
   have J:=G.p;rw[i_] at J;have lp:st.length+1<st'.length:=(av J).1;have ld:dn<st'.length:=(av G.d).1;refine aX (ow (aM rfl ⟨_,_,_,rfl,J,?_⟩));refine aX (bx (aM rfl (bi (bJ rfl ?_))));have nw:∀{j:Nat}{xs:List D},st'[j]? =some (.lst xs)->j≠st.length+1->(st'.set (st.length+1) (.lst (pD r)))[j]? =some (.lst xs):=λe hne=>sn e (Ne.symm hne);have wlt:w<st.length:=by obtain⟨_,e,_⟩:=hW;exact(av e).1
   have rlt:rs[v]<st.length:=by
    obtain⟨rs',e,e2,e3⟩:=hW;have hb:=G.bu.at e (λz=>by rw[z,hd] at e;cases e)
    rw[hb] at w1
    have:rs'=rs:=by have:=ag w1;have:=Ev.O.lst.inj this;exact(List.map_inj_right (λx y z=>D.ref.inj z)).mp this
    subst this;exact(av (e3 v _ _ hrs Y)).1
   have U:lD (rs.map D.ref) (v:Int)=some (.ref rs[v]):=cB (by rw[aq,hrs];rfl)
   refine ck (ba (bx (aM rfl (bi (bJ rfl (ce (ak (bx (aM rfl (aM rfl (db (nw w1 (by omega)) U (az (cN (nw w4 (by omega)) (mX ⟨_,rfl,λz=>?_,λz=>?_⟩))))))))))))))
   ·have z:(i:Int)=(((zs Ws[v]).map D.int).length:Nat):=of_decide_eq_true z;rw[a8] at z;have hnone:(wf Ws v)[i]? =none:=by rw[I];exact aT (by omega)
    have es:Go.step (wf Ws) ((v,i)::r) O=(r,O++[v]):=by simp only[Go.step,hnone]
    rw[es] at dec invS;refine dW (aM rfl (b_ (nw G.o (by omega)) (aM rfl (bW (nw G.o (by omega)) ?_ (sW (ye (yf ⟨r,O++[v],kvs,_,_,_,rfl,?_,by dsimp only at dec;omega⟩)))))))
    ·rw[a8];have:=G.ln;simp only[Go.all,List.length_append] at this;omega
    ·have ea:Go.all r (O++[v])=Go.all ((v,i)::r) O:=Go.mO;refine⟨invS,(G.bu.set (.inr (by omega))).set (.inr (ac _)),?_,?_,?_,?_,?_,λq B=>G.le q (.tail _ B),?_⟩
     ·rw[bj (by rw[au];omega),cA];rfl
     ·exact sn (bj lp) (by omega)
     ·exact sn (sn G.d (by omega)) (by omega)
     ·rw[ea];exact G.ky
     ·rw[ea];exact G.kl
     ·rw[ea];have:=G.ln;dsimp only at dec;omega
   ·have z:¬(i:Int)=(((zs Ws[v]).map D.int).length:Nat):=of_decide_eq_false z;rw[a8] at z;have hle:=G.le (v,i) (.head _);rw[show wf Ws (v,i).1=Ws[v] from I] at hle;have hle:i<=Ws[v].length:=hle;have hil:i<Ws[v].length:=by omega
    have hf:Ws[v][i]? =some Ws[v][i]:=ae hil;obtain⟨f,hff⟩:∃f,f=Ws[v][i]:=⟨_,rfl⟩;rw[<-hff] at hf;have hfw:(wf Ws v)[i]? =some f:=by rw[I];exact hf
    have nl:(pD r).length+(O.length+1)<=1000:=by have:=G.ln;simp only[Go.all,List.length_append,List.length_map,List.length_cons] at this;simp only[pD,List.length_map,List.length_reverse];omega
    refine aK (a7 (dW (aM rfl (b_ (bj lp) (bD (ak (aM rfl (ak (bE (bx (aM rfl (bi (bJ rfl (bi (w_add (az (bW (bj lp) (by omega) ?_)))))))))))))))))
    rw[List.set_set,<-show pD ((v,i+1)::r)=pD r++[.tup [.int (v:Int),.int ((i:Int)+1)]] from i_ v (i+1) r];have nw2:∀{j:Nat}{xs ys:List D},st'[j]? =some (.lst xs)->j≠st.length+1->(st'.set (st.length+1) (.lst ys))[j]? =some (.lst xs):=λe hne=>sn e (Ne.symm hne);refine aX (bx (bx (aM rfl (aM rfl (db (nw2 w1 (by omega)) U (bx (aM rfl (bi (bJ rfl (db (nw2 w4 (by omega)) (cB (cV hf)) ?_))))))))))
    have dd:(st'.set (st.length+1) (.lst (pD ((v,i+1)::r))))[dn]? =some (.dct kvs):=sn G.d (by omega)
    have ky:=G.ky f;refine ck (ba (aM rfl (aM rfl (mW dd rfl ⟨_,rfl,λz=>?_,λz=>?_⟩))))
    ·have hnot:f∉Go.all ((v,i)::r) O:=by rw[ky] at z;simpa using z
     have Z:bB kvs (.inl (f:Int))=none:=by
      cases q:bB kvs (.inl (f:Int)) with
      |none=>rfl
      |some d=>rw[q] at z;cases z
     have es:Go.step (wf Ws) ((v,i)::r) O=((f,0)::(v,i+1)::r,O):=by simp only[Go.step,hfw];rw[if_neg hnot]
     rw[es] at dec invS;have eal:(Go.all ((f,0)::(v,i+1)::r) O).length=(Go.all ((v,i)::r) O).length+1:=by simp[Go.all];omega
     refine fQ (bi (aM rfl (aM rfl (cM dd rfl ?_ ?_))))
     ·have:=G.kl;have:=G.ln;omega
     have pp:((st'.set (st.length+1) (.lst (pD ((v,i+1)::r)))).set dn (.dct (bM kvs (.inl (f:Int)) (.bl true))))[st.length+1]? =some (.lst (pD ((v,i+1)::r))):=sn (bj lp) (by omega)
     refine dW (aM rfl (b_ pp (bD (ak (aM rfl (ak (bi (az (bW pp ?_ (aK (a7 (aK (bA ⟨(f,0)::(v,i+1)::r,O,bM kvs (.inl (f:Int)) (.bl true),_,_,_,rfl,?_,by dsimp only at dec;omega⟩)))))))))))))
     ·rw[i_,ai];simp only[List.length_cons,List.length_nil];omega
     refine⟨invS,((G.bu.set (.inr (by omega))).set (.inl rfl)).set (.inr (by omega)),?_,?_,?_,λx=>?_,?_,λq B=>?_,?_⟩
     ·exact sn (sn (sn G.o (by omega)) (by omega)) (by omega)
     ·rw[bj (by rw[au,au];exact lp),i_ f 0];rfl
     ·exact sn (bj (by rw[au];exact ld)) (by omega)
     ·rw[i5];by_cases hx:x=f
      ·subst hx;rw[if_pos rfl];simp[Go.all]
      ·rw[if_neg (λz=>hx (by have:=Sum.inl.inj z;omega)),G.ky x]
       congr 1;simp only[Go.all,List.map_cons,List.mem_append,List.mem_cons,eq_iff_iff];constructor
       ·rintro(h|h|h)
        ·exact .inl h
        ·exact .inr (.inr (.inl h))
        ·exact .inr (.inr (.inr h))
       ·rintro(h|h|h|h)
        ·exact .inl h
        ·exact absurd h hx
        ·exact .inr (.inl h)
        ·exact .inr (.inr h)
     ·rw[eal,jB]
      ·rw[ai,G.kl];rfl
      ·intro p J z
       have:∀{kv:List (Key×D)},p∈kv->bB kv (.inl (f:Int))≠none:=by
        intro kv
        induction kv with
        |nil=>intro h;cases h
        |cons q r ih=>
         intro J;unfold bB;by_cases e:q.1=.inl (f:Int)
         ·rw[if_pos e];simp
         ·rw[if_neg e];rcases List.mem_cons.mp J with rfl|J
          ·exact absurd z e
          ·exact ih J
       exact this J Z
     ·rcases List.mem_cons.mp B with rfl|B
      ·exact Nat.zero_le _
      ·rcases List.mem_cons.mp B with rfl|B
       ·show i+1<=(wf Ws v).length;rw[I];omega
       ·exact G.le q (.tail _ B)
     ·rw[eal];have:=G.ln;dsimp only at dec;omega
    ·have hyes:f∈Go.all ((v,i)::r) O:=by rw[ky] at z;simpa using z
     have es:Go.step (wf Ws) ((v,i)::r) O=((v,i+1)::r,O):=by simp only[Go.step,hfw];rw[if_pos hyes]
     rw[es] at dec invS;refine aK (a7 (aK (bA ⟨(v,i+1)::r,O,kvs,_,_,_,rfl,?_,by dsimp only at dec;omega⟩)))
     refine⟨invS,G.bu.set (.inr (by omega)),?_,bj lp,dd,G.ky,G.kl,λq B=>?_,?_⟩
     ·exact sn G.o (by omega)
     ·rcases List.mem_cons.mp B with rfl|B
      ·show i+1<=(wf Ws v).length;rw[I];omega
      ·exact G.le q (.tail _ B)
     ·have:=G.ln;have e2:(Go.all ((v,i+1)::r) O)=Go.all ((v,i)::r) O:=rfl;rw[e2];dsimp only at dec;omega
 ·cases pile with
  |cons q r=>exact absurd z (by simp[pD])
  |nil=>refine bp (aM rfl (bn (h O _ _ G.bu G.inv ?_ (ac _) G.o)));have:=G.ln;simp only[Go.all,List.length_append] at this;omega
end
open Classical in
noncomputable def al(P:Nat->Prop)(n:Nat):List Nat:=(List.range n).filter λv=>decide (P v)
theorem iH:v∈al P n↔v<n/\P v:=by unfold al;rw[List.mem_filter,List.mem_range];simp
theorem yp(P:Nat->Prop)(n:Nat):(al P n).Pairwise (· < ·):=List.Pairwise.filter _ List.pairwise_lt_range
theorem s_:∀{a b:List Int},a.Pairwise (· < ·)->b.Pairwise (· < ·)->(∀x,x∈a↔x∈b)->a=b
 |[],[],_,_,_=>rfl
 |[],y::b,_,_,h=>nomatch (h y).mpr (.head _)
 |x::a,[],_,_,h=>nomatch (h x).mp (.head _)
 |x::a,y::b,ha,hb,h=>by
  obtain⟨J,Y⟩:=List.pairwise_cons.mp ha;obtain⟨I,U⟩:=List.pairwise_cons.mp hb
  have e:x=y:=by
   rcases List.mem_cons.mp ((h x).mp (.head _)) with e|h1
   ·exact e
   ·rcases List.mem_cons.mp ((h y).mpr (.head _)) with e|h2
    ·exact e.symm
    ·have:=J y h2;have:=I x h1;omega
  subst e;rw[s_ Y U λz=>?_];constructor
  ·intro B;rcases List.mem_cons.mp ((h z).mp (.tail _ B)) with e|hz'
   ·have:=J z B;omega
   ·exact hz'
  ·intro B;rcases List.mem_cons.mp ((h z).mpr (.tail _ B)) with e|hz'
   ·have:=I z B;omega
   ·exact hz'
theorem AX{a:List Int}(h:a.Pairwise (· <= ·))(nd:a.Nodup):a.Pairwise (· < ·):=by
 have:=List.Pairwise.and h nd;exact this.imp λ{x y} ⟨h1,h2⟩=>by omega
theorem jh{x:Int}:x∈zs l↔∃v∈l,(v:Int)=x:=by unfold zs;rw[List.mem_map]
theorem AQ(h:l.Pairwise (· < ·)):(zs l).Pairwise (· < ·):=List.Pairwise.map _ (λa b h=>Int.ofNat_lt.mpr h) h
theorem AR(h:l.Nodup):(zs l).Nodup:=List.Pairwise.map _ (λa b h z=>h (Int.ofNat_inj.mp z)) h
theorem oH(nd:F.Nodup)(I:∀v,v∈F↔P v)(J:∀v,P v->v<n):Tab23.cJ (zs F)=zs (al P n):=by
 refine s_ (AX (Tab23.lS _) ((Tab23.cm _).nodup_iff.mpr (AR nd))) (AQ (yp P n)) λx=>?_;rw[(Tab23.cm _).mem_iff,jh,jh];constructor
 ·rintro⟨v,B,e⟩;exact⟨v,iH.mpr ⟨J v ((I v).mp B),(I v).mp B⟩,e⟩
 ·rintro⟨v,B,e⟩;exact⟨v,(I v).mpr (iH.mp B).2,e⟩
theorem gu{st:aW}{v:Nat}:∀F:List Nat,eY st (.int (v:Int)) ((zs F).map .int)=some (decide (v∈F))
 |[]=>rfl
 |x::F=>by
  show(match cj 60 st (.int (x:Int)) (.int (v:Int)),eY st (.int (v:Int)) ((zs F).map .int) with|some a,some b=>some (a||b)|_,_=>none)=_
  have e:cj 60 st (.int (x:Int)) (.int (v:Int))=some (decide ((x:Int)=v)):=by simp[cj,shape,kz];rfl
  rw[e,gu F];dsimp only;congr 1;by_cases h:v=x
  ·subst h;simp
  ·have h':¬((x:Int)=v):=by omega
   simp[h,h']
theorem oe{Q:Nat->Prop}(h:∀x,P x↔Q x):al P n=al Q n:=by have:P=Q:=funext λx=>propext (h x);rw[this]
theorem gv(P:Nat->Prop)(n:Nat):(al P n).length<=n:=by have:=List.length_filter_le (λv=> @decide (P v) (Classical.propDecidable _)) (List.range n);rw[List.length_range] at this;exact this
theorem Co(P:Nat->Prop)(n:Nat):(al P n).Nodup:=(yp P n).imp λh z=>by omega
theorem sG{P R:Nat->Prop}{n:Nat}[DecidablePred R]:(al P n).filter (λc=>decide (R c))=al (λc=>P c/\R c) n:=by unfold al;rw[List.filter_filter];refine List.filter_congr λx _=>?_;by_cases h1:P x<;>by_cases h2:R x<;>simp[h1,h2]
theorem dZ:∀(xs:List D)(k:Nat),(gW k xs).length=xs.length
 |[],_=>rfl
 |x::xs,k=>by rw[gW,List.length_cons,dZ xs,List.length_cons]
structure Ls(s0 st:aW)(b:Nat)(rs:List Nat)(Bs:List (List Nat)):Prop where
 hd:st[b]? =some (.lst (rs.map .ref))
 ln:rs.length=Bs.length
 nd:rs.Nodup
 ab:∀r∈rs,s0.length<=r/\r<b
 at_:∀(j r:Nat)(ws:List Nat),rs[j]? =some r->Bs[j]? =some ws->st[r]? =some (.lst ((zs ws).map .int))
theorem Ls.ways(h:Ls s0 st b rs Bs):bS st b Bs:=⟨rs,h.hd,h.ln,h.at_⟩
theorem Ls.put{r:Nat}(h:Ls s0 st b rs Bs)(B:rs[v]? =some r):Ls s0 (st.set r (.lst ((zs ws).map .int))) b rs (Bs.set v ws):=by
 have J:=aj B;have Z:=h.ab r J;have U:=(av B).1;have lb:b<st.length:=(av h.hd).1;refine⟨sn h.hd (by omega),by rw[au];exact h.ln,h.nd,h.ab,λj Y I a c=>?_⟩
 by_cases hj:j=v
 ·subst hj;rw[B] at a;cases a;rw[aL (by rw[<-h.ln];exact U)] at c
  cases c;exact bj (by omega)
 ·rw[aF (λz=>hj z.symm)] at c;refine sn (h.at_ j Y I a c) λz=>hj ?_;subst z;exact((List.getElem?_inj U h.nd).mp (B.trans a.symm)).symm
section
variable{k n w:Nat}{st:aW}{Q:D->aW->Prop}
theorem rH{c:Ex}(hn:n<=9)(h:∀rs st1,Gr st st1->Ls st st1 (st1.length - 1) rs (List.replicate n [])->0<st1.length->st.length<=st1.length - 1->Q (.ref (st1.length - 1)) st1):W (cX (fi (run g c) (run g (.lst [])) false false loc) (.its (bO n)) st) Q:=by
 refine bN (L:=bO n) (by show(bO n).length<=1000000;rw[bP];omega) (ac _) (λi acc st1=>Gr st st1/\∃rs:List Nat,acc=rs.map .ref/\rs.length=i/\rs.Nodup/\(∀r∈rs,st.length<=r/\r<st1.length)/\∀r∈rs,st1[r]? =some (.lst [])) ⟨.refl _,[],rfl,rfl,.nil,(λr B=>nomatch B),λr B=>nomatch B⟩ (λ_ _ _ _=>rfl) (λi x acc st1 hx I=>?_) λacc st1 I=>?_
 ·obtain⟨g,rs,rfl,hi,nd,h1,J⟩:=I;have gl:=g.le;refine d_ (cv (az ⟨g.more _,rs++[st1.length],by simp,by simp[hi],?_,λr B=>?_,λr B=>?_⟩))
  ·rw[List.nodup_append];refine⟨nd,by simp,λa Z b Y=>?_⟩
   rw[List.mem_singleton.mp Y];have:=h1 a Z;omega
  ·rw[ai];rcases List.mem_append.mp B with B|B
   ·have:=h1 r B;simp only[List.length_cons,List.length_nil];omega
   ·rw[List.mem_singleton.mp B];simp only[List.length_cons,List.length_nil];omega
  ·rcases List.mem_append.mp B with B|B
   ·exact aV (J r B)
   ·rw[List.mem_singleton.mp B];exact aI
 ·obtain⟨g,rs,rfl,hi,nd,h1,J⟩:=I;rw[bP] at hi;have U:(st1++[O.lst (rs.map .ref)]).length - 1=st1.length:=by simp
  have:=h rs _ (g.more _) (by rw[U];exact⟨aI,by simp[hi],nd,h1,λj r ws a c=>by
   rw[List.getElem?_replicate] at c;split at c
   ·cases c;exact aV (J r (aj a))
   ·cases c⟩) (by simp) (by rw[U];exact g.le)
  rw[U] at this;exact this
def vI(Ws:List (List Nat))(i j v u:Nat):Prop:=(u<i/\v∈wf Ws u)∨(u=i/\v∈(wf Ws i).take j)
structure Ti(Ws:List (List Nat))(i j m:Nat)(Bs:List (List Nat)):Prop where
 ln:Bs.length=Ws.length
 le:∀ws∈Bs,ws.length<=m
 mem:∀v u:Nat,u∈wf Bs v↔vI Ws i j v u
theorem Ti.start(Ws:List (List Nat)):Ti Ws 0 0 0 (List.replicate Ws.length []):=by
 refine⟨by simp,λws h=>?_,λv u=>?_⟩
 ·rw[List.eq_of_mem_replicate h];exact ac _
 ·have:wf (List.replicate Ws.length []) v=[]:=by unfold wf;rw[List.getElem?_replicate];split<;>rfl
  rw[this];constructor
  ·intro h;cases h
  ·rintro(⟨h,_⟩|⟨_,h⟩)
   ·omega
   ·simp at h
theorem Ti.add(h:Ti Ws i j m Bs)(Y:(wf Ws i)[j]? =some f)(U:f<Ws.length):Ti Ws i (j+1) (m+1) (Bs.set f (wf Bs f++[i])):=by
 have B:f<Bs.length:=by rw[h.ln];exact U
 have e:Bs[f]? =some Bs[f]:=ae B;have Z:wf Bs f=Bs[f]:=gE e;refine⟨by rw[au];exact h.ln,λws I=>?_,λv u=>?_⟩
 ·rcases List.mem_or_eq_of_mem_set I with I|rfl
  ·have:=h.le ws I;omega
  ·rw[ai,Z];have:=h.le _ (List.getElem_mem B);simp only[List.length_cons,List.length_nil];omega
 ·have tk:(wf Ws i).take (j+1)=(wf Ws i).take j++[f]:=by rw[List.take_add_one,Y];rfl
  have J:=h.mem v u;by_cases hv:v=f
  ·subst hv
   have:wf (Bs.set v (wf Bs v++[i])) v=wf Bs v++[i]:=by
    conv=>lhs;unfold wf
    rw[aL B];rfl
   rw[this,List.mem_append,J];unfold vI;rw[tk];simp only[List.mem_append,List.mem_singleton];constructor
   ·rintro((⟨a,b⟩|⟨a,b⟩)|a)
    ·exact .inl ⟨a,b⟩
    ·exact .inr ⟨a,.inl b⟩
    ·exact .inr ⟨a,.inr trivial⟩
   ·rintro(⟨a,b⟩|⟨a,b|b⟩)
    ·exact .inl (.inl ⟨a,b⟩)
    ·exact .inl (.inr ⟨a,b⟩)
    ·exact .inr a
  ·have:wf (Bs.set f (wf Bs f++[i])) v=wf Bs v:=by
    conv=>lhs;unfold wf
    rw[aF (λz=>hv z.symm)];rfl
   rw[this,J];unfold vI;rw[tk];simp only[List.mem_append,List.mem_singleton];constructor
   ·rintro(⟨a,b⟩|⟨a,b⟩)
    ·exact .inl ⟨a,b⟩
    ·exact .inr ⟨a,.inl b⟩
   ·rintro(⟨a,b⟩|⟨a,b|b⟩)
    ·exact .inl ⟨a,b⟩
    ·exact .inr ⟨a,b⟩
    ·exact absurd b hv
theorem Ti.next(h:Ti Ws i (wf Ws i).length m Bs):Ti Ws (i+1) 0 m Bs:=by
 refine⟨h.ln,h.le,λv u=>(h.mem v u).trans ?_⟩;unfold vI;rw[List.take_length];simp only[List.take_zero,List.not_mem_nil,and_false,or_false];constructor
 ·rintro(⟨a,b⟩|⟨a,b⟩)
  ·exact⟨by omega,b⟩
  ·exact⟨by omega,a▸b⟩
 ·rintro⟨a,b⟩;by_cases e:u=i
  ·exact .inr ⟨e,e▸b⟩
  ·exact .inl ⟨by omega,b⟩
theorem tU(hW:bS st w Ws)(hn:Ws.length<=9)(hw:∀v f,f∈wf Ws v->f<Ws.length)(h2:∀v,(wf Ws v).length<=2)
  (h:∀Bs m st1,Gr st st1->st.length<=m->bS st1 m Bs->Bs.length=Ws.length->(∀ws∈Bs,ws.length<=30)->(∀v u:Nat,u∈wf Bs v↔v∈wf Ws u)->Q (.ref m) st1):Wv (calls tab (k+1) uQ [.ref w] st) Q:=by
 obtain⟨ws0,hw0,Y,hwr⟩:=id hW
 walk_at "call0"
 refine aX (b5 (ce (ak (aM rfl (az (cN hw0 ⟨_,dj (by rw[List.length_map];omega),?_⟩))))))
 rw[Int.toNat_natCast,List.length_map,Y];refine rH hn λrs st1 g1 B hpos hle=>?_;obtain⟨b,hb⟩:∃b,b=st1.length - 1:=⟨_,rfl⟩;rw[<-hb] at B hle ⊢;refine vV (aM rfl ⟨_,rfl,?_⟩);have hL:bF (.en w) st1=(ws0.map D.ref).length:=by simp only[bF,g1.at hw0]
 refine cw (L:=gW 0 (ws0.map .ref)) (by rw[hL,dZ];exact ac _) (λi loc st'=>(∃x y z,loc=[some (.ref w),some (.ref b),x,y,z])/\Gr st st'/\∃Bs,Ls st st' b rs Bs/\Ti Ws i 0 (2*i) Bs) ⟨⟨_,_,_,rfl⟩,g1,_,B,Ti.start Ws⟩ (λi loc st' J=>?_) (λi z loc st' I J=>?_) λloc st' J=>?_
 ·obtain⟨_,g,_⟩:=J;simp only[c9,g.at hw0,d0,Nat.zero_add]
 ·obtain⟨⟨x,y,z',rfl⟩,g,Bs,B,T⟩:=J;rw[d0,aq] at I;cases hwi:ws0[i]? with
  |none=>rw[hwi] at I;cases I
  |some r=>
   rw[hwi] at I;have I:D.tup [.int ((0+i:Nat):Int),.ref r]=z:=ag I;rw[Nat.zero_add] at I;subst I;have hi:i<Ws.length:=by rw[<-Y];exact(av hwi).1
   have hWi:Ws[i]? =some Ws[i]:=ae hi;have Z:wf Ws i=Ws[i]:=gE hWi;have hr:=hwr i r _ hwi hWi;refine i4 rfl (dg (aM rfl ⟨_,rfl,?_⟩));have hL2:bF (.at r) st'=((zs Ws[i]).map D.int).length:=by simp only[bF,g.at hr]
   refine cw (L:=(zs Ws[i]).map .int) (by rw[hL2];exact ac _) (λj loc st'=>(∃z,loc=[some (.ref w),some (.ref b),some (.int (i:Int)),some (.ref r),z])/\Gr st st'/\∃Bs,Ls st st' b rs Bs/\Ti Ws i j (2*i+j) Bs) ⟨⟨_,rfl⟩,g,Bs,B,T⟩ (λj loc st' J=>?_) (λj z loc st' I J=>?_) λloc st' J=>?_
   ·obtain⟨_,g,_⟩:=J;simp only[c9,g.at hr]
   ·obtain⟨⟨z2,rfl⟩,g,Bs,B,T⟩:=J
    have hj:j<Ws[i].length:=by have:=(av I).1;rwa [a8] at this
    have hf:Ws[i][j]? =some Ws[i][j]:=ae hj;rw[cV hf] at I;cases I;have hfw:(wf Ws i)[j]? =some Ws[i][j]:=by rw[Z];exact hf
    have hfl:=hw i _ (aj hfw);have hrf:Ws[i][j]<rs.length:=by rw[B.ln,T.ln];exact hfl
    have U:rs[Ws[i][j]]? =some rs[Ws[i][j]]:=ae hrf
    have hBf:Bs[Ws[i][j]]? =some (wf Bs Ws[i][j]):=by
     obtain⟨ws,e⟩:∃ws,Bs[Ws[i][j]]? =some ws:=⟨_,ae (by rw[T.ln];exact hfl)⟩
     rw[gE e];exact e
    have hat:=B.at_ _ _ _ U hBf;have hle2:=T.le _ (aj hBf);have h2i:=h2 i;rw[Z] at h2i;refine dW (bx (aM rfl (aM rfl (db B.hd (cB (by rw[aq,U];rfl)) (b_ hat (aM rfl (bW hat (by rw[a8];omega) ?_)))))))
    refine aK (bA ⟨⟨_,rfl⟩,g.set (B.ab _ (aj U)).1,_,?_,T.add hfw hfl⟩);rw[<-show(zs (wf Bs Ws[i][j]++[i])).map D.int=(zs (wf Bs Ws[i][j])).map D.int++[.int (i:Int)] from cA _ _];exact B.put U
   ·obtain⟨⟨z2,rfl⟩,g,Bs,B,T⟩:=J;rw[a8,<-Z] at T;have h2i:=h2 i;refine a7 (aK (bA ⟨⟨_,_,_,rfl⟩,g,Bs,B,?_⟩));have:=T.next
    exact⟨this.ln,λws hw'=>by have:=this.le ws hw';omega,this.mem⟩
 ·obtain⟨⟨x,y,z',rfl⟩,g,Bs,B,T⟩:=J;rw[dZ,List.length_map,Y] at T;refine a7 (bp (aM rfl (bn (h Bs _ _ g hle B.ways T.ln (λws hw'=>by have:=T.le ws hw';omega) λv u=>(T.mem v u).trans ?_))))
  unfold vI;simp only[List.take_zero,List.not_mem_nil,and_false,or_false];constructor
  ·exact λa=>a.2
  ·intro a;refine⟨?_,a⟩;unfold wf at a;cases q:Ws[u]? with
   |none=>rw[q] at a;cases a
   |some _=>exact(av q).1
end
section
variable{Ws:List (List Nat)}{O:List Nat}
abbrev Ed(Ws:List (List Nat))(x y:Nat):Prop:=y∈wf Ws x
theorem vq:Dom.be (Ed Ws) x↔Go.be (wf Ws) x:=by
 constructor
 ·rintro⟨l,w⟩
  induction w with
  |nil=>exact .zero
  |cons w e ih=>exact .next ih e
 ·intro c
  induction c with
  |zero=>exact⟨_,.nil⟩
  |next c h ih=>obtain⟨l,w⟩:=ih;exact⟨_,.cons w h⟩
theorem cT(I:Go.Inv (wf Ws) [] O):Dom.be (Ed Ws) x↔x∈O:=vq.trans (Go.qB I).symm
theorem sI(I:Go.Inv (wf Ws) [] O):O.Nodup:=by have:=I.nd;simpa[Go.all] using this
theorem vH(I:Go.Inv (wf Ws) [] O):∃l,O=l++[0]:=by have:=I.zero;simpa[Go.all] using this
noncomputable abbrev rk(O:List Nat)(x:Nat):Nat:=O.idxOf x
theorem vG(I:Go.Inv (wf Ws) [] O):Dom.Rk (Ed Ws) (rk O):=
 ⟨λx y B J e=>Go.qE ((cT I).mp B) ((cT I).mp J) e,λx B=>Go.rT I ((cT I).mp B)⟩
def pre(O:List Nat)(Ls:List (List Nat))(b:Nat):List Nat:=(wf Ls (O.idxOf b)).map λx=>O.getD x 0
def dh(O:List Nat)(Ls:List (List Nat))(N:Nat->Option Nat)(b:Nat):Nat:=match(pre O Ls b).filter λp=>(N p).isSome with
 |[]=>0
 |p::ps=>(Dom.meet (rk O) N 1000 p (p::ps)).getD 0
structure LsOk(Ws:List (List Nat))(O:List Nat)(Ls:List (List Nat)):Prop where
 ln:Ls.length=O.length
 sz:∀ws∈Ls,ws.length<=60
 mem:∀j b:Nat,O[j]? =some b->∀x,x∈wf Ls j↔∃p∈O,b∈wf Ws p/\O.idxOf p=x
theorem jX(h:p∈O):O.getD (O.idxOf p) 0=p:=by have B:O.idxOf p<O.length:=List.idxOf_lt_length_iff.mpr h;rw[List.getD_eq_getElem?_getD,ae B];simp
theorem pH(h:b∈O):O[O.idxOf b]? =some b:=by have B:O.idxOf b<O.length:=List.idxOf_lt_length_iff.mpr h;rw[ae B];simp
theorem z9(nd:O.Nodup)(h:O[j]? =some b):O.idxOf b=j:=by obtain⟨B,rfl⟩:=av h;exact nd.idxOf_getElem j B
theorem qf{Ls:List (List Nat)}(L:LsOk Ws O Ls)(J:b∈O):p∈pre O Ls b↔b∈wf Ws p/\p∈O:=by
 unfold pre;rw[List.mem_map];constructor
 ·rintro⟨x,U,rfl⟩;obtain⟨q,B,e,rfl⟩:=(L.mem _ b (pH J) x).mp U;rw[jX B];exact⟨e,B⟩
 ·rintro⟨e,I⟩;exact⟨O.idxOf p,(L.mem _ b (pH J) _).mpr ⟨p,I,e,rfl⟩,jX I⟩
theorem mZ(I:Go.Inv (wf Ws) [] O){Ls:List (List Nat)}(hO:O.length<=100)(K:Dom.Ok (Ed Ws) (rk O) N)(h:∃f∈pre O Ls b,∃y,N f=some y):
  ∃p ps q,(pre O Ls b).filter (λp=>(N p).isSome)=p::ps/\Dom.meet (rk O) N 1000 p (p::ps)=some q/\dh O Ls N b=q/\(∃y,N q=some y)/\∀c,Dom.Chain N q c↔∀p∈pre O Ls b,(∃y,N p=some y)->Dom.Chain N p c:=by
 have R:=vG I;have U:∀{x:Nat},(N x).isSome=true↔∃y,N x=some y:=λ{x}=>by rw[Option.isSome_iff_exists]
 obtain⟨f,hf,y,Y⟩:=h;cases q:(pre O Ls b).filter λp=>(N p).isSome with
 |nil=>have:f∈(pre O Ls b).filter λp=>(N p).isSome:=List.mem_filter.mpr ⟨hf,U.mpr ⟨y,Y⟩⟩;rw[q] at this;cases this
 |cons p ps=>
  have B:∀x,x∈p::ps↔x∈pre O Ls b/\∃y,N x=some y:=λx=>by rw[<-q,List.mem_filter];exact⟨λz=>⟨z.1,U.mp z.2⟩,λz=>⟨z.1,U.mpr z.2⟩⟩
  have h0:rk O 0<=100:=by have:O.idxOf 0<=O.length:=List.idxOf_le_length;show O.idxOf 0<=100;omega
  obtain⟨r,Z,e2,e3⟩:=Dom.qw R K (k:=1000) (by omega) (p::ps) p ((B p).mp (.head _)).2 λx J=>((B x).mp J).2
  refine⟨p,ps,r,rfl,Z,by unfold dh;rw[q];dsimp only;rw[Z];rfl,e2,λc=>?_⟩
  rw[e3];exact⟨λz x J Y=>z.2 x ((B x).mpr ⟨J,Y⟩),λz=>⟨z p ((B p).mp (.head _)).1 ((B p).mp (.head _)).2,λx J=>z x ((B x).mp J).1 ((B x).mp J).2⟩⟩
theorem sZ(I:Go.Inv (wf Ws) [] O){Ls:List (List Nat)}(L:LsOk Ws O Ls)(Z:O.length<=100):Dom.Upd (Ed Ws) (rk O) (λb=>if b∈O then pre O Ls b else(al (λp=>b∈wf Ws p/\p∈O) (O.foldl max 0+1))) (dh O Ls):=by
 have J:∀(l:List Nat)(a x:Nat),x∈l∨x<=a->x<=l.foldl max a:=by
  intro l
  induction l with
  |nil=>intro a x h;exact h.elim (λz=>nomatch z) id
  |cons y l ih=>
   intro a x h;refine ih _ x ?_;rcases h with h|h
   ·rcases List.mem_cons.mp h with rfl|h
    ·exact .inr (Nat.le_max_right ..)
    ·exact .inl h
   ·exact .inr (aB h (Nat.le_max_left ..))
 refine⟨λb p=>?_,λb B Y=>?_,λN b K B Y h=>?_⟩
 ·by_cases B:b∈O
  ·rw[if_pos B,qf L B,cT I]
  ·rw[if_neg B,iH,cT I];refine⟨λz=>z.2,λz=>⟨Nat.lt_succ_of_le (J O 0 p (.inl z.2)),z⟩⟩
 ·obtain⟨f,h1,h2,h3⟩:=Go.rV I ((cT I).mp Y) B;exact⟨f,h1,(cT I).mpr h2,h3⟩
 ·have U:=(cT I).mp Y;rw[if_pos U] at h ⊢;obtain⟨p,ps,q,e1,e2,e3,e4,e5⟩:=mZ I Z K h;rw[e3];exact⟨e4,e5⟩
end
def ND(kv:List (Key×D))(N:Nat->Option Nat):Prop:=(∀x:Nat,bB kv (.inl (x:Int))=(N x).map λ(y:Nat)=>D.int (y:Int))/\KL kv
theorem ND.at(h:ND kv N)(e:N x=some y):bB kv (.inl (x:Int))=some (.int (y:Int)):=by rw[h.1 x,e];rfl
section
variable{k:Nat}{st:aW}{Q:D->aW->Prop}{Ws:List (List Nat)}{O:List Nat}
theorem tZ{c q:Nat}{ps:List Nat}{kn kr:List (Key×D)}(K:Dom.Ok (Ed Ws) (rk O) N)(hd:∀x y,N x=some y->x∈O)(ha:st[a]? =some (.lst ((zs (p::ps)).map .int)))(hb:st[b]? =some (.dct kn))(hc:st[c]? =some (.dct kr))(hN:ND kn N)(hR:ND kr λx=>if x∈O then some (rk O x) else none)
  (hp:∀x∈p::ps,∃y,N x=some y)(Y:Dom.meet (rk O) N 1000 p (p::ps)=some q)(h:Q (.int (q:Int)) st):Wv (calls tab (k+1) jS [.ref a,.ref b,.ref c] st) Q:=by
 walk_at "call0"
 have hR':∀x y,N x=some y->bB kr (.inl (x:Int))=some (.int ((rk O x:Nat):Int)):=λx y e=>hR.at (y:=rk O x) (by rw[if_pos (hd x y e)])
 refine aX (bx (aM rfl (bi (db ha (cB (i:=0) (cV (a:=p) rfl)) (dg (aM rfl ⟨_,rfl,?_⟩))))));have hL:bF (.at a) st=((zs (p::ps)).map D.int).length:=by simp only[bF,ha]
 refine cw (L:=(zs (p::ps)).map .int) (by rw[hL];exact ac _) (λi loc st'=>st'=st/\∃J x y,loc=[some (.ref a),some (.ref b),some (.ref c),some (.int ((J:Nat):Int)),x,y]/\Dom.meet (rk O) N 1000 J ((p::ps).drop i)=some q/\∃z,N J=some z) ⟨rfl,p,_,_,rfl,Y,hp p (.head _)⟩ (λi loc st' hI=>by obtain⟨rfl,_⟩:=hI;simp only[c9,ha]) (λi z loc st' hz hI=>?_) λloc st' hI=>?_
 ·obtain⟨rfl,J,x,y,rfl,Y,z0,Z⟩:=hI
  have hi:i<(p::ps).length:=by have:=(av hz).1;rwa [a8] at this
  have hn:(p::ps)[i]? =some (p::ps)[i]:=ae hi;rw[cV hn] at hz;cases hz;rw[List.drop_eq_getElem_cons hi] at Y;obtain⟨nn,hnn⟩:∃nn,nn=(p::ps)[i]:=⟨_,rfl⟩;rw[<-hnn] at Y ⊢;obtain⟨y0,hy0⟩:=hp nn (by rw[hnn];exact List.getElem_mem hi)
  have Y:(Dom.f9 (rk O) N 1000 nn J).bind (λr'=>Dom.meet (rk O) N 1000 r' ((p::ps).drop (i+1)))=some q:=Y;obtain⟨r,hc1,Y⟩:=bs Y;refine aX (aM rfl ?_);refine gc (λm loc s=>s=st'/\∃u w,loc=[some (.ref a),some (.ref b),some (.ref c),some (.int ((w:Nat):Int)),some (.int (nn:Int)),some (.int ((u:Nat):Int))]/\Dom.f9 (rk O) N m u w=some r/\(∃y,N u=some y)/\∃y,N w=some y) 1000 (by decide) ⟨rfl,nn,J,rfl,hc1,⟨y0,hy0⟩,⟨z0,Z⟩⟩ λm loc s hI=>?_
  obtain⟨rfl,u,w,rfl,B,⟨yu,I⟩,⟨yw,U⟩⟩:=hI;refine ba (aM rfl (aM rfl (sP ⟨_,rfl,λz=>?_,λz=>?_⟩)))
  ·have hne:¬u=w:=λe=>by subst e;simp at z
   cases m with
   |zero=>cases B
   |succ m=>
    refine⟨m,rfl,?_⟩;unfold Dom.f9 at B;rw[if_neg hne] at B;refine ck (ba (bx (aM rfl (aM rfl (dL hc (hR' u yu I) (bx (aM rfl (aM rfl (dL hc (hR' w yw U) (w_lt ⟨_,rfl,λz=>?_,λz=>?_⟩))))))))))
    ·have z:((rk O u:Nat):Int)<(rk O w:Nat):=of_decide_eq_true z;have z:rk O u<rk O w:=by omega
     rw[if_pos z,I] at B;have hu0:u≠0∨u=0:=by omega
     refine aX (bx (aM rfl (aM rfl (dL hb (hN.at I) (aK (a7 (aK (bA ⟨rfl,yu,w,rfl,B,?_,⟨yw,U⟩⟩))))))));rcases hu0 with hu0|rfl
     ·exact(K.up u yu hu0 I).2
     ·rw[K.zero] at I;cases I;exact⟨0,K.zero⟩
    ·have z:¬((rk O u:Nat):Int)<(rk O w:Nat):=of_decide_eq_false z;have z:¬rk O u<rk O w:=by omega
     rw[if_neg z,U] at B;have hw0:w≠0∨w=0:=by omega
     refine aX (bx (aM rfl (aM rfl (dL hb (hN.at U) (aK (a7 (aK (bA ⟨rfl,u,yw,rfl,B,⟨yu,I⟩,?_⟩))))))));rcases hw0 with hw0|rfl
     ·exact(K.up w yw hw0 U).2
     ·rw[K.zero] at U;cases U;exact⟨0,K.zero⟩
  ·have he:u=w:=by
    have:(u:Int)=w:=by simpa using z
    omega
   subst he
   have hr:r=u:=by
    cases m with
    |zero=>cases B
    |succ m=>unfold Dom.f9 at B;rw[if_pos rfl] at B;exact(ag B).symm
   subst hr;exact aK (bA ⟨rfl,r,_,_,rfl,Y,⟨yu,I⟩⟩)
 ·obtain⟨rfl,J,x,y,rfl,Y,z0,Z⟩:=hI;rw[a8,List.drop_length] at Y;have:J=q:=ag Y;subst this;exact a7 (bp (aM rfl (bn h)))
end
theorem qF{a b:aW}(h:a.length<=b.length)(k:∀i,i<a.length->b[i]? =a[i]?):Gr a b:=by
 refine⟨b.drop a.length,List.ext_getElem? λi=>?_⟩;by_cases hi:i<a.length
 ·rw[ao hi,k i hi]
 ·rw[aE (by omega),List.getElem?_drop]
  congr 1;omega
theorem Bu.gr2{a b:aW}(h:Bu n a b)(g:Gr s a)(B:s.length<=n):Gr s b:=
 qF (aB g.le h.le) λi hi=>by
  rw[h.same i (aA hi g.le) (by omega)]
  obtain⟨t,rfl⟩:=g;rw[ao hi]
def ze(o:Nat)(O:List Nat):List (Key×D):=(O.zipIdx o).map λp=>(.inl (p.1:Int),.int (p.2:Int))
def qa(O:List Nat):List (Key×D):=ze 0 O
theorem jA(o x:Nat)(O:List Nat):ze o (x::O)=(.inl (x:Int),.int (o:Int))::ze (o+1) O:=rfl
theorem t6:∀(o:Nat)(O:List Nat),rN ((O.zipIdx o).map λp=>D.tup [.int (p.1:Int),.int (p.2:Int)])=some (ze o O)
 |_,[]=>rfl
 |o,x::O=>by rw[jA,List.zipIdx_cons,List.map_cons];unfold rN;rw[t6 (o+1) O];rfl
theorem i7:∀(o:Nat)(O:List Nat),(ze o O).map (·.1)=O.map λ(x:Nat)=>(Sum.inl (x:Int):Key)
 |_,[]=>rfl
 |o,x::O=>by rw[jA,List.map_cons,i7 (o+1) O,List.map_cons]
theorem qK:∀(ps acc:List (Key×D)),((acc++ps).map (·.1)).Nodup->ps.foldl (λacc p=>bM acc p.1 p.2) acc=acc++ps
 |[],acc,_=>by rw[List.append_nil];rfl
 |p::ps,acc,h=>by
  rw[List.foldl_cons,jB]
  ·have:=qK ps (acc++[(p.1,p.2)]) (by rw[List.append_assoc];exact h)
   rw[this,List.append_assoc];rfl
  ·intro q B z;rw[List.map_append,List.nodup_append] at h;exact h.2.2 q.1 (List.mem_map_of_mem B) p.1 (by simp) z
theorem wA{O:List Nat}(nd:O.Nodup):qL (qa O)=qa O:=by
 have:=qK (qa O) [] (by rw[List.nil_append];unfold qa;rw[i7];exact List.Pairwise.map _ (λa b h z=>h (Int.ofNat_inj.mp (Sum.inl.inj z))) nd)
 exact this
theorem t5:∀(o:Nat)(O:List Nat) (x:Nat),bB (ze o O) (.inl (x:Int))=if x∈O then some (.int ((o+O.idxOf x:Nat):Int)) else none
 |_,[],_=>rfl
 |o,y::O,x=>by
  rw[jA];unfold bB;by_cases h:y=x
  ·subst h;rw[if_pos rfl,if_pos (.head _)];simp
  ·rw[if_neg (λz=>h (Int.ofNat_inj.mp (Sum.inl.inj z))),t5 (o+1) O x]
   have e:(y::O).idxOf x=O.idxOf x+1:=by
    rw[List.idxOf_cons];have:(y==x)=false:=by simpa using h
    rw[this];rfl
   by_cases hx:x∈O
   ·rw[if_pos hx,if_pos (.tail _ hx),e];congr 3;omega
   ·rw[if_neg hx,if_neg (λz=>by rcases List.mem_cons.mp z with z|z;exact h z.symm;exact hx z)]
theorem zd(O:List Nat)(x:Nat):bB (qa O) (.inl (x:Int))=if x∈O then some (.int ((rk O x:Nat):Int)) else none:=by have:=t5 0 O x;rw[Nat.zero_add] at this;exact this
theorem Bz{O:List Nat}(nd:O.Nodup):ND (qa O) λx=>if x∈O then some (rk O x) else none:=by
 refine⟨λx=>?_,?_,λp B=>?_⟩
 ·rw[zd];dsimp only;by_cases h:x∈O
  ·rw[if_pos h,if_pos h];rfl
  ·rw[if_neg h,if_neg h];rfl
 ·rw[show(qa O).map (·.1)=O.map λ(x:Nat)=>(Sum.inl (x:Int):Key) from i7 0 O];exact List.Pairwise.map _ (λa b h z=>h (Int.ofNat_inj.mp (Sum.inl.inj z))) nd
 ·have:p.1∈(qa O).map (·.1):=List.mem_map.mpr ⟨p,B,rfl⟩;rw[show(qa O).map (·.1)=O.map λ(x:Nat)=>(Sum.inl (x:Int):Key) from i7 0 O] at this;obtain⟨x,_,e⟩:=List.mem_map.mp this;exact⟨x,e.symm⟩
section
variable{g:fe}{loc:Loc}{st:aW}{Q:D->aW->Prop}{Ws:List (List Nat)}{O:List Nat}
theorem yx{o:Nat}(h1:loc[1]? =some (some (.ref o)))(ho:st[o]? =some (.lst ((zs O).map .int)))(nd:O.Nodup)(U:O.length<=1000)(h:∀m st1,Gr st st1->st.length<=m->st1[m]? =some (.dct (qa O))->Q (.ref m) st1):
  W (run g (.bt .dict [(.comp .en true (.v 1) (.c (.non)) false (.tup [(.v 1),(.v 0)]))]) loc st) Q:=by
 refine ce (ak (b5 (aM h1 ⟨_,rfl,?_⟩)));have J:bF (.en o) st=((zs O).map D.int).length:=by simp only[bF,ho]
 refine bN (L:=gW 0 ((zs O).map .int)) (by rw[J,a8];omega) (by rw[J,dZ];exact ac _) (λi acc st1=>st1=st/\acc=(((O.zipIdx 0).map λp=>D.tup [.int (p.1:Int),.int (p.2:Int)])).take i) ⟨rfl,rfl⟩ (λi acc st1 I=>by obtain⟨rfl,_⟩:=I;simp only[c9,ho,d0,Nat.zero_add]) (λi z acc st1 B I=>?_) λacc st1 I=>?_
 ·obtain⟨rfl,rfl⟩:=I;rw[d0] at B;cases hx:O[i]? with
  |none=>
   have:((zs O).map D.int)[i]? =none:=aT (by rw[a8];exact List.getElem?_eq_none_iff.mp hx)
   rw[this] at B;cases B
  |some x=>rw[cV hx] at B;have B:D.tup [.int ((0+i:Nat):Int),.int (x:Int)]=z:=ag B;rw[Nat.zero_add] at B;subst B;refine i0 (bD (ak (aM rfl (ak (aM rfl (az ⟨rfl,?_⟩))))));dsimp only;rw[List.take_add_one,aq,List.getElem?_zipIdx,hx];simp
 ·obtain⟨rfl,rfl⟩:=I;rw[List.take_of_length_le (by simp[dZ,zs])]
  refine az (vX aI (t6 0 O) ?_);rw[show qL (ze 0 O)=qa O from wA nd];exact h _ _ ((Gr.one _ _).more _) (by simp) aI
theorem v_(l:List Nat):∃l':List Nat,Tab23.cJ (zs l)=zs l'/\(∀x,x∈l'↔x∈l)/\l'.length=l.length:=by
 have I:∀x∈Tab23.cJ (zs l),∃v∈l,(v:Int)=x:=λx B=>jh.mp ((Tab23.cm _).mem_iff.mp B)
 have e:zs ((Tab23.cJ (zs l)).map Int.toNat)=Tab23.cJ (zs l):=by
  unfold zs;rw[List.map_map]
  conv=>rhs;rw[<-List.map_id (Tab23.cJ (l.map λ(a:Nat)=>(a:Int)))]
  refine List.map_congr_left λx B=>?_;obtain⟨v,_,rfl⟩:=I x B;simp
 refine⟨(Tab23.cJ (zs l)).map Int.toNat,e.symm,λx=>?_,?_⟩
 ·have h1:(x:Int)∈zs ((Tab23.cJ (zs l)).map Int.toNat)↔x∈(Tab23.cJ (zs l)).map Int.toNat:=by rw[jh];exact⟨λ⟨v,hv,e⟩=>(Int.ofNat_inj.mp e)▸hv,λh=>⟨x,h,rfl⟩⟩
  rw[<-h1,e,(Tab23.cm _).mem_iff,jh];exact⟨λ⟨v,hv,e⟩=>(Int.ofNat_inj.mp e)▸hv,λh=>⟨x,h,rfl⟩⟩
 ·rw[List.length_map,(Tab23.cm _).length_eq];simp[zs]
theorem q_{o bk:Nat}(h1:loc[1]? =some (some (.ref o)))(h2:loc[2]? =some (some (.ref rn)))(h3:loc[3]? =some (some (.ref bk)))(ho:st[o]? =some (.lst ((zs O).map .int)))(hr:st[rn]? =some (.dct (qa O)))(hB:bS st bk Bs)(nd:O.Nodup)(hl:O.length<=1000)
  (hBs:∀b∈O,b<Bs.length)(hB3:∀ws∈Bs,ws.length<=30)(hBm:∀v u:Nat,u∈wf Bs v↔v∈wf Ws u)
  (h:∀Ls m st1,Gr st st1->st.length<=m->bS st1 m Ls->LsOk Ws O Ls->Q (.ref m) st1):
  W (run g (.comp .seq false (.v 1) (.c (.non)) false (.bt .sorted [(.comp .seq false (.ix (.v 4) (.v 0)) (.cmp .In (.v 0) (.v 4)) true (.ix (.v 4) (.v 0)))])) loc st) Q:=by
 obtain⟨bs,b1,b2,b3⟩:=hB;refine b5 (aM h1 ⟨_,rfl,?_⟩);have hL:bF (.at o) st=((zs O).map D.int).length:=by simp only[bF,ho]
 refine bN (L:=(zs O).map .int) (by rw[hL,a8];omega) (by rw[hL];exact ac _) (λi acc st1=>Gr st st1/\∃(rs:List Nat)(Ls:List (List Nat)),acc=rs.map .ref/\rs.length=i/\Ls.length=i/\(∀(j r:Nat)(ws:List Nat),rs[j]? =some r->Ls[j]? =some ws->st1[r]? =some (.lst ((zs ws).map .int)))/\(∀ws∈Ls,ws.length<=60)/\∀(j:Nat)(ws:List Nat) (b:Nat),Ls[j]? =some ws->O[j]? =some b->∀x,x∈ws↔∃p∈O,b∈wf Ws p/\O.idxOf p=x) ⟨.refl _,[],[],rfl,rfl,rfl,λj r ws a _=>by simp at a,(λws hw=>nomatch hw),λj ws b a _=>by simp at a⟩ (λi acc st1 I=>by obtain⟨g,_⟩:=I;simp only[c9,g.at ho]) (λi z acc st1 hz I=>?_) λacc st1 I=>?_
 ·obtain⟨Z,rs,Ls,rfl,Y,B,hat,hsz,hmm⟩:=I;obtain⟨b,hx,rfl⟩:=dJ hz;have hbl:b<Bs.length:=hBs b (aj hx);have hBb:Bs[b]? =some Bs[b]:=ae hbl;have hbs:bs[b]? =some (bs[b]'(by omega)):=ae (by omega)
  have hat2:=b3 b _ _ hbs hBb;refine d_ (ce (ak (b5 (bx (aM (i:=4) h3 (aM rfl (db (Z.at b1) (cB (by rw[aq,hbs];rfl)) ⟨_,rfl,?_⟩)))))))
  have hL2:bF (.at (bs[b]'(by omega))) st1=((zs Bs[b]).map D.int).length:=by simp only[bF,Z.at hat2]
  have h30:=hB3 _ (List.getElem_mem hbl);refine bN (L:=(zs Bs[b]).map .int) (by rw[hL2,a8];omega) (by rw[hL2];exact ac _) (λj acc s=>s=st1/\acc=(zs (((Bs[b].take j).filter λu=>decide (u∈O)).map λu=>O.idxOf u)).map .int) ⟨rfl,rfl⟩ (λj acc s I=>by obtain⟨rfl,_⟩:=I;simp only[c9,Z.at hat2]) (λj z acc s hz I=>?_) λacc s I=>?_
  ·obtain⟨rfl,rfl⟩:=I
   have hj:j<Bs[b].length:=by have:=(av hz).1;rwa [a8] at this
   have hu:Bs[b][j]? =some Bs[b][j]:=ae hj;rw[cV hu] at hz;cases hz;obtain⟨u,huu⟩:∃u,u=Bs[b][j]:=⟨_,rfl⟩;rw[<-huu] at hu ⊢;have tk:Bs[b].take (j+1)=Bs[b].take j++[u]:=by rw[List.take_add_one,hu];rfl
   refine lK (ba (aM rfl (aM (i:=4) h2 (sU (Z.at hr) rfl ⟨_,rfl,λz=>?_,λz=>?_⟩))))
   ·have hv:=zd O u
    have U:u∈O:=by
     by_cases U:u∈O
     ·exact U
     ·rw[hv,if_neg U] at z;cases z
    rw[if_pos U] at hv;refine bx (aM (i:=4) h2 (aM rfl (dL (Z.at hr) hv ⟨rfl,?_⟩)));dsimp only;rw[tk,List.filter_append,List.map_append,cA,List.filter_cons_of_pos (by simpa using U)]
    rfl
   ·have hv:=zd O u;have U:u∉O:=λU=>by rw[hv,if_pos U] at z;cases z
    refine⟨rfl,?_⟩;dsimp only;rw[tk,List.filter_append,List.map_append,cA,List.filter_cons_of_neg (by simpa using U)]
    simp[zs]
  ·obtain⟨rfl,rfl⟩:=I;rw[a8,List.take_length];obtain⟨l',e1,e2,e3⟩:=v_ ((Bs[b].filter λu=>decide (u∈O)).map λu=>O.idxOf u)
   have hle:l'.length<=30:=by rw[e3,List.length_map];have:=List.length_filter_le (λu=>decide (u∈O)) Bs[b];omega
   refine az (gF aI (by unfold zs;rw[List.length_map,<-e3];omega) ?_)
   rw[e1];have g2:=(Z.more (.lst ((zs ((Bs[b].filter λu=>decide (u∈O)).map λu=>O.idxOf u)).map D.int))).more (.lst ((zs l').map D.int));refine⟨g2,rs++[(s++[Ev.O.lst ((zs ((Bs[b].filter λu=>decide (u∈O)).map λu=>O.idxOf u)).map D.int)]).length],Ls++[l'],by simp,by simp[Y],by simp[B],λj r ws J h5=>?_,λws hw=>?_,λj ws b' J h5=>?_⟩
   ·by_cases hj:j<rs.length
    ·rw[ao hj] at J;rw[ao (by omega)] at h5
     exact aV (aV (hat j r ws J h5))
    ·have hj2:j=i:=by have:=(av J).1;simp at this;omega
     subst hj2;rw[aE (by omega),Y,Nat.sub_self] at J
     rw[aE (by omega),B,Nat.sub_self] at h5
     cases J;cases h5;exact aI
   ·rcases List.mem_append.mp hw with hw|hw
    ·exact hsz ws hw
    ·rw[List.mem_singleton.mp hw];omega
   ·by_cases hj:j<Ls.length
    ·rw[ao hj] at J;exact hmm j ws b' J h5
    ·have hj2:j=i:=by have:=(av J).1;simp at this;omega
     subst hj2;rw[aE (by omega),B,Nat.sub_self] at J
     cases J;rw[hx] at h5;cases h5;intro x;rw[e2,List.mem_map];constructor
     ·rintro⟨u,hu,rfl⟩;rw[List.mem_filter] at hu;exact⟨u,by simpa using hu.2,(hBm b u).mp (by rw[gE hBb];exact hu.1),rfl⟩
     ·rintro⟨p,hp,e,rfl⟩;refine⟨p,List.mem_filter.mpr ⟨?_,by simpa using hp⟩,rfl⟩
      have:=(hBm b p).mpr e;rw[gE hBb] at this;exact this
 ·obtain⟨Z,rs,Ls,rfl,Y,B,hat,hsz,hmm⟩:=I;rw[a8] at Y B;refine h Ls _ _ (Z.more _) Z.le ⟨rs,aI,by omega,λj r ws a c=>aV (hat j r ws a c)⟩ ⟨B,hsz,λj b hb x=>?_⟩
  have hj:j<Ls.length:=by rw[B];exact(av hb).1
  have e:Ls[j]? =some Ls[j]:=ae hj;rw[gE e];exact hmm j _ b e hb x
end
section
variable{Ws:List (List Nat)}{O:List Nat}
noncomputable def cK(O:List Nat):List Nat:=O.dropLast.reverse
theorem Cm(h:(cK O)[j]? =some b):j+1<O.length/\O[O.length - 2 - j]? =some b:=by
 have B:=(av h).1;unfold cK at h B;rw[List.length_reverse,List.length_dropLast] at B;refine⟨by omega,?_⟩
 rw[List.getElem?_reverse (by rw[List.length_dropLast];omega),List.length_dropLast,List.getElem?_dropLast] at h
 rw[if_pos (by omega)] at h
 rw[show O.length - 2 - j=O.length - 1 - 1 - j by omega]
 exact h
theorem pF:(cK O).length=O.length - 1:=by unfold cK;rw[List.length_reverse,List.length_dropLast]
theorem fO(I:Go.Inv (wf Ws) [] O):x∈cK O↔Dom.be (Ed Ws) x/\x≠0:=by
 obtain⟨l,rfl⟩:=vH I;have nd:=sI I;rw[List.nodup_append] at nd;unfold cK;rw[cT I,List.mem_reverse,List.dropLast_concat,List.mem_append,List.mem_singleton];constructor
 ·intro h;exact⟨.inl h,λz=>nd.2.2 x h 0 (by simp) z⟩
 ·rintro⟨h|h,B⟩
  ·exact h
  ·exact absurd h B
theorem vv(I:Go.Inv (wf Ws) [] O):(cK O).Pairwise λx y=>rk O y<rk O x:=by
 have nd:=sI I;unfold cK;rw[List.pairwise_reverse,List.pairwise_iff_getElem];intro i j hi J B;rw[List.length_dropLast] at hi J;rw[List.getElem_dropLast,List.getElem_dropLast];show O.idxOf _<O.idxOf _;rw[nd.idxOf_getElem i (by omega),nd.idxOf_getElem j (by omega)]
 exact B
theorem Ck(I:Go.Inv (wf Ws) [] O):(cK O).Nodup:=(vv I).imp λh z=>by rw[z] at h;exact a9 _ h
theorem zm{q:Nat}(h:N b=some q):Dom.put N b q=N:=by
 funext x;unfold Dom.put;by_cases e:x=b
 ·rw[if_pos e,e,h]
 ·rw[if_neg e]
theorem ND.put(h:ND kv N)(b q:Nat):ND (bM kv (.inl (b:Int)) (.int (q:Int))) (Dom.put N b q):=by
 refine⟨λx=>?_,h.2.put b _⟩;rw[i5];unfold Dom.put;by_cases e:x=b
 ·subst e;rw[if_pos rfl,if_pos rfl];rfl
 ·rw[if_neg (λz=>e (Int.ofNat_inj.mp (Sum.inl.inj z)).symm),if_neg e];exact h.1 x
theorem Ds{q:Nat}(o:Option Nat):cj 60 st ((o.map λ(y:Nat)=>D.int (y:Int)).getD .non) (.int (q:Int))=some (decide (o=some q)):=by
 cases o with
 |none=>simp[cj,shape,kz]
 |some y=>
  have:decide ((y:Int)=q)=decide (some y=some q):=by
   by_cases h:y=q
   ·subst h;simp
   ·simp[h];omega
  simp only[Option.map_some,Option.getD_some];rw[<-this];simp[cj,shape,kz];rfl
end
section
variable{k:Nat}{st:aW}{Q:Fl->aW->Prop}{Ws:List (List Nat)}{O:List Nat}{ss:List S}
structure Pa(O:List Nat)(Ls:List (List Nat))(N:Nat->Option Nat)(nd:Nat)(s0 st:aW)(L0 j:Nat)(c:Bool):Prop where
 bu:Bu nd s0 st
 at_:∃kv,st[nd]? =some (.dct kv)/\ND kv (Dom.go (dh O Ls) N ((cK O).take j))/\kv.length<=L0+j
 same:c=false->Dom.go (dh O Ls) N ((cK O).take j)=N
 new:c=true->∃x∈(cK O).take j,Dom.go (dh O Ls) N ((cK O).take j) x≠N x
theorem Pa.same_{Ls:List (List Nat)}{st:aW}{q:Nat}{c:Bool}(h:Pa O Ls N nd s0 st L0 j c)(Z:(cK O)[j]? =some b)(B:Gr st st')(U:nd<s0.length)(J:dh O Ls (Dom.go (dh O Ls) N ((cK O).take j)) b=q)(e:Dom.go (dh O Ls) N ((cK O).take j) b=some q):Pa O Ls N nd s0 st' L0 (j+1) c:=by
 have tk:(cK O).take (j+1)=(cK O).take j++[b]:=by rw[List.take_add_one,Z];rfl
 have eq:Dom.go (dh O Ls) N ((cK O).take (j+1))=Dom.go (dh O Ls) N ((cK O).take j):=by rw[tk,Dom.iy];show Dom.put _ b (dh O Ls _ b)=_;rw[J];exact zm e
 obtain⟨kv,h1,h2,h3⟩:=h.at_;refine⟨h.bu.trans (Bu.gr B),⟨kv,B.at h1,by rw[eq];exact h2,by omega⟩,λz=>by rw[eq];exact h.same z,λz=>?_⟩
 obtain⟨x,I,Y⟩:=h.new z;exact⟨x,by rw[tk];exact aJ _ I,by rw[eq];exact Y⟩
theorem Pa.put{Ls:List (List Nat)}{st:aW}{q:Nat}{c:Bool}(h:Pa O Ls N nd s0 st L0 j c)(I:Go.Inv (wf Ws) [] O)(Y:(cK O)[j]? =some b)(U:Gr st st')(J:nd<s0.length)(hq:dh O Ls (Dom.go (dh O Ls) N ((cK O).take j)) b=q)(e:Dom.go (dh O Ls) N ((cK O).take j) b≠some q)(hk:st[nd]? =some (.dct kv)):
  Pa O Ls N nd s0 (st'.set nd (.dct (bM kv (.inl (b:Int)) (.int (q:Int))))) L0 (j+1) true:=by
 have tk:(cK O).take (j+1)=(cK O).take j++[b]:=by rw[List.take_add_one,Y];rfl
 have eq:Dom.go (dh O Ls) N ((cK O).take (j+1))=Dom.put (Dom.go (dh O Ls) N ((cK O).take j)) b q:=by rw[tk,Dom.iy];show Dom.put _ b (dh O Ls _ b)=_;rw[hq]
 have B:b∉(cK O).take j:=md (Ck I) Y;obtain⟨Z,h1,h2,h3⟩:=h.at_;rw[hk] at h1;cases h1;have hl:=qd kv (.inl (b:Int)) (.int (q:Int));refine⟨(h.bu.trans (Bu.gr U)).set (.inl rfl),⟨_,bj (aA J (h.bu.trans (Bu.gr (l:=nd) U)).le),by rw[eq];exact h2.put b q,by omega⟩,nofun,λ_=>⟨b,by rw[tk];simp,?_⟩⟩
 rw[eq,Dom.bm,<-Dom.fB (upd:=dh O Ls) (N:=N) B];exact λz=>e z.symm
theorem uV(I:Go.Inv (wf Ws) [] O){Ls:List (List Nat)}(L:LsOk Ws O Ls)(hO:O.length<=100)(K:Dom.Ok (Ed Ws) (rk O) N)(A:∀x,Dom.be (Ed Ws) x->x∈cK O∨∃y,N x=some y)(J:(cK O)[j]? =some b):
  Dom.Ok (Ed Ws) (rk O) (Dom.go (dh O Ls) N ((cK O).take j))/\∃f∈pre O Ls b,∃y,Dom.go (dh O Ls) N ((cK O).take j) f=some y:=by
 have U:=sZ I L hO;have up:=vv I;have Y:=(av J).1;obtain⟨K1,A1⟩:=Dom.lh (vG I) U (l:=(cK O).take j) (l2:=(cK O).drop j) K (by rw[List.take_append_drop];exact up) (λx hx=>(fO I).mp (List.mem_of_mem_take hx)) (by rw[List.take_append_drop];exact A)
 refine⟨K1,?_⟩;obtain⟨cb,B⟩:=(fO I).mp (aj J);obtain⟨f,e,cf,hl⟩:=U.par b B cb;refine⟨f,(qf L ((cT I).mp cb)).mpr ⟨e,(cT I).mp cf⟩,(A1 f cf).resolve_left λz=>?_⟩;rw[List.drop_eq_getElem_cons Y] at z;have Z:(cK O)[j]=b:=(av J).2;rw[Z] at z;rcases List.mem_cons.mp z with rfl|z
 ·omega
 ·have up2:((cK O).drop j).Pairwise λx y=>rk O y<rk O x:=up.sublist (List.drop_sublist _ _);rw[List.drop_eq_getElem_cons Y,Z] at up2;have:=(List.pairwise_cons.mp up2).1 f z;omega
theorem yA{o bk ld:Nat}{x y:Option D}{Ls:List (List Nat)}(I:Go.Inv (wf Ws) [] O)(L:LsOk Ws O Ls)(hO:O.length<=100)(ho:st[o]? =some (.lst ((zs O).map .int)))(hr:st[rn]? =some (.dct (qa O)))(hl:bS st ld Ls)(hd:st[nd]? =some (.dct kv))(hrn:rn≠nd)(hN:ND kv N)(hk:kv.length<=900000)
  (K:Dom.Ok (Ed Ws) (rk O) N)(A:∀x,Dom.be (Ed Ws) x->x∈cK O∨∃y,N x=some y)
  (h:∀(c:Bool)(x y:Option D) st1,Pa O Ls N nd st st1 kv.length (cK O).length c->W (execs (calls tab (k+1)) ss [some (.ref w),some (.ref o),some (.ref rn),some (.ref bk),some (.ref ld),some (.ref nd),some (.bl c),x,y] st1) Q):
  W (execs (calls tab (k+1)) (.forD 7 (.bin .sub (.bt .len [(.v 1)]) (.c (.int (2)))) [.set 8 (.fn 3 [(.comp .seq false (.ix (.v 4) (.v 7)) (.cmp .In (.ix (.v 2) (.v 0)) (.v 6)) true (.ix (.v 2) (.v 0))),(.v 5),(.v 2)]),.ite (.cmp .NotEq (.dget1 (.v 5) (.ix (.v 1) (.v 7))) (.v 8)) [.setix (.v 5) (.ix (.v 1) (.v 7)) (.v 8),.set 6 (.c (.bl true))] []]::ss) [some (.ref w),some (.ref o),some (.ref rn),some (.ref bk),some (.ref ld),some (.ref nd),some (.bl false),x,y] st) Q:=by
 obtain⟨ls0,hl0,hll,hlr⟩:=id hl;have hnd:nd<st.length:=(av hd).1;have hpos:0<O.length:=by obtain⟨l,rfl⟩:=vH I;simp
 refine vW (bE (ce (ak (aM rfl (az (cN ho (bi (w_sub ⟨_,rfl,by rw[a8];omega,?_⟩))))))))
 rw[a8];have hn:((O.length:Int) - 2+1).toNat=(cK O).length:=by rw[pF];omega
 rw[hn];have hLL:(dF ((O.length:Int) - 2) (cK O).length).length=(cK O).length:=by simp[dF]
 refine cw (L:=dF ((O.length:Int) - 2) (cK O).length) (ac _) (λj loc st'=>∃(c:Bool)(x y:Option D),loc=[some (.ref w),some (.ref o),some (.ref rn),some (.ref bk),some (.ref ld),some (.ref nd),some (.bl c),x,y]/\Pa O Ls N nd st st' kv.length j c) ⟨false,x,y,rfl,⟨ac _,λ_ _ _=>rfl⟩,⟨kv,hd,by rw[List.take_zero];exact hN,ac _⟩,λ_=>by rw[List.take_zero];rfl,nofun⟩ (λ_ _ _ _=>rfl) (λj z loc st' hz hI=>?_) λloc st' hI=>?_
 ·obtain⟨c,x,y,rfl,P⟩:=hI
  have hj:j<(cK O).length:=by have:=(av hz).1;rwa [hLL] at this
  have hz':(dF ((O.length:Int) - 2) (cK O).length)[j]? =some (.int ((O.length:Int) - 2 - (j:Int))):=by simp[dF,hj]
  rw[hz'] at hz;cases hz;have J:(cK O)[j]? =some (cK O)[j]:=ae hj;obtain⟨b,hb⟩:∃b,b=(cK O)[j]:=⟨_,rfl⟩;rw[<-hb] at J;obtain⟨hj2,B⟩:=Cm J;obtain⟨p,hp⟩:∃p,p=O.length - 2 - j:=⟨_,rfl⟩;rw[<-hp] at B;have hpi:(O.length:Int) - 2 - (j:Int)=(p:Int):=by omega
  rw[hpi];have nd':=sI I;have hib:O.idxOf b=p:=z9 nd' B;obtain⟨K1,hf⟩:=uV I L hO K A J;obtain⟨Nj,Y⟩:∃Nj,Nj=Dom.go (dh O Ls) N ((cK O).take j):=⟨_,rfl⟩;obtain⟨kv',k1,k2,k3⟩:=P.at_;rw[<-Y] at K1 hf k2;obtain⟨p0,ps,q,u1,u2,u3,u4,u5⟩:=mZ I hO K1 hf;have hpl:p<Ls.length:=by rw[L.ln];exact(av B).1
  have hLp:Ls[p]? =some Ls[p]:=ae hpl;have hls:ls0[p]? =some (ls0[p]'(by omega)):=ae (by omega)
  have hatl:=hlr p _ _ hls hLp;have hne:∀{i:Nat}{xs:List D},st[i]? =some (.lst xs)->i≠nd:=λa z=>by rw[z,hd] at a;cases a
  have Z:=P.bu.at ho (hne ho);have U:=P.bu.at hatl (hne hatl);have hr':=P.bu.at hr hrn;have hpre:pre O Ls b=Ls[p].map λx=>O.getD x 0:=by unfold pre;rw[hib,gE hLp]
  refine aX (bY (ak (b5 (bx (aM rfl (aM rfl (db (P.bu.at hl0 (hne hl0)) (cB (by rw[aq,hls];rfl)) ⟨_,rfl,?_⟩)))))))
  have hL2:bF (.at (ls0[p]'(by omega))) st'=((zs Ls[p]).map D.int).length:=by simp only[bF,U]
  have h60:=L.sz _ (List.getElem_mem hpl);refine bN (L:=(zs Ls[p]).map .int) (by rw[hL2,a8];omega) (by rw[hL2];exact ac _) (λi acc s=>s=st'/\acc=(zs (((Ls[p].take i).map λx=>O.getD x 0).filter λp=>(Nj p).isSome)).map .int) ⟨rfl,rfl⟩ (λi acc s hI=>by obtain⟨rfl,_⟩:=hI;simp only[c9,U]) (λi z acc s hz hI=>?_) λacc s hI=>?_
  ·obtain⟨rfl,rfl⟩:=hI
   have hi:i<Ls[p].length:=by have:=(av hz).1;rwa [a8] at this
   have hu:Ls[p][i]? =some Ls[p][i]:=ae hi;rw[cV hu] at hz;cases hz;obtain⟨u,huu⟩:∃u,u=Ls[p][i]:=⟨_,rfl⟩;have hum:u∈wf Ls p:=by rw[gE hLp,huu];exact List.getElem_mem hi
   rw[<-huu] at hu ⊢;obtain⟨q',hq',_,eq'⟩:=(L.mem p b B u).mp hum;have hOu:O[u]? =some (O.getD u 0):=by rw[<-eq',jX hq'];exact pH hq'
   have tk:Ls[p].take (i+1)=Ls[p].take i++[u]:=by rw[List.take_add_one,hu];rfl
   have hv:=k2.1 (O.getD u 0);refine lK (ba (bx (aM rfl (aM rfl (db Z (cB (cV hOu)) (aM rfl (sU k1 rfl ⟨_,rfl,λz=>?_,λz=>?_⟩)))))))
   ·have hm:(Nj (O.getD u 0)).isSome=true:=by rw[hv] at z;simpa using z
    refine bx (aM rfl (aM rfl (db Z (cB (cV hOu)) ⟨rfl,?_⟩)));dsimp only;rw[tk,List.map_append,List.filter_append,cA,List.map_cons,List.map_nil,List.filter_cons_of_pos (p:=λp=>(Nj p).isSome) hm];rfl
   ·have hm:¬(Nj (O.getD u 0)).isSome=true:=by rw[hv] at z;simpa using z
    refine⟨rfl,?_⟩;dsimp only;rw[tk,List.map_append,List.filter_append,cA,List.map_cons,List.map_nil,List.filter_cons_of_neg (p:=λp=>(Nj p).isSome) hm];simp[zs]
  ·obtain⟨rfl,rfl⟩:=hI;rw[a8,List.take_length,<-hpre,u1];have g1:Gr s (s++[Ev.O.lst ((zs (p0::ps)).map D.int)]):= .one _ _;refine ak (aM rfl (ak (aM rfl (az ?_))));refine tZ K1 (λx y e=>(cT I).mp (K1.dom x y e)) aI (g1.at k1) (g1.at hr') k2 (Bz (sI I)) (λx hx=>?_) u2 ?_
   ·rw[<-u1,List.mem_filter,Option.isSome_iff_exists] at hx;exact hx.2
   ·refine ck (ba (vY (aM rfl ⟨nd,_,rfl,g1.at k1,bx (aM rfl (aM rfl (db (g1.at Z) (cB (cV B)) ⟨_,_,g1.at k1,rfl,?_⟩)))⟩)));rw[k2.1 b];refine aM rfl (kB (Ds (Nj b)) ⟨_,rfl,λz=>?_,λz=>?_⟩)
    ·have hn:¬Nj b=some q:=by simpa using z
     refine fQ (aM rfl (aM rfl (bx (aM rfl (aM rfl (db (g1.at Z) (cB (cV B)) (cM (g1.at k1) rfl (by omega) ?_)))))))
     exact aX (bi (aK (a7 (aK (bA ⟨true,_,_,rfl,P.put I J g1 hnd (by rw[<-Y];exact u3) (by rw[<-Y];exact hn) k1⟩)))))
    ·have hn:Nj b=some q:=by simpa using z
     exact aK (a7 (aK (bA ⟨c,_,_,rfl,P.same_ (q:=q) J g1 hnd (by rw[<-Y];exact u3) (by rw[<-Y];exact hn)⟩)))
 ·obtain⟨c,x,y,rfl,P⟩:=hI;rw[hLL] at P;exact a7 (h c x y st' P)
end
section
variable{k w:Nat}{st:aW}{Q:D->aW->Prop}{Ws:List (List Nat)}{O:List Nat}
def ms(O:List Nat)(N:Nat->Option Nat):Nat:=((cK O).map λx=>rk O 0 - rk O ((N x).getD 0)).sum
theorem tI{f g:Nat->Nat}:∀{l:List Nat},(∀x∈l,f x<=g x)->(l.map f).sum<=(l.map g).sum
 |[],_=>ac _
 |a::l,h=>by have h1:=h a (.head _);have I:=tI (l:=l) λx B=>h x (.tail _ B);simp only[List.map_cons,List.sum_cons];omega
theorem tH{f g:Nat->Nat}:∀{l:List Nat},(∀x∈l,f x<=g x)->(∃x∈l,f x<g x)->(l.map f).sum<(l.map g).sum
 |[],_,⟨x,B,_⟩=>nomatch B
 |a::l,h,⟨x,B,hl⟩=>by
  have h1:=h a (.head _);have I:=tI (l:=l) λx B=>h x (.tail _ B);simp only[List.map_cons,List.sum_cons];rcases List.mem_cons.mp B with rfl|B
  ·omega
  ·have:=tH (l:=l) (λx B=>h x (.tail _ B)) ⟨x,B,hl⟩;omega
theorem lO{f:Nat->Nat}{m:Nat}:∀{l:List Nat},(∀x∈l,f x<=m)->(l.map f).sum<=m*l.length
 |[],_=>ac _
 |a::l,h=>by have h1:=h a (.head _);have I:=lO (l:=l) λx B=>h x (.tail _ B);simp only[List.map_cons,List.sum_cons,List.length_cons,Nat.mul_add];omega
theorem BQ(I:O.length<=60)(N:Nat->Option Nat):ms O N<=3600:=by
 have h0:rk O 0<=60:=by have:O.idxOf 0<=O.length:=List.idxOf_le_length;show O.idxOf 0<=60;omega
 have:=lO (l:=cK O) (f:=λx=>rk O 0 - rk O ((N x).getD 0)) (m:=60) λx _=>by omega
 have B:(cK O).length<=60:=by rw[pF];omega
 have:ms O N<=60*(cK O).length:=this;omega
theorem BP(I:Go.Inv (wf Ws) [] O){P:Nat->Option Nat}(F:Dom.dI (Ed Ws) (rk O) P)(T:Dom.Turn (Ed Ws) (rk O) P N)(h:∃x∈cK O,N x≠P x):ms O N<ms O P:=by
 have R:=vG I
 have key:∀x∈cK O,∃r q,P x=some r/\N x=some q/\rk O r<=rk O q/\(rk O r=rk O q->r=q)/\rk O q<=rk O 0:=λx B=>by obtain⟨cx,Z⟩:=(fO I).mp B;obtain⟨r,hr⟩:=F.all x cx;obtain⟨q,J⟩:=T.all x cx;obtain⟨_,z,hz⟩:=T.ok.up x q Z J;have:=Dom.re R F T Z hr J;exact⟨r,q,hr,J,this.1,this.2,R.top q (T.ok.dom q z hz)⟩
 unfold ms;refine tH (λx B=>?_) ?_
 ·obtain⟨r,q,Y,U,h1,h2,h3⟩:=key x B;rw[Y,U];simp only[Option.getD_some];omega
 ·obtain⟨x,B,hn⟩:=h;refine⟨x,B,?_⟩;obtain⟨r,q,Y,U,h1,h2,h3⟩:=key x B;rw[Y,U] at hn ⊢;simp only[Option.getD_some];have:rk O r≠rk O q:=λz=>hn (by rw[h2 z])
  omega
structure Nr(Ws:List (List Nat))(N:Nat->Option Nat):Prop where
 all:∀x,Dom.be (Ed Ws) x->∃y,N x=some y
 zero:N 0=some 0
 dom:∀x y,N x=some y->Dom.be (Ed Ws) x
 come:∀x y,N x=some y->Dom.be (Ed Ws) y
 chain:∀b c,Dom.be (Ed Ws) b->(Dom.Chain N b c↔Dom.ca (Ed Ws) c b)
 off:∀x y,x≠0->N x=some y->¬Dom.ca (Ed Ws) x y
theorem BN(I:Go.Inv (wf Ws) [] O)(F:Dom.dI (Ed Ws) (rk O) N)(T:Dom.Turn (Ed Ws) (rk O) N N):Nr Ws N:=by
 have R:=vG I
 have J:∀x y,N x=some y->Dom.be (Ed Ws) y:=λx y e=>by
  by_cases B:x=0
  ·subst B;rw[F.ok.zero] at e;cases e;exact⟨_,.nil⟩
  ·obtain⟨_,z,U⟩:=F.ok.up x y B e;exact F.ok.dom y z U
 refine⟨F.all,F.ok.zero,F.ok.dom,J,λb c Y=>Dom.m7 R F T Y,λx y B e z=>?_⟩;have:=(((Dom.m7 R F T (J x y e)).mpr z).le F.ok).1;have:=(F.ok.up x y B e).1;omega
theorem zR:ND [(.inl 0,.int 0)] Dom.ft:=by
 refine⟨λx=>?_,by simp,λp B=>⟨0,by rw[List.mem_singleton.mp B];rfl⟩⟩
 unfold bB;by_cases h:x=0
 ·subst h;rfl
 ·have:¬((Sum.inl 0:Key)=.inl (x:Int)):=λz=>h (Int.ofNat_inj.mp (Sum.inl.inj z)).symm;rw[if_neg this];simp[bB,Dom.ft,h]
theorem rG(hW:bS st w Ws)(hn:0<Ws.length/\Ws.length<=9)(hw:∀v f,f∈wf Ws v->f<Ws.length)(h2:∀v,(wf Ws v).length<=2)
  (h:∀N kv m st1,Gr st st1->st.length<=m->st1[m]? =some (.dct kv)->ND kv N->Nr Ws N->Q (.ref m) st1):Wv (calls tab (k+2) iu [.ref w] st) Q:=by
 walk_at "call0"
 refine aX (bY (ak (aM rfl (ak (bi (ak (jn (az (tY (hW.gr (.one _ _)) hn hw h2 aI λO o s1 b1 I hO ho1 ho=>?_)))))))));have g1:Gr st s1:=b1.gr2 (.one _ _) (ac _);have nd':=sI I;have hlt:∀b∈O,b<Ws.length:=λb hb=>qT hn.1 hw ((Go.qB I).mp hb);refine aX (yx rfl ho nd' (by omega) λrn s2 g2 hr1 hr=>?_)
 refine aX (bY (ak (aM rfl (az (tU (hW.gr (g1.trans g2)) hn.2 hw h2 λBs bk s3 g3 hb1 hB hB1 hB2 hB3=>?_)))));refine aX (q_ (o:=o) (rn:=rn) (bk:=bk) (Ws:=Ws) rfl rfl rfl ((g2.trans g3).at ho) (g3.at hr) hB nd' (by omega) (λb hb=>by rw[hB1];exact hlt b hb) hB2 hB3 λLs ld J g4 hl1 hL L=>?_)
 refine aX (pQ (bi (bi ⟨_,rfl,aX (bi ?_)⟩)));have g5:Gr J (J++[Ev.O.dct [(.inl 0,.int 0)]]):= .one _ _;obtain⟨Z,B⟩:∃Z,Z=J++[Ev.O.dct [(.inl 0,.int 0)]]:=⟨_,rfl⟩;have Y:Z[J.length]? =some (.dct [(.inl 0,.int 0)]):=by rw[B];exact aI
 have ho5:Z[o]? =some (.lst ((zs O).map .int)):=by rw[B];exact(g2.trans (g3.trans (g4.trans g5))).at ho
 have hr5:Z[rn]? =some (.dct (qa O)):=by rw[B];exact(g3.trans (g4.trans g5)).at hr
 have hl5:bS Z ld Ls:=by rw[B];exact hL.gr g5
 have gs:Gr st J:=g1.trans (g2.trans (g3.trans g4));have g05:Gr st Z:=by rw[B];exact gs.trans g5
 have hrn:rn≠J.length:=by have:=(av ((g3.trans g4).at hr)).1;omega
 clear g5;show W (execs _ _ _ (J++[Ev.O.dct [(.inl 0,.int 0)]])) _;rw[<-B];have R:=vG I;have U:=sZ I L (by omega)
 have up:=vv I
 have A0:∀x,Dom.be (Ed Ws) x->x∈cK O∨∃y,Dom.ft x=some y:=λx hx=>by
  by_cases z:x=0
  ·subst z;exact .inr ⟨0,rfl⟩
  ·exact .inl ((fO I).mpr ⟨hx,z⟩)
 refine gc (λm loc s=>∃(c:Bool)(x y:Option D)(kv:List (Key×D))(N:Nat->Option Nat),loc=[some (.ref w),some (.ref o),some (.ref rn),some (.ref bk),some (.ref ld),some (.ref J.length),some (.bl c),x,y]/\Bu J.length Z s/\s[J.length]? =some (.dct kv)/\ND kv N/\kv.length<=1+60*(10000 - m)/\m<=10000/\(c=true->(N=Dom.ft/\m=10000)∨(Dom.dI (Ed Ws) (rk O) N/\ms O N+1<=m))/\(c=false->Dom.dI (Ed Ws) (rk O) N/\Dom.Turn (Ed Ws) (rk O) N N))
  10000 (by decide) ⟨true,_,_,_,Dom.ft,rfl,⟨ac _,λ_ _ _=>rfl⟩,Y,zR,by simp,ac _,λ_=>.inl ⟨rfl,rfl⟩,nofun⟩ λm loc s hI=>?_
 obtain⟨c,x,y,kv,N,rfl,bu,hk,hN,hkl,hm,ht,hf⟩:=hI;have hneL:∀{i:Nat}{xs:List D},Z[i]? =some (.lst xs)->i≠J.length:=λa z=>by rw[z,Y] at a;cases a
 refine aM rfl ⟨c,rfl,λz=>?_,λz=>?_⟩
 ·have ht:=ht z;have hm1:1<=m:=by rcases ht with⟨_,e⟩|⟨_,e⟩<;>omega
  refine⟨m - 1,by omega,aX (bi ?_)⟩
  have K:Dom.Ok (Ed Ws) (rk O) N:=by
   rcases ht with⟨rfl,_⟩|⟨F,_⟩
   ·exact Dom.ma
   ·exact F.ok
  have A:∀x,Dom.be (Ed Ws) x->x∈cK O∨∃y,N x=some y:=by
   rcases ht with⟨rfl,_⟩|⟨F,_⟩
   ·exact A0
   ·exact λx hx=>.inr (F.all x hx)
  refine yA I L (by omega) (bu.at ho5 (hneL ho5)) (bu.at hr5 hrn) (hl5.bu Y bu) hk hrn hN (by omega) K A λc' x' y' s' P=>?_
  obtain⟨kv',k1,k2,k3⟩:=P.at_;have same:=P.same;have new:=P.new;rw[List.take_length] at k2 same new;rw[pF] at k3;refine aK (bA ⟨c',x',y',kv',_,rfl,bu.trans P.bu,k1,k2,by omega,by omega,λzc=>?_,λzc=>?_⟩)
  ·rcases ht with⟨rfl,e⟩|⟨F,e⟩
   ·have:=BQ hO (Dom.go (dh O Ls) Dom.ft (cK O));exact .inr ⟨Dom.kR (Dom.m8 R U up λx=>fO I),by omega⟩
   ·have T:=Dom.pV R F U up λx=>fO I;have:=BP I F T (new zc);exact .inr ⟨Dom.tm R F T U.par,by omega⟩
  ·have eN:=same zc
   have F':Dom.dI (Ed Ws) (rk O) N:=by
    rcases ht with⟨rfl,e⟩|⟨F,e⟩
    ·have:=Dom.kR (Dom.m8 R U up λx=>fO I);rw[eN] at this;exact this
    ·exact F
   have T:=Dom.pV R F' U up λx=>fO I;rw[eN] at T ⊢;exact⟨F',T⟩
 ·obtain⟨F,T⟩:=hf z;exact bp (aM rfl (bn (h N kv _ s (bu.gr2 g05 gs.le) gs.le hk hN (BN I F T))))
end
noncomputable def kp(ps:List (Nat×Nat)):List Nat:=ps.foldl (λks p=>if p.2∈ks then ks else ks++[p.2]) []
noncomputable def Lp(ps:List (Nat×Nat))(f:Nat):List Nat:=(ps.filter λp=>decide (p.2=f)).map (·.1)
theorem gi(ps:List (Nat×Nat))(p:Nat×Nat):kp (ps++[p])=if p.2∈kp ps then kp ps else kp ps++[p.2]:=by unfold kp;rw[List.foldl_append];rfl
theorem pK(ps:List (Nat×Nat))(v f B:Nat):Lp (ps++[(v,f)]) B=Lp ps B++if f=B then [v] else []:=by
 unfold Lp;rw[List.filter_append,List.map_append];by_cases h:f=B
 ·rw[if_pos h,List.filter_cons_of_pos (by simpa using h)];rfl
 ·rw[if_neg h,List.filter_cons_of_neg (by simpa using h)];rfl
theorem gw{ps:List (Nat×Nat)}:v∈Lp ps f↔(v,f)∈ps:=by
 unfold Lp;rw[List.mem_map];constructor
 ·rintro⟨⟨a,b⟩,h,rfl⟩;obtain⟨h1,B⟩:=List.mem_filter.mp h;have:b=f:=by simpa using B
  exact this▸h1
 ·exact λh=>⟨(v,f),List.mem_filter.mpr ⟨h,by simp⟩,rfl⟩
theorem gy(ps:List (Nat×Nat))(f:Nat):(Lp ps f).length<=ps.length:=by unfold Lp;rw[List.length_map];exact List.length_filter_le _ _
theorem wB{α:Type}{P:List α->Prop}(h0:P [])(h1:∀l a,P l->P (l++[a]))(l:List α):P l:=by
 have:∀l:List α,P l.reverse:=λl=>by
  induction l with
  |nil=>exact h0
  |cons a l ih=>rw[List.reverse_cons];exact h1 _ a ih
 have h:=this l.reverse;rwa [List.reverse_reverse] at h
theorem dq(ps:List (Nat×Nat)):(kp ps).Nodup/\(kp ps).length<=ps.length/\∀f,f∈kp ps↔∃v,(v,f)∈ps:=by
 refine wB (P:=λps=>(kp ps).Nodup/\(kp ps).length<=ps.length/\∀f,f∈kp ps↔∃v,(v,f)∈ps) ⟨.nil,ac _,λf=>⟨nofun,λ⟨v,h⟩=>nomatch h⟩⟩ (λps p ⟨h1,h2,h3⟩=>?_) ps;rw[gi]
 have ex:∀f,(∃v,(v,f)∈ps++[p])↔(∃v,(v,f)∈ps)∨f=p.2:=λf=>by
  constructor
  ·rintro⟨v,h⟩;rcases List.mem_append.mp h with h|h
   ·exact .inl ⟨v,h⟩
   ·exact .inr (by rw[<-List.mem_singleton.mp h])
  ·rintro(⟨v,h⟩|h)
   ·exact⟨v,aJ _ h⟩
   ·exact⟨p.1,by rw[h];simp⟩
 by_cases hm:p.2∈kp ps
 ·rw[if_pos hm];refine⟨h1,by rw[ai];omega,λf=>?_⟩
  rw[ex,<-h3];exact⟨.inl,λh=>h.elim id λe=>e▸hm⟩
 ·rw[if_neg hm];refine⟨?_,by rw[ai,ai];simp only[List.length_cons,List.length_nil];omega,λf=>?_⟩
  ·rw[List.nodup_append];refine⟨h1,by simp,λa I b B z=>hm ?_⟩
   rw[<-List.mem_singleton.mp B,<-z];exact I
  ·rw[ex,<-h3,List.mem_append,List.mem_singleton]
abbrev zD(ks rs:List Nat):List (Key×D):=(ks.zip rs).map λq=>(.inl (q.1:Int),.ref q.2)
theorem lI:∀{ks rs:List Nat}{f:Nat},f∉ks->bB (zD ks rs) (.inl (f:Int))=none
 |[],_,_,_=>rfl
 |_::_,[],_,_=>rfl
 |x::ks,r::rs,f,h=>by
  show bB ((.inl (x:Int),.ref r)::zD ks rs) _=none;unfold bB;rw[if_neg (λz=>h (by have:=Int.ofNat_inj.mp (Sum.inl.inj z);simp[this]))]
  exact lI λz=>h (.tail _ z)
theorem gD:∀{ks rs:List Nat}{f:Nat},f∈ks->ks.length=rs.length->∃j r:Nat,ks[j]? =some f/\rs[j]? =some r/\bB (zD ks rs) (.inl (f:Int))=some (.ref r)
 |x::ks,r::rs,f,h,hl=>by
  show ∃j B:Nat,(x::ks)[j]? =some f/\(r::rs)[j]? =some B/\bB ((.inl (x:Int),.ref r)::zD ks rs) _=some (.ref B);unfold bB;by_cases e:x=f
  ·subst e;exact⟨0,r,rfl,rfl,if_pos rfl⟩
  ·obtain⟨j,B,h1,J,I⟩:=gD (ks:=ks) (rs:=rs) (by
    rcases List.mem_cons.mp h with z|z
    ·exact absurd z.symm e
    ·exact z) (by simpa using hl)
   exact⟨j+1,B,h1,J,by rw[if_neg (λz=>e (Int.ofNat_inj.mp (Sum.inl.inj z))),I]⟩
 |_::_,[],_,_,hl=>by simp at hl
theorem ou{p:Key×D}(h:p∈zD ks rs):∃x∈ks,p.1=.inl (x:Int):=by obtain⟨q,B,rfl⟩:=List.mem_map.mp h;exact⟨q.1,(List.of_mem_zip B).1,rfl⟩
structure Dc(b:Nat)(st:aW)(n:Nat)(rs:List Nat)(ps:List (Nat×Nat)):Prop where
 hd:st[n]? =some (.dct (zD (kp ps) rs))
 ln:rs.length=(kp ps).length
 nd:rs.Nodup
 ab:∀r∈rs,b<=r/\r≠n
 at_:∀(j r f:Nat),rs[j]? =some r->(kp ps)[j]? =some f->st[r]? =some (.lst ((zs (Lp ps f)).map .int))
theorem Dc.gr{ps:List (Nat×Nat)}(h:Dc b st n rs ps)(g:Gr st st'):Dc b st' n rs ps:=⟨g.at h.hd,h.ln,h.nd,h.ab,λj r f a c=>g.at (h.at_ j r f a c)⟩
theorem Dc.set{ps:List (Nat×Nat)}(h:Dc b st n rs ps)(h1:m≠n)(B:m∉rs):Dc b (st.set m o) n rs ps:=
 ⟨sn h.hd h1,h.ln,h.nd,h.ab,λj r f a c=>sn (h.at_ j r f a c) λz=>B (z▸aj a)⟩
theorem Dc.get{ps:List (Nat×Nat)}(h:Dc b st n rs ps)(I:f∈kp ps):∃r∈rs,bB (zD (kp ps) rs) (.inl (f:Int))=some (.ref r)/\st[r]? =some (.lst ((zs (Lp ps f)).map .int)):=by obtain⟨j,r,h1,B,J⟩:=gD I h.ln.symm;exact⟨r,aj B,J,h.at_ j r f B h1⟩
section
variable{g:fe}{loc:Loc}{st:aW}{Q:Fl->aW->Prop}{ss:List S}{b n:Nat}{rs:List Nat}{ps:List (Nat×Nat)}
theorem pM{l:Nat}(h1:loc[i]? =some (some (.ref n)))(h2:loc[j]? =some (some (.int (f:Int))))(h3:loc[l]? =some (some (.int (v:Int))))(D:Dc b st n rs ps)(hb:b<=st.length)(hz:ps.length<1000)
  (h:∀rs' st',Dc b st' n rs' (ps++[(v,f)])->st.length<=st'.length->(∀i,i<st.length->i≠n->i∉rs->st'[i]? =st[i]?/\i∉rs')->W (execs g ss loc st') Q):W (execs g (.app (.sde (.v i) (.v j) (.lst [])) (.v l)::ss) loc st) Q:=by
 obtain⟨k1,k2,k3⟩:=dq ps;have hnl:n<st.length:=(av D.hd).1;have hzl:(zD (kp ps) rs).length<=ps.length:=by rw[List.length_map,List.length_zip];omega
 have rl:∀r∈rs,r<st.length:=λr Z=>by
  obtain⟨j,e⟩:=List.getElem?_of_mem Z;have hj:j<(kp ps).length:=by rw[<-D.ln];exact(av e).1
  exact(av (D.at_ j r _ e (ae hj))).1
 refine dW (AV (aM h1 ⟨n,_,rfl,D.hd,aM h2 (cv (az ⟨_,f,aV D.hd,rfl,by omega,λd U=>?_,λU=>?_⟩))⟩))
 ·have B:f∈kp ps:=by
   by_cases B:f∈kp ps
   ·exact B
   ·rw[lI B] at U;cases U
  obtain⟨jj,r,e1,e2,e3⟩:=gD B D.ln.symm;rw[e3] at U;cases U;have I:=D.at_ jj r f e2 e1;have Y:=aj e2;have hrl:=rl r Y;refine b_ (aV I) (aM h3 (bW (aV I) (by rw[a8];have:=gy ps f;omega) (h rs _ ⟨?_,?_,D.nd,D.ab,λj' r' f' a c=>?_⟩ (by simp) λi hi hne J=>⟨?_,J⟩)))
  ·rw[gi,if_pos B];exact sn (aV D.hd) (D.ab r Y).2
  ·rw[gi,if_pos B];exact D.ln
  ·rw[gi,if_pos B] at c;rw[pK];by_cases hj:j'=jj
   ·subst hj;rw[e2] at a;rw[e1] at c;cases a;cases c;rw[if_pos rfl,cA];exact bj (by rw[ai];omega)
   ·have hff:¬f=f':=λz=>hj (by subst z;exact((List.getElem?_inj (av e1).1 k1).mp (e1.trans c.symm)).symm)
    rw[if_neg hff,List.append_nil];exact sn (aV (D.at_ j' r' f' a c)) λz=>hj (by subst z;exact((List.getElem?_inj (av e2).1 D.nd).mp (e2.trans a.symm)).symm)
  ·have hri:r≠i:=λz=>J (by rw[<-z];exact Y)
   rw[aF hri,ao hi]
 ·have B:f∉kp ps:=λB=>by obtain⟨_,_,_,_,e3⟩:=gD B D.ln.symm;rw[e3] at U;cases U
  have hp:bM (zD (kp ps) rs) (.inl (f:Int)) (.ref st.length)=zD (kp (ps++[(v,f)])) (rs++[st.length]):=by
   rw[jB λp hp z=>?_]
   ·rw[gi,if_neg B];show _=((kp ps++[f]).zip (rs++[st.length])).map _;rw[List.zip_append D.ln.symm,List.map_append];rfl
   ·obtain⟨x,hx,e⟩:=ou hp;rw[e] at z;exact B (Int.ofNat_inj.mp (Sum.inl.inj z)▸hx)
  rw[hp]
  have hll:(Lp ps f)=[]:=by rw[List.eq_nil_iff_forall_not_mem];exact λx hx=>B ((k3 f).mpr ⟨x,gw.mp hx⟩)
  have I:((st++[O.lst []]).set n (.dct (zD (kp (ps++[(v,f)])) (rs++[st.length]))))[st.length]? =some (.lst []):=sn aI (by omega)
  refine b_ I (aM h3 (bW I (by simp) (h (rs++[st.length]) _ ⟨?_,?_,?_,λr Z=>?_,?_⟩ (by simp) λi hi hne J=>⟨?_,λz=>?_⟩)))
  ·exact sn (bj (by rw[ai];omega)) (by omega)
  ·rw[gi,if_neg B,ai,ai,D.ln];rfl
  ·rw[List.nodup_append];refine⟨D.nd,by simp,λa ha c hc=>?_⟩
   rw[List.mem_singleton.mp hc];have:=rl a ha;omega
  ·rcases List.mem_append.mp Z with Z|Z
   ·exact D.ab r Z
   ·rw[List.mem_singleton.mp Z];exact⟨hb,by omega⟩
  ·rw[gi,if_neg B];refine nb (P:=λ_ r f'=>(((st++[O.lst []]).set n _).set st.length _)[r]? =some (.lst ((zs (Lp (ps++[(v,f)]) f')).map .int))) D.ln (λj r f' a c=>?_) ?_
   ·have hm:=aj a;have hff:¬f=f':=λz=>B (z▸aj c);rw[pK,if_neg hff,List.append_nil];have:=rl r hm;exact sn (sn (aV (D.at_ j r f' a c)) (D.ab r hm).2.symm) (by omega)
   ·rw[pK,if_pos rfl,hll];exact bj (by rw[au,ai];simp)
  ·rw[aF (by omega),aF (λz=>hne z.symm),ao hi]
  ·rcases List.mem_append.mp z with z|z
   ·exact J z
   ·have:=List.mem_singleton.mp z;omega
end
theorem xn{x:O}(h:st[n]? =some o)(g:Gr (st.set n x) s):Gr st (s.set n o):=by
 obtain⟨t,rfl⟩:=g;have B:=(av h).1;refine⟨t,?_⟩;rw[bo _ _ (by rw[au];exact B),List.set_set]
 congr 1;refine List.ext_getElem? λi=>?_;by_cases e:n=i
 ·subst e;rw[aL B,h]
 ·rw[aF e]
theorem pT:∀{kv:List (Key×D)}{p:Key×D},(kv.map (·.1)).Nodup->p∈kv->bB kv p.1=some p.2
 |q::r,p,nd,h=>by
  obtain⟨h1,B⟩:=List.nodup_cons.mp nd;unfold bB;rcases List.mem_cons.mp h with rfl|h
  ·exact if_pos rfl
  ·rw[if_neg (λz=>h1 (by show q.1∈_;rw[z];exact List.mem_map.mpr ⟨p,h,rfl⟩))]
   exact pT B h
theorem ND.items(h:ND kv N):∃it:List (Nat×Nat),kv=it.map (λp=>(.inl (p.1:Int),.int (p.2:Int)))/\(it.map (·.1)).Nodup/\∀x y,(x,y)∈it↔N x=some y:=by
 have key:∀p∈kv,∃x y:Nat,p=(.inl (x:Int),.int (y:Int))/\N x=some y:=λp B=>by
  obtain⟨x,Z⟩:=h.2.2 p B;have h1:=pT h.2.1 B;rw[Z,h.1 x] at h1;cases e:N x with
  |none=>rw[e] at h1;cases h1
  |some y=>
   rw[e] at h1;exact⟨x,y,by rw[<-Z];exact Prod.ext rfl (ag h1).symm,e⟩
 obtain⟨it,e⟩:∃it:List (Nat×Nat),kv=it.map (λp=>(.inl (p.1:Int),.int (p.2:Int))):=by
  have:∀l:List (Key×D),(∀p∈l,p∈kv)->∃it:List (Nat×Nat),l=it.map (λp=>(.inl (p.1:Int),.int (p.2:Int))):=λl=>by
   induction l with
   |nil=>exact λ_=>⟨[],rfl⟩
   |cons p l ih=>
    intro hl;obtain⟨it,e⟩:=ih λq hq=>hl q (.tail _ hq);obtain⟨x,y,Y,_⟩:=key p (hl p (.head _));exact⟨(x,y)::it,by rw[List.map_cons,<-e,Y]⟩
  exact this kv λp B=>B
 refine⟨it,e,?_,λx y=>⟨λI=>?_,λI=>?_⟩⟩
 ·have:=h.2.1;rw[e,List.map_map] at this;rw[show(it.map (·.1))=it.map (·.1) from rfl];exact List.Pairwise.map _ (λa b z=>z) (List.pairwise_map.mp this|>.imp λ{a b} z q=>z (by show(Sum.inl (a.1:Int):Key)=Sum.inl (b.1:Int);rw[q]))
 ·have hk:((Sum.inl (x:Int):Key),D.int (y:Int))∈kv:=by rw[e];exact List.mem_map.mpr ⟨(x,y),I,rfl⟩
  obtain⟨x',y',e1,Y⟩:=key _ hk;have U:=Int.ofNat_inj.mp (Sum.inl.inj (Prod.mk.inj e1).1);have J:=Int.ofNat_inj.mp (D.int.inj (Prod.mk.inj e1).2);rw[U,J];exact Y
 ·have hv:=h.at I
  have:∀l:List (Nat×Nat),bB (l.map λp=>((Sum.inl (p.1:Int):Key),D.int (p.2:Int))) (.inl (x:Int))=some (.int (y:Int))->(x,y)∈l:=λl=>by
   induction l with
   |nil=>intro z;cases z
   |cons p l ih=>
    intro z;rw[List.map_cons] at z;unfold bB at z;by_cases q:(Sum.inl (p.1:Int):Key)=.inl (x:Int)
    ·rw[if_pos q] at z;have U:=Int.ofNat_inj.mp (Sum.inl.inj q);have J:=Int.ofNat_inj.mp (D.int.inj (ag z));rw[<-U,<-J];exact .head _
    ·rw[if_neg q] at z;exact .tail _ (ih z)
  exact this it (e▸hv)
noncomputable def oD:Option Nat->D
 |none=>.non
 |some s=>.int (s:Int)
def sD(p:List (Nat×Option Nat)):List D:=p.reverse.map λq=>.tup [.int (q.1:Int),oD q.2]
theorem lZ(v:Nat)(o:Option Nat)(r:List (Nat×Option Nat)):sD ((v,o)::r)=sD r++[.tup [.int (v:Int),oD o]]:=by simp[sD]
theorem ww(ks:List Nat)(r:List (Nat×Option Nat)):sD (ks.reverse.map (λx=>(x,none))++r)=sD r++((zs ks).map D.int).map λx=>.tup [x,.non]:=by simp only[sD,zs,List.reverse_append,List.map_append,<-List.map_reverse,List.reverse_reverse,List.map_map];rfl
theorem mV{E:Nat->Nat->Prop}(w:Dom.Way E l x):0∈l:=by
 induction w with
 |nil=>exact .head _
 |cons w e ih=>exact .tail _ ih
def SD(kv:List (Key×D))(S:Nat->Option (Nat×Nat)):Prop:=∀x:Nat,bB kv (.inl (x:Int))=(S x).map λp=>D.tup [.int (p.1:Int),.int (p.2:Int)]
theorem SD.put{S:Nat->Option (Nat×Nat)}(h:SD kv S)(v lo hi:Nat):SD (bM kv (.inl (v:Int)) (.tup [.int (lo:Int),.int (hi:Int)])) (Spn.put S v (lo,hi)):=λx=>by
 rw[i5];by_cases e:x=v
 ·subst e;rw[if_pos rfl,Spn.bm];rfl
 ·rw[if_neg (λz=>e (Int.ofNat_inj.mp (Sum.inl.inj z)).symm),Spn.bH e];exact h x
theorem xg{it:List (Nat×Nat)}(nd:(it.map (·.1)).Nodup)(h:∀x y,(x,y)∈it↔N x=some y)(v:Nat):(Lp (it.filter λp=>decide (p.1≠0)) v).Nodup/\∀x,x∈Lp (it.filter λp=>decide (p.1≠0)) v↔N x=some v/\x≠0:=by
 refine⟨?_,λx=>?_⟩
 ·unfold Lp;exact List.Nodup.sublist ((List.filter_sublist.trans List.filter_sublist).map _) nd
 ·rw[gw,List.mem_filter,h];simp
section
variable{k nd:Nat}{st:aW}{Q:D->aW->Prop}{Ws:List (List Nat)}
theorem wo(hd:st[nd]? =some (.dct kv))(hN:ND kv N)(R:Nr Ws N)(hn:∀x y,N x=some y->x<9)
  (h:∀S kvs m st1,Gr st st1->st1[m]? =some (.dct kvs)->SD kvs S->(∀x,Dom.be (Ed Ws) x->∃p,S x=some p)->(∀v w lo hi J hi',S v=some (lo,hi)->S w=some (J,hi')->(Dom.ca (Ed Ws) v w↔lo<=J/\J<hi))->Q (.ref m) st1):Wv (calls tab (k+1) kG [.ref nd] st) Q:=by
 obtain⟨it,rfl,ind,im⟩:=hN.items;have hnl:nd<st.length:=(av hd).1
 have il:it.length<=9:=by
  have:=Spn.wM 9 (it.map (·.1)) ind λx hx=>by obtain⟨⟨x',y⟩,Z,rfl⟩:=List.mem_map.mp hx;exact hn x' y ((im x' y).mp Z)
  rwa [List.length_map] at this
 walk_at "call0"
 refine aX (jn (pP rfl (aM rfl ⟨nd,_,λi loc s=>(∃x y z w u v,loc=[some (.ref nd),some (.ref st.length),x,y,z,w,u,v])/\Gr (st.set nd (.dcf (it.map λp=>(.inl (p.1:Int),.int (p.2:Int))))) s/\∃rs,Dc st.length s st.length rs ((it.take i).filter λp=>decide (p.1≠0)),rfl,aV hd,⟨⟨_,_,_,_,_,_,rfl⟩,?_,[],?_⟩,λi loc s hI=>?_,λi p loc s Z hI=>?_,λloc s hI=>?_⟩)))
 ·rw[bo _ _ hnl];exact .one _ _
 ·rw[bo _ _ hnl];refine⟨?_,rfl,.nil,(λr hr=>nomatch hr),λj r f a=>by simp at a⟩
  rw[show st.length=(st.set nd (.dcf (it.map λp=>(.inl (p.1:Int),.int (p.2:Int))))).length by rw[au]]
  exact aI
 ·obtain⟨_,g,_⟩:=hI;exact g.at (bj hnl)
 ·obtain⟨⟨x,y,z,w,u,v,rfl⟩,g,rs,D⟩:=hI;rw[aq] at Z;obtain⟨⟨a,b⟩,hab,rfl⟩:=Option.map_eq_some_iff.mp Z;have tk:it.take (i+1)=it.take i++[(a,b)]:=by rw[List.take_add_one,hab];rfl
  have gl:=g.le;rw[au] at gl;refine ck (ba (aM rfl (bi (sP ⟨_,rfl,λz=>?_,λz=>?_⟩))))
  ·have ha:a≠0:=λe=>by subst e;simp at z
   refine pM (v:=a) (f:=b) rfl rfl rfl D gl ?_ λrs' s' D' hl fr=>aK (a7 (aK (bA ⟨⟨_,_,_,_,_,_,rfl⟩,qF (by rw[au];omega) λi hi=>?_,rs',?_⟩)))
   ·have:=List.length_filter_le (λp:Nat×Nat=>decide (p.1≠0)) (it.take i);rw[List.length_take] at this;omega
   ·rw[au] at hi;rw[(fr i (by omega) (by omega) λhm=>by have:=(D.ab i hm).1;omega).1]
    obtain⟨t,e⟩:=g;rw[e,ao (by rw[au];exact hi)]
   ·rw[tk,List.filter_append,List.filter_cons_of_pos (by simpa using ha)]
    exact D'
  ·have ha:a=0:=by
    have:(a:Int)=0:=by simpa using z
    omega
   refine aK (a7 (aK (bA ⟨⟨_,_,_,_,_,_,rfl⟩,g,rs,?_⟩)));rw[tk,List.filter_append,List.filter_cons_of_neg (by simp[ha]),List.filter_nil,List.append_nil]
   exact D
 ·obtain⟨⟨x,y,z,w,u,v,rfl⟩,g,rs,D⟩:=hI;rw[List.length_map,List.take_length] at D;have g1:=xn hd g;have D1:=D.set (m:=nd) (o:= .dct (it.map λp=>(.inl (p.1:Int),.int (p.2:Int)))) (by omega) λhm=>by have:=(D.ab nd hm).1;omega
  obtain⟨B,hs1⟩:∃B,B=s.set nd (.dct (it.map λp=>(.inl (p.1:Int),.int (p.2:Int)))):=⟨_,rfl⟩;rw[<-hs1] at g1 D1 ⊢;clear hs1 D g;refine aX (jn (aX (cv (ak (bD (ak (bi (ak (bi (az (az (aX (bi ?_)))))))))))));have e1:(B++[O.dct []]).length=B.length+1:=by simp
  rw[e1];refine gc (λm loc s=>∃pile c L S kvs l2 l3 x,loc=[some (.ref nd),some (.ref st.length),l2,l3,some (.ref B.length),some (.ref (B.length+1)),some (.int ((c:Nat):Int)),x]/\Spn.Inv N pile c L S/\Gr B s/\s[B.length]? =some (.dct kvs)/\s[B.length+1]? =some (.lst (sD pile))/\SD kvs S/\kvs.length+m<=100/\Spn.left 9 L pile<=m) 30 (by decide) ⟨_,0,_,_,[],_,_,_,rfl,Spn.start R.zero,(Gr.one _ _).more _,aV aI,by rw[<-e1];exact aI,λ_=>rfl,by decide,by decide⟩ λm loc s hI=>?_
  obtain⟨pile,c,L,S,kvs,l2,l3,x',rfl,I,g2,hk,Z,hS,hkl,hm⟩:=hI;have lk:B.length<s.length:=(av hk).1;have lp:B.length+1<s.length:=(av Z).1;have pl:=I.len hn;refine ba (ce (ak (aM rfl (az (cN Z (bi (rc ⟨_,rfl,λz=>?_,λz=>?_⟩)))))))
  ·cases pile with
   |nil=>cases z
   |cons q r=>
    obtain⟨v,o⟩:=q;rw[lZ] at Z;refine⟨m - 1,?_,?_⟩
    ·have:0<Spn.left 9 L ((v,o)::r):=by
      cases o with
      |some s=>rw[<-Spn.gh];omega
      |none=>obtain⟨w1,⟨y,w2⟩,_⟩:=I.wai v (.head _);rw[<-Spn.jL (c:=c) (ks:=[]) (hn v y w2) w1];omega
     omega
    refine aX (ow (aM rfl ⟨_,_,_,rfl,Z,?_⟩));have g3:Gr B (s.set (B.length+1) (.lst (sD r))):=g2.set (by omega)
    have hk3:(s.set (B.length+1) (.lst (sD r)))[B.length]? =some (.dct kvs):=sn hk (by omega)
    have Y:(s.set (B.length+1) (.lst (sD r)))[B.length+1]? =some (.lst (sD r)):=bj lp;obtain⟨s3,hs3⟩:∃s3,s3=s.set (B.length+1) (.lst (sD r)):=⟨_,rfl⟩;have l3':s3.length=s.length:=by rw[hs3,au]
    rw[<-hs3] at g3 hk3 Y ⊢;clear hs3;cases o with
    |some t=>
     refine ck (ba (bx (aM rfl (bi (bJ rfl (bi (pN (k:=false) rfl ⟨_,rfl,λ_=>?_,nofun⟩)))))));refine fQ (bD (ak (bx (aM rfl (bi (bJ rfl (ak (aM rfl (az (aM rfl (bx (aM rfl (bi (bJ rfl (cM hk3 rfl (by omega) (sW (ye (yf ⟨r,c,L,_,_,_,_,_,rfl,Spn.leave I,g3.set (ac _),bj (by omega),sn Y (by omega),hS.put v t c,?_,?_⟩))))))))))))))))))
     ·have:=qd kvs (.inl (v:Int)) (.tup [.int (t:Int),.int (c:Int)]);have:=Spn.gh (n:=9) (L:=L) (v:=v) (s:=t) (r:=r);show(bM kvs (.inl (v:Int)) (.tup [.int (t:Int),.int (c:Int)])).length+(m - 1)<=100;omega
     ·have:=Spn.gh (n:=9) (L:=L) (v:=v) (s:=t) (r:=r);omega
    |none=>
     obtain⟨w1,⟨y,w2⟩,_⟩:=I.wai v (.head _);obtain⟨kn,km⟩:=xg ind im v;have klen:(Lp (it.filter λp=>decide (p.1≠0)) v).length<=9:=aB (gy _ _) (aB (List.length_filter_le _ _) il);have lE:=Spn.jL (c:=c) (ks:=Lp (it.filter λp=>decide (p.1≠0)) v) (r:=r) (hn v y w2) w1;refine ck (ba (bx (aM rfl (bi (bJ rfl (bi (pN (k:=true) rfl ⟨_,rfl,nofun,λ_=>aK (a7 ?_)⟩)))))))
     have hsl:(sD r).length<=9:=by simp only[List.length_cons] at pl;simp only[sD,List.length_map,List.length_reverse];omega
     refine dW (aM rfl (b_ Y (bD (ak (bx (aM rfl (bi (bJ rfl (ak (aM rfl (az (bW Y (by omega) ?_))))))))))))
     refine AW (m:=(c:Int)) (n:=1) rfl (bi ⟨rfl,?_⟩);have U:(s3.set (B.length+1) (.lst (sD r++[.tup [.int (v:Int),.int (c:Int)]])))[B.length+1]? =some (.lst (sD ((v,some c)::r))):=by rw[lZ];exact bj (by omega)
     have hk4:(s3.set (B.length+1) (.lst (sD r++[.tup [.int (v:Int),.int (c:Int)]])))[B.length]? =some (.dct kvs):=sn hk3 (by omega)
     have g4:Gr B (s3.set (B.length+1) (.lst (sD r++[.tup [.int (v:Int),.int (c:Int)]]))):=g3.set (by omega)
     obtain⟨s4,hs4⟩:∃s4,s4=s3.set (B.length+1) (.lst (sD r++[.tup [.int (v:Int),.int (c:Int)]])):=⟨_,rfl⟩;rw[<-hs4] at U hk4 g4 ⊢;clear hs4;have lp4:=(av U).1;have D4:=D1.gr g4;refine xP (aM rfl ⟨_,_,rfl,U,b5 (yE (aM rfl ⟨_,_,rfl,D4.hd,bx (aM rfl (bi (bJ rfl (cv (az ⟨_,_,aV D4.hd,rfl,?_⟩)))))⟩))⟩)
     have key:∃q,(bB (zD (kp (it.filter λp=>decide (p.1≠0))) rs) (.inl (v:Int))).getD (.ref s4.length)=.ref q/\(s4++[O.lst []])[q]? =some (.lst ((zs (Lp (it.filter λp=>decide (p.1≠0)) v)).map .int)):=by
      by_cases hv:v∈kp (it.filter λp=>decide (p.1≠0))
      ·obtain⟨q,_,e2,e3⟩:=D4.get hv;exact⟨q,by rw[e2];rfl,aV e3⟩
      ·refine⟨s4.length,by rw[lI hv];rfl,?_⟩
       have:Lp (it.filter λp=>decide (p.1≠0)) v=[]:=by rw[List.eq_nil_iff_forall_not_mem];exact λx hx=>hv (((dq _).2.2 v).mpr ⟨x,gw.mp hx⟩)
       rw[this];exact aI
     obtain⟨q,eq,hq⟩:=key;rw[eq];refine⟨_,rfl,yC (F:=λx=>.tup [x,.non]) hq (by rw[a8];omega) (λx hx st1 gx=>d_ (bD (ak (aM rfl (ak (bi (az ⟨rfl,.refl _⟩))))))) λs5 g5=>⟨_,_,_,rfl,aV (g5.at (aV U)),aI,?_,?_⟩⟩
     ·rw[List.length_map,a8,lZ,ai];simp only[List.length_cons,List.length_nil];omega
     ·have l5:=g5.le;rw[ai] at l5;rw[<-ww];refine aK (bA ⟨_,c+1,Spn.put L v c,S,kvs,_,_,_,rfl,Spn.enter I kn km,?_,?_,?_,hS,?_,?_⟩)
      ·exact(((g4.trans (.one _ _)).trans g5).more _).set (by omega)
      ·exact sn (aV (g5.at (aV hk4))) (by omega)
      ·exact bj (by rw[ai];omega)
      ·omega
      ·omega
  ·cases pile with
   |cons q r=>exact absurd z (by simp[sD])
   |nil=>obtain⟨f1,f2⟩:=Spn.fin I;refine bp (aM rfl (bn (h S kvs _ s (g1.trans g2) hk hS (λx hx=>f1 x ((R.chain x 0 hx).mpr λl w=>mV w)) λv w lo hi J hi' e1 e2=>?_)));obtain⟨y,hy⟩:=I.dom w J (I.cls w J hi' e2).1;rw[<-R.chain w v (R.dom w y hy)];exact f2 v w lo hi J hi' e1 e2
theorem yU{S:Nat->Option (Nat×Nat)}(Y:st[m]? =some (.dct kvs))(hS:SD kvs S)(ha:∃p,S a=some p)(hb:∃p,S b=some p)(U:∀v w lo hi B I,S v=some (lo,hi)->S w=some (B,I)->(Dom.ca (Ed Ws) v w↔lo<=B/\B<hi))
  (h:∀t:Bool,(t=true↔Dom.ca (Ed Ws) a b)->Q (.bl t) st):Wv (calls tab (k+1) mm [.ref m,.int (a:Int),.int (b:Int)] st) Q:=by
 obtain⟨⟨lo,hi⟩,ea⟩:=ha;obtain⟨⟨B,I⟩,eb⟩:=hb;have J:=hS a;have Z:=hS b;rw[ea] at J;rw[eb] at Z;have U:=U a b lo hi B I ea eb
 walk_at "call0"
 refine bp (w_and (ba (aM rfl (aM rfl (sU Y rfl ⟨_,rfl,λ_=>?_,λz=>by rw[J] at z;cases z⟩)))))
 refine vZ (bx (bx (aM rfl (aM rfl (dL Y J (bi (bJ rfl (bx (bx (aM rfl (aM rfl (dL Y Z (bi (bJ rfl (CK ⟨_,rfl,λz=>?_,λz=>?_⟩)))))))))))))))
 ·have z:(lo:Int)<=B:=of_decide_eq_true z;refine bx (bx (aM rfl (aM rfl (dL Y J (bi (bJ rfl (w_lt (bn (h _ ?_)))))))));rw[U,decide_eq_true_iff];omega
 ·have z:¬(lo:Int)<=B:=of_decide_eq_false z;refine bn (h _ ?_);rw[U];exact⟨nofun,λq=>by omega⟩
end
abbrev ff(G:List En)(v:Nat):List Nat:=wf (G.map En.fol) v
abbrev wv(G:List En)(v:Nat):List Nat:=wf (G.map wy) v
abbrev EG(G:List En):Nat->Nat->Prop:=Ed (G.map wy)
theorem fh{G:List En}{f:En->List Nat}:wf (G.map f) v=(G[v]?).elim [] f:=by unfold wf;rw[aq];cases G[v]?<;>rfl
theorem fM{G:List En}:EG G a b↔b∈ff G a:=by
 show b∈wf (G.map wy) a↔b∈wf (G.map En.fol) a;rw[fh,fh];cases G[a]? with
 |none=>exact Iff.rfl
 |some e=>exact yq
theorem qM{G:List En}(B:dI G.length G)(h:f∈ff G v):1<=f/\f<G.length:=by
 have h:f∈wf (G.map En.fol) v:=h;rw[fh] at h;cases q:G[v]? with
 |none=>rw[q] at h;cases h
 |some e=>rw[q] at h;exact B e (aj q) f h
theorem pL(G:List En)(v:Nat):(wv G v).length<=2:=by
 show(wf (G.map wy) v).length<=2;rw[fh];cases G[v]? with
 |none=>simp
 |some e=>
  show(wy e).length<=2
  have two:∀x y:Nat,(if x=y then [x] else if x<y then [x,y] else [y,x]).length<=2:=λx y=>by
   split
   ·simp
   ·split<;>simp
  cases e with
  |bk=>simp[wy,En.fol]
  |jp x=>simp[wy,En.fol]
  |br x y=>exact two x y
  |rk x y=>exact two x y
inductive Re(ways:Nat->List Nat)(X:Option Nat)(s:Nat):Nat->Prop where
 |refl:Re ways X s s
 |next {y z:Nat}(c:Re ways X s y)(h:z∈ways y)(hx:some z≠X):Re ways X s z
theorem Re.lt{G:List En}(B:dI G.length G){s:Nat}(hs:s<G.length)(h:Re (ff G) X s y):y<G.length:=by
 cases h with
 |refl=>exact hs
 |next c h _=>exact(qM B h).2
theorem Re.cons{ways:Nat->List Nat}{s:Nat}(h:Re ways X s y)(hs:s∈ways x)(B:some s≠X):Re ways X x y:=by
 induction h with
 |refl=>exact .next .refl hs B
 |next c h hx' ih=>exact .next ih h hx'
theorem gL{G:List En}:Re (ff G) none 0 v↔Dom.be (EG G) v:=by
 constructor
 ·intro h
  induction h with
  |refl=>exact⟨_,.nil⟩
  |next c h _ ih=>obtain⟨l,w⟩:=ih;exact⟨_,.cons w (fM.mpr h)⟩
 ·rintro⟨l,w⟩
  induction w with
  |nil=>exact .refl
  |cons w e ih=>exact .next ih (fM.mp e) nofun
theorem zf{G:List En}(I:a≠0):Re (ff G) (some a) 0 v↔∃l,Dom.Way (EG G) l v/\a∉l:=by
 constructor
 ·intro h
  induction h with
  |refl=>exact⟨[0],.nil,λz=>I (List.mem_singleton.mp z)⟩
  |next c h hx ih=>
   obtain⟨l,w,B⟩:=ih
   exact⟨_,.cons w (fM.mpr h),λz=>by
    rcases List.mem_cons.mp z with z|z
    ·exact hx (by rw[z])
    ·exact B z⟩
 ·rintro⟨l,w,B⟩
  induction w with
  |nil=>exact .refl
  |cons w e ih=>exact .next (ih λz=>B (.tail _ z)) (fM.mp e) λz=>B (by rw[ag z];exact .head _)
theorem nh{G:List En}:Dom.ca (EG G) a b↔a=0∨a=b∨¬Re (ff G) (some a) 0 b:=by
 by_cases ha:a=0
 ·subst ha;exact⟨λ_=>.inl rfl,λ_ l w=>mV w⟩
 rw[zf ha];constructor
 ·exact λh=>.inr (.inr λ⟨l,w,hl⟩=>hl (h l w))
 ·rintro(h|rfl|h)
  ·exact absurd h ha
  ·exact Dom.oR
  ·intro l w;by_cases z:a∈l
   ·exact z
   ·exact absurd ⟨l,w,z⟩ h
noncomputable def bc(G:List En):List Nat:=al (Dom.be (EG G)) G.length
theorem cI{G:List En}(B:0<G.length)(I:dI G.length G)(h:Dom.be (EG G) v):v<G.length:=(gL.mpr h).lt I B
theorem b8{G:List En}(B:0<G.length)(I:dI G.length G):v∈bc G↔Dom.be (EG G) v:=by unfold bc;rw[iH];exact⟨λh=>h.2,λh=>⟨cI B I h,h⟩⟩
theorem jV{G:List En}(I:0<G.length)(J:dI G.length G)(nd:F.Nodup)(h:∀y,y∈F↔Dom.be (EG G) y):Tab23.cJ (zs F)=zs (bc G):=oH nd h λv B=>cI I J B
noncomputable def xD:Option Nat->D
 |none=>.non
 |some h=>.int (h:Int)
theorem Dr{z:Nat}(X:Option Nat):cj 60 st (.int (z:Int)) (xD X)=some (decide (some z=X)):=by
 cases X with
 |none=>simp[xD,cj,shape,kz]
 |some h=>
  have:cj 60 st (.int (z:Int)) (.int (h:Int))=some (decide ((z:Int)=h)):=by simp[cj,shape,kz];rfl
  show cj 60 st (.int (z:Int)) (.int (h:Int))=_;rw[this];congr 1;by_cases e:z=h
  ·subst e;simp
  ·have e':¬(z:Int)=h:=by omega
   simp[e,e']
section
variable{k r:Nat}{st:aW}{Q:D->aW->Prop}{G:List En}
theorem wu(hg:G.length<=9)(hf:d8 st r G)(h:∀m st1,Gr st st1->bS st1 m (G.map En.fol)->Q (.ref m) st1):Wv (calls tab (k+2) mw [.ref r] st) Q:=by
 obtain⟨kd,kk,bs,h1,h3,h4⟩:=hf;have hbl:=h4.1
 walk_at "call0"
 refine aX (cv (az (dg (bz (aM rfl (xq (aV h1) 4 rfl ⟨_,rfl,?_⟩))))));refine cw (L:=bs.map .ref) (ac _) (λi loc s=>(∃x y,loc=[some (.ref r),some (.ref st.length),x,y])/\Gr st s/\∃rs:List Nat,s[st.length]? =some (.lst (rs.map .ref))/\rs.length=i/\(∀r∈rs,r≠st.length)/\∀(j r:Nat)(ws:List Nat),rs[j]? =some r->((G.take i).map En.fol)[j]? =some ws->s[r]? =some (.lst ((zs ws).map .int))) ⟨⟨_,_,rfl⟩,.one _ _,[],aI,rfl,(λr U=>nomatch U),λj r ws a=>by simp at a⟩ (λ_ _ _ _=>rfl) (λi z loc s hz Y=>?_) λloc s Y=>?_
 ·obtain⟨⟨x,y,rfl⟩,g,rs,r1,r2,r3,r4⟩:=Y;rw[aq] at hz;obtain⟨b,hb,rfl⟩:=Option.map_eq_some_iff.mp hz;have hi:i<G.length:=by rw[<-hbl];exact(av hb).1
  have hp:G[i]? =some G[i]:=ae hi;obtain⟨n,e1,e2⟩:=(h4.2 i b _ hb hp).ki (Af g);obtain⟨e,he⟩:∃e,e=G[i]:=⟨_,rfl⟩;rw[<-he] at e2 hp;have tk:(G.take (i+1)).map En.fol=(G.take i).map En.fol++[e.fol]:=by rw[List.take_add_one,hp,List.map_append];rfl
  have sl:st.length<s.length:=(av r1).1
  have fin:∀{ss:List S}{ex:Ex}{K:Fl->aW->Prop},W (run (calls tab (k+1)) ex [some (.ref r),some (.ref st.length),some (.ref b),some e.tl] s) (λd I=>∃q,d=.ref q/\Gr s I/\s.length<=q/\I[q]? =some (.lst ((zs e.fol).map .int)))->(∀B,(∃x y,[some (.ref r),some (.ref st.length),some (.ref b),some e.tl]=[some (.ref r),some (.ref st.length),x,y])/\Gr st B/\(∃rs:List Nat,B[st.length]? =some (.lst (rs.map .ref))/\rs.length=i+1/\(∀r∈rs,r≠st.length)/\∀(j r:Nat)(ws:List Nat),rs[j]? =some r->((G.take (i+1)).map En.fol)[j]? =some ws->B[r]? =some (.lst ((zs ws).map .int)))->W (execs (calls tab (k+1)) ss [some (.ref r),some (.ref st.length),some (.ref b),some e.tl] B) K)->W (execs (calls tab (k+1)) (.app (.v 1) ex::ss) [some (.ref r),some (.ref st.length),some (.ref b),some e.tl] s) K:=λhq hk=>by
   refine dW (aM rfl (b_ r1 (hq.mono λd I hp=>?_)));obtain⟨q,rfl,g1,hq1,hq2⟩:=hp;refine bW (g1.at r1) (by rw[List.length_map];omega) (hk _ ⟨⟨_,_,rfl⟩,(g.trans g1).set (ac _),rs++[q],by rw[List.map_append];exact bj (by have:=g1.le;omega),by simp[r2],λr U=>?_,?_⟩)
   ·rcases List.mem_append.mp U with U|U
    ·exact r3 r U
    ·rw[List.mem_singleton.mp U];omega
   ·rw[tk];exact nb (P:=λ_ r ws=>(I.set st.length _)[r]? =some (.lst ((zs ws).map .int))) (by simp[r2];omega) (λj r ws a c=>sn (g1.at (r4 j r ws a c)) (r3 r (aj a)).symm) (sn hq2 (by omega))
  refine aX (xZ (e:=e) (bz (aM rfl (B3 e1 2 rfl ⟨n,rfl,e2,?_⟩))));have J:∀{a b:Str},(a==b)=true->cj 60 s (.str a) (.str b)=some true:=λz=>by rw[eq_str,z]
  have Z:∀{a b:Str},(a==b)=false->cj 60 s (.str a) (.str b)=some false:=λz=>by rw[eq_str,z]
  cases e with
  |jp a=>
   refine ck (ba (bx (aM rfl (bi (bJ rfl (bi (w_eq (J (by decide+kernel)) ⟨_,rfl,λ_=>?_,nofun⟩)))))))
   exact fin (cv (ak (bx (bx (aM rfl (bi (bJ rfl (bi (bJ rfl (az ⟨_,rfl,.one _ _,ac _,aI⟩)))))))))) λB q=>aK (a7 (aK (bA q)))
  |br a b'=>
   refine ck (ba (bx (aM rfl (bi (bJ rfl (bi (w_eq (Z (by decide+kernel)) ⟨_,rfl,nofun,λ_=>?_⟩)))))))
   refine ck (ba (bx (aM rfl (bi (bJ rfl (bi (w_eq (J (by decide+kernel)) ⟨_,rfl,λ_=>?_,nofun⟩)))))))
   refine fin (cv (ak (bx (bx (aM rfl (bi (bJ rfl (bi (bJ rfl ?_))))))))) λB q=>aK (a7 (aK (a7 (aK (bA q)))));exact ak (bx (bx (aM rfl (bi (bJ rfl (bi (bJ rfl (az ⟨_,rfl,.one _ _,ac _,aI⟩))))))))
  |rk a b'=>
   refine ck (ba (bx (aM rfl (bi (bJ rfl (bi (w_eq (Z (by decide+kernel)) ⟨_,rfl,nofun,λ_=>?_⟩)))))))
   refine ck (ba (bx (aM rfl (bi (bJ rfl (bi (w_eq (Z (by decide+kernel)) ⟨_,rfl,nofun,λ_=>?_⟩)))))))
   refine ck (ba (bx (aM rfl (bi (bJ rfl (bi (w_eq (J (by decide+kernel)) ⟨_,rfl,λ_=>?_,nofun⟩)))))))
   refine fin (bE (cv (ak (bx (bx (aM rfl (bi (bJ rfl (bi (bJ rfl (az ?_))))))))))) λB q=>aK (a7 (aK (a7 (aK (a7 (aK (bA q)))))));refine b5 (bx (aM rfl (bi (bJ rfl ⟨_,rfl,?_⟩))));refine bN (L:=[.tup [.str "zero",eg b']]) (by show(1:Nat)<=1000000;decide) (ac _) (λi acc I=>I=s++[.lst [.int (a:Int)]]/\acc=[D.int (b':Int)].take i) ⟨rfl,rfl⟩ (λ_ _ _ _=>rfl) (λj x acc I hx Y=>?_) λacc I Y=>?_
   ·obtain⟨rfl,rfl⟩:=Y
    match j,hx with
    |0,hx=>cases hx;exact i0 (bx (aM rfl (bi (bJ rfl ⟨rfl,rfl⟩))))
    |j+1,hx=>simp at hx
   ·obtain⟨rfl,rfl⟩:=Y;exact sX (aV aI) aI (by show(2:Nat)<=1000000;decide) ⟨_,rfl,((Gr.one _ _).more _).more _,by simp,aI⟩
  |bk=>
   refine ck (ba (bx (aM rfl (bi (bJ rfl (bi (w_eq (Z (by decide+kernel)) ⟨_,rfl,nofun,λ_=>?_⟩)))))))
   refine ck (ba (bx (aM rfl (bi (bJ rfl (bi (w_eq (Z (by decide+kernel)) ⟨_,rfl,nofun,λ_=>?_⟩)))))))
   refine ck (ba (bx (aM rfl (bi (bJ rfl (bi (w_eq (Z (by decide+kernel)) ⟨_,rfl,nofun,λ_=>?_⟩)))))))
   exact fin (cv (az ⟨_,rfl,.one _ _,ac _,aI⟩)) λB q=>aK (a7 (aK (a7 (aK (a7 (aK (bA q)))))))
 ·obtain⟨⟨x,y,rfl⟩,g,rs,r1,r2,r3,r4⟩:=Y;rw[List.length_map,hbl] at r2 r4;rw[List.take_length] at r4;exact a7 (bp (aM rfl (bn (h _ _ g ⟨rs,r1,by simp[r2],r4⟩))))
theorem jy{s en:Nat}(hg:G.length<=9)(hfit:dI G.length G)(hs:s<G.length)(he:bS st en (G.map En.fol))
  (h:∀F m st1,Gr st st1->F.Nodup->(∀y,y∈F↔Re (ff G) X s y)->(∀y∈F,y<G.length)->st1[m]? =some (.lst ((zs F).map .int))->Q (.ref m) st1):Wv (calls tab (k+1) nO [.ref en,.int (s:Int),xD X] st) Q:=by
 obtain⟨rs,he1,he2,he3⟩:=he;rw[List.length_map] at he2
 walk_at "call0"
 refine aX (cv (ak (aM rfl (az (aX (bi ?_))))));refine gc (λm loc st'=>∃F i x,loc=[some (.ref en),some (.int (s:Int)),some (xD X),some (.ref st.length),some (.int ((i:Nat):Int)),x]/\Gr st st'/\st'[st.length]? =some (.lst ((zs F).map .int))/\F.Nodup/\s∈F/\(∀y∈F,Re (ff G) X s y)/\(∀(j y:Nat),j<i->F[j]? =some y->∀z∈ff G y,some z≠X->z∈F)/\i+m=10/\i<=F.length) 10 (by decide) ⟨[s],0,_,rfl,.one _ _,aI,by simp,.head _,λy hy=>by rw[List.mem_singleton.mp hy];exact .refl,λj y hj=>by omega,rfl,by simp⟩ λm loc st' hI=>?_
 obtain⟨F,i,x,rfl,g,hF,nd,hsF,hR,hcl,him,hiF⟩:=hI;have lt:∀{F:List Nat},(∀y∈F,Re (ff G) X s y)->∀y∈F,y<G.length:=λhR y hy=>(hR y hy).lt hfit hs;have fl:=Spn.wM _ F nd (lt hR);refine ba (aM rfl (ce (ak (aM rfl (az (cN hF (w_lt ⟨_,rfl,λz=>?_,λz=>?_⟩)))))))
 ·have z:(i:Int)<(((zs F).map D.int).length:Nat):=of_decide_eq_true z;rw[a8] at z;have hi:i<F.length:=by omega
  obtain⟨y,hy⟩:∃y,F[i]? =some y:=⟨_,ae hi⟩;have hyl:=lt hR y (aj hy);have hG:G[y]? =some G[y]:=ae hyl;have hrs:rs[y]? =some (rs[y]'(by omega)):=ae (by omega)
  have hat:=he3 y _ _ hrs (by rw[aq,hG];rfl)
  have hfy:ff G y=G[y].fol:=by show wf _ y=_;rw[fh,hG];rfl
  rw[<-hfy] at hat;refine⟨m - 1,by omega,dg (bx (aM rfl (bx (aM rfl (aM rfl (db hF (cB (cV hy)) (db (g.at he1) (cB (by rw[aq,hrs];rfl)) ⟨_,rfl,?_⟩)))))))⟩
  have hL:bF (.at (rs[y]'(by omega))) st'=((zs (ff G y)).map D.int).length:=by simp only[bF,g.at hat]
  refine cw (L:=(zs (ff G y)).map .int) (by rw[hL];exact ac _) (λj loc s2=>(∃x,loc=[some (.ref en),some (.int (s:Int)),some (xD X),some (.ref st.length),some (.int (i:Int)),x])/\Gr st s2/\∃E,s2[st.length]? =some (.lst ((zs (F++E)).map .int))/\(F++E).Nodup/\(∀y∈F++E,Re (ff G) X s y)/\∀z∈(ff G y).take j,some z≠X->z∈F++E) ⟨⟨_,rfl⟩,g,[],by rw[List.append_nil];exact hF,by rw[List.append_nil];exact nd,by rw[List.append_nil];exact hR,λz I=>by simp at I⟩ (λj loc s2 hI=>by obtain⟨_,g2,_⟩:=hI;simp only[c9,g2.at hat]) (λj z loc s2 I hI=>?_) λloc s2 hI=>?_
  ·obtain⟨⟨x,rfl⟩,g2,E,hE,U,Z,Y⟩:=hI;obtain⟨f,hf,rfl⟩:=dJ I;have tk:(ff G y).take (j+1)=(ff G y).take j++[f]:=by rw[List.take_add_one,hf];rfl
   have more:(some f≠X->f∈F++E)->∀z∈(ff G y).take (j+1),some z≠X->z∈F++E:=λq z I J=>by
    rw[tk] at I;rcases List.mem_append.mp I with I|I
    ·exact Y z I J
    ·rw[List.mem_singleton.mp I] at J ⊢;exact q J
   have skip:(some f≠X->f∈F++E)->W (execs (calls tab k) [] [some (.ref en),some (.int (s:Int)),some (xD X),some (.ref st.length),some (.int (i:Int)),some (.int (f:Int))] s2) (Kn (calls tab k) [] (Kf (λloc s2=>(∃x,loc=[some (.ref en),some (.int (s:Int)),some (xD X),some (.ref st.length),some (.int (i:Int)),x])/\Gr st s2/\∃E,s2[st.length]? =some (.lst ((zs (F++E)).map .int))/\(F++E).Nodup/\(∀y∈F++E,Re (ff G) X s y)/\∀z∈(ff G y).take (j+1),some z≠X->z∈F++E) (Kn (calls tab k) [.set 4 (.bin .add (.v 4) (.c (.int (1))))] (Kf (λloc st'=>∃F i x,loc=[some (.ref en),some (.int (s:Int)),some (xD X),some (.ref st.length),some (.int ((i:Nat):Int)),x]/\Gr st st'/\st'[st.length]? =some (.lst ((zs F).map .int))/\F.Nodup/\s∈F/\(∀y∈F,Re (ff G) X s y)/\(∀(j y:Nat),j<i->F[j]? =some y->∀z∈ff G y,some z≠X->z∈F)/\i+(m - 1)=10/\i<=F.length) (Kn (calls tab k) [.ret (.v 3)] (Kr Q)))))):=λq=>
    aK (a7 (aK (bA ⟨⟨_,rfl⟩,g2,E,hE,U,Z,more q⟩)))
   refine ck (w_and (ba (aM rfl (aM rfl (kB (Dr X) ⟨_,rfl,λz=>?_,λz=>?_⟩)))))
   ·have J:some f≠X:=by simpa using z
    refine ba (aM rfl (aM rfl (jl hE (gu _) ⟨_,rfl,λz=>?_,λz=>?_⟩)))
    ·have hfE:f∉F++E:=by simpa using z
     have fl2:=Spn.wM _ (F++E) U (lt Z);refine dW (aM rfl (b_ hE (aM rfl (bW hE (by rw[a8];omega) (aK (a7 (aK (bA ⟨⟨_,rfl⟩,g2.set (ac _),E++[f],?_,?_,λy' B=>?_,λz I J=>?_⟩))))))))
     ·rw[<-List.append_assoc,cA (F++E)];exact bj (av hE).1
     ·rw[<-List.append_assoc,List.nodup_append];refine⟨U,by simp,λa ha b hb=>?_⟩
      rw[List.mem_singleton.mp hb];exact λq=>hfE (q▸ha)
     ·rw[<-List.append_assoc] at B;rcases List.mem_append.mp B with B|B
      ·exact Z y' B
      ·rw[List.mem_singleton.mp B];exact .next (hR y (aj hy)) (aj hf) J
     ·rw[<-List.append_assoc];rw[tk] at I;rcases List.mem_append.mp I with I|I
      ·exact aJ _ (Y z I J)
      ·exact aS _ I
    ·exact skip λ_=>by simpa[-List.mem_append] using z
   ·exact⟨_,rfl,nofun,λ_=>skip λq=>absurd (by simpa using z) q⟩
  ·obtain⟨⟨x,rfl⟩,g2,E,hE,U,Z,Y⟩:=hI;rw[a8,List.take_length] at Y;refine a7 (aX (bE (aM rfl (bi (w_add (aK (bA ⟨F++E,i+1,_,rfl,g2,hE,U,aJ _ hsF,Z,λj y' hj B u hu J=>?_,by omega,by rw[ai];omega⟩)))))))
   by_cases e:j=i
   ·subst e;rw[ao hi,hy] at B;cases B;exact Y u hu J
   ·rw[ao (by omega)] at B
    exact aJ _ (hcl j y' (by omega) B u hu J)
 ·have z:¬(i:Int)<(((zs F).map D.int).length:Nat):=of_decide_eq_false z;rw[a8] at z;refine bp (aM rfl (bn (h F _ _ g nd (λy=>⟨hR y,λa=>?_⟩) (lt hR) hF)))
  induction a with
  |refl=>exact hsF
  |next c I J ih=>
   obtain⟨j,hj⟩:=List.getElem?_of_mem ih;exact hcl j _ (by have:=(av hj).1;omega) hj _ I J
theorem tX{en:Nat}(J:0<G.length/\G.length<=9)(B:dI G.length G)(he:bS st en (G.map En.fol))
  (h:∀(t:Bool) st1,Gr st st1->(t=true↔Dom.be (EG G) b/\Dom.ca (EG G) a b)->Q (.bl t) st1):Wv (calls tab (k+2) mo [.ref en,.int (a:Int),.int (b:Int)] st) Q:=by
 walk_at "call0"
 refine ck (ba (aM rfl (bY (ak (aM rfl (ak (bi (ak (bi (az (jy (s:=0) (X:=none) J.2 B J.1 he λF m I Y nd hm _ hF=>?_)))))))))));refine jl hF (gu F) ⟨_,rfl,λz=>?_,λz=>?_⟩
 ·have U:b∉F:=by simpa using z
  exact bp (bi (lc (bn (h _ _ Y ⟨nofun,λq=>absurd ((hm b).mpr (gL.mpr q.1)) U⟩))))
 have U:Dom.be (EG G) b:=gL.mp ((hm b).mp (by simpa using z))
 have e0:∀(x y:Nat),cj 60 I (.int (x:Int)) (.int (y:Int))=some (decide (x=y)):=λx y=>by
  have:cj 60 I (.int (x:Int)) (.int (y:Int))=some (decide ((x:Int)=y)):=by simp[cj,shape,kz];rfl
  rw[this];congr 1;exact decide_eq_decide.mpr Int.ofNat_inj
 have hin:eY I (.int (a:Int)) [.int 0,.int (b:Int)]=some (decide (a=0∨a=b)):=by have h1:=e0 0 a;have h2:=e0 b a;have h1:cj 60 I (.int 0) (.int (a:Int))=some (decide (0=a)):=h1;simp only[eY,h1,h2];congr 1;by_cases q1:a=0<;>by_cases q2:a=b<;>simp[q1,q2,eq_comm]
 have wi:∀{P:D->aW->Prop},P (.bl (decide (a=0∨a=b))) I->W (bK .In (.int (a:Int)) (.tup [.int 0,.int (b:Int)]) I) P:=λq=>by simp only[bK,bG,hin];exact q
 refine aK (a7 (bp (w_or (ba (aM rfl (bD (ak (bi (ak (aM rfl (az (wi ⟨_,rfl,λz=>?_,λz=>?_⟩))))))))))))
 ·have z:a=0∨a=b:=of_decide_eq_true z;refine bn (h _ _ Y ⟨λ_=>⟨U,nh.mpr (z.imp id .inl)⟩,λ_=>rfl⟩)
 ·have z:¬(a=0∨a=b):=of_decide_eq_false z;refine ba (aM rfl (bY (ak (aM rfl (ak (bi (ak (aM rfl (az (jy (s:=0) (X:=some a) J.2 B J.1 (he.gr Y) λF2 m2 s2 g2 nd2 Z _ hF2=>?_))))))))));refine jl hF2 (gu F2) (bn (h _ _ (Y.trans g2) ?_));rw[Bool.not_eq_true',decide_eq_false_iff_not,Z,nh];exact⟨λq=>⟨U,.inr (.inr q)⟩,λq=>(q.2.resolve_left λw=>z (.inl w)).resolve_left λw=>z (.inr w)⟩
end
section
variable{k r:Nat}{st:aW}{Q:D->aW->Prop}{G:List En}
theorem xN(B:dI G.length G):∀v f,f∈wf (G.map wy) v->f<(G.map wy).length:=λv f I=>by rw[List.length_map];exact(qM B (fM.mp I)).2
theorem qJ(U:G.length<=9)(B:dI G.length G):∀e∈G,∀a∈e.fol,a<10:=λe I a J=>by have:=(B e I a J).2;omega
theorem rE(J:0<G.length/\G.length<=9)(B:dI G.length G)(Z:d8 st r G)
  (h:∀m st1,Gr st st1->st.length<=m->st1[m]? =some (.lst ((zs (bc G)).map .int))->Q (.ref m) st1):Wv (calls tab (k+4) si [.ref r] st) Q:=by
 have U:=Z;obtain⟨kd,kk,bs,h1,h3,h4⟩:=Z;have Y:=h4.1;have hn:0<(G.map wy).length/\(G.map wy).length<=9:=by rw[List.length_map];exact J
 walk_at "call0"
 refine ck (ba (ce (ak (bz (aM rfl (xq h1 4 rfl (az (sQ (bi (mX ⟨_,rfl,λz=>?_,λ_=>aK (a7 ?_)⟩))))))))))
 ·have z:=of_decide_eq_true z;rw[List.length_map,Y] at z;omega
 refine bp (ce (ak (bY (ak (bY (ak (aM rfl (az (tR J.2 (qJ J.2 B) U λw s2 g2 hw2 hW=>?_)))))))));refine ak (bi (ak (jn (az (tY (hW.gr (.one _ _)) hn (xN B) (pL G) aI λO o s4 b4 I hO ho1 ho=>az (gF ho (by simp[zs];omega) ?_))))))
 have g4:Gr s2 s4:=b4.gr2 (.one _ _) (ac _);rw[jV J.1 B (sI I) λv=>(cT I).symm];exact bn (h _ _ ((g2.trans g4).more _) (g2.trans g4).le aI)
noncomputable def oj(G:List En)(l:List Nat):List (Nat×Nat):=l.flatMap λv=>(wv G v).map λf=>(v,f)
theorem fR:(v,f)∈oj G l↔v∈l/\EG G v f:=by
 unfold oj;rw[List.mem_flatMap];constructor
 ·rintro⟨x,I,h⟩;obtain⟨y,B,e⟩:=List.mem_map.mp h;cases e;exact⟨I,B⟩
 ·exact λ⟨h1,h2⟩=>⟨v,h1,List.mem_map.mpr ⟨f,h2,rfl⟩⟩
theorem i8:∀l:List Nat,(oj G l).length<=2*l.length
 |[]=>ac _
 |v::l=>by have:=i8 l;have:=pL G v;unfold oj at*;rw[List.flatMap_cons,ai,List.length_map,List.length_cons];omega
theorem sR{e1 e2:Ex}{x0:D}(hg:G.length<=9)
  (h1:∀P:D->aW->Prop,(∀m s,Gr (st++[.dct []]) s->st.length<m->s[m]? =some (.lst ((zs (bc G)).map .int))->P (.ref m) s)->W (run g e1 [some x0,some (.ref st.length),none,none] (st++[.dct []])) P)
  (h2:∀v∈bc G,∀(y:Option D) s (P:D->aW->Prop),Gr st s->(∀m s',Gr s s'->s.length<=m->s'[m]? =some (.lst ((zs (wv G v)).map .int))->P (.ref m) s')->W (run g e2 [some x0,some (.ref st.length),some (.int (v:Int)),y] s) P)
  (h:∀rs st1,Gr st st1->Dc st.length st1 st.length rs (oj G (bc G))->Q (.ref st.length) st1):W (execs g [.set 1 .emp,.for_ 2 false e1 [.for_ 3 false e2 [.app (.sde (.v 1) (.v 3) (.lst [])) (.v 2)]],.ret (.v 1)] [some x0,none,none,none] st) (Kr Q):=by
 have hl:(bc G).length<=9:=aB (gv _ _) hg;refine aX (jn (dg (h1 _ λZ s1 g1 hm1 Y=>⟨_,rfl,?_⟩)));have hL:bF (.at Z) s1=((zs (bc G)).map D.int).length:=by simp only[bF,Y]
 refine cw (L:=(zs (bc G)).map .int) (by rw[hL];exact ac _) (λi loc s=>(∃x y,loc=[some x0,some (.ref st.length),x,y])/\Gr st s/\s[Z]? =some (.lst ((zs (bc G)).map .int))/\∃rs,Z∉rs/\Dc st.length s st.length rs (oj G ((bc G).take i))) ⟨⟨_,_,rfl⟩,(Gr.one _ _).trans g1,Y,[],by simp,⟨g1.at aI,rfl,.nil,(λr hr=>nomatch hr),λj r f a=>by simp at a⟩⟩ (λi loc s I=>by obtain⟨_,_,e,_⟩:=I;simp only[c9,e]) (λi z loc s hz I=>?_) λloc s I=>?_
 ·obtain⟨⟨x,y,rfl⟩,gs,hm,rs,hmr,DC⟩:=I;obtain⟨v,hv,rfl⟩:=dJ hz;have hvm:=aj hv
  have tk:oj G ((bc G).take (i+1))=oj G ((bc G).take i)++(wv G v).map λf=>(v,f):=by rw[List.take_add_one,hv];unfold oj;rw[List.flatMap_append];simp
  have rl:∀r∈rs,r<s.length:=λr hr=>by
   obtain⟨j,e⟩:=List.getElem?_of_mem hr;have hj:j<(kp (oj G ((bc G).take i))).length:=by rw[<-DC.ln];exact(av e).1
   exact(av (DC.at_ j r _ e (ae hj))).1
  refine dg (h2 v hvm _ _ _ gs λm2 s2 g2 hm2 U=>⟨_,rfl,?_⟩);have hL2:bF (.at m2) s2=((zs (wv G v)).map D.int).length:=by simp only[bF,U]
  have sl:st.length<s.length:=(av DC.hd).1;refine cw (L:=(zs (wv G v)).map .int) (by rw[hL2];exact ac _) (λj loc s'=>(∃y,loc=[some x0,some (.ref st.length),some (.int (v:Int)),y])/\Gr st s'/\s'[Z]? =some (.lst ((zs (bc G)).map .int))/\s'[m2]? =some (.lst ((zs (wv G v)).map .int))/\∃rs,Z∉rs/\m2∉rs/\Dc st.length s' st.length rs (oj G ((bc G).take i)++((wv G v).take j).map λf=>(v,f))) ⟨⟨_,rfl⟩,gs.trans g2,g2.at hm,U,rs,hmr,λhr=>(by have:=rl m2 hr;omega),by simpa using DC.gr g2⟩ (λj loc s' I=>by obtain⟨_,_,_,e,_⟩:=I;simp only[c9,e]) (λj z loc s' hz I=>?_) λloc s' I=>?_
  ·obtain⟨⟨y,rfl⟩,g3,J,B,rs3,n1,n2,D3⟩:=I;obtain⟨f,hf,rfl⟩:=dJ hz;have tk2:(wv G v).take (j+1)=(wv G v).take j++[f]:=by rw[List.take_add_one,hf];rfl
   have lm1:=(av J).1;have lm2:=(av B).1;refine pM (v:=v) (f:=f) rfl rfl rfl D3 g3.le ?_ λrs' s4 D4 hl4 fr=>aK (bA ⟨⟨_,rfl⟩,qF (aB g3.le hl4) λi hi=>?_,?_,?_,rs',(fr Z lm1 (by omega) n1).2,(fr m2 lm2 (by omega) n2).2,?_⟩)
   ·rw[ai,List.length_map,List.length_take];have:=i8 (G:=G) ((bc G).take i);rw[List.length_take] at this;have:=pL G v;omega
   ·rw[(fr i (aA hi g3.le) (by omega) λhm=>by have:=(D3.ab i hm).1;omega).1]
    obtain⟨t,e⟩:=g3;rw[e,ao hi]
   ·rw[(fr Z lm1 (by omega) n1).1];exact J
   ·rw[(fr m2 lm2 (by omega) n2).1];exact B
   ·rw[tk2,List.map_append,<-List.append_assoc];exact D4
  ·obtain⟨⟨y,rfl⟩,g3,J,B,rs3,n1,n2,D3⟩:=I;rw[a8,List.take_length,<-tk] at D3;exact a7 (aK (bA ⟨⟨_,_,rfl⟩,g3,J,rs3,n1,D3⟩))
 ·obtain⟨⟨x,y,rfl⟩,gs,hm,rs,hmr,DC⟩:=I;rw[a8,List.take_length] at DC;exact a7 (bp (aM rfl (bn (h rs s gs DC))))
theorem ij(J:0<G.length/\G.length<=9)(B:dI G.length G)(Z:d8 st r G)(h:∀rs st1,Gr st st1->Dc st.length st1 st.length rs (oj G (bc G))->Q (.ref st.length) st1):Wv (calls tab (k+5) mn [.ref r] st) Q:=by
 walk_at "call0"
 refine sR J.2 (λP Y=>bY (ak (aM rfl (az (rE J B (Z.gr (.one _ _)) λm s g U I=>Y m s g (by rw[ai] at U;simp only[List.length_cons,List.length_nil] at U;omega) I))))) (λv hv y s P gs Y=>?_) h
 have vl:=cI J.1 B ((b8 J.1 B).mp hv);have hG:G[v]? =some G[v]:=ae vl;have hw:wv G v=wy G[v]:=by show wf _ v=_;rw[fh,hG];rfl
 rw[hw] at Y;exact bY (ak (aM rfl (ak (aM rfl (az (xS (k:=k+2) (Z.gr gs) hG (qJ J.2 B _ (List.getElem_mem vl)) λm s1 g1 U I=>Y m s1 g1 U I))))))
theorem p8{en:Nat}(I:0<G.length/\G.length<=9)(B:dI G.length G)(he:bS st en (G.map En.fol))(h:∀rs st1,Gr st st1->Dc st.length st1 st.length rs (oj G (bc G))->Q (.ref st.length) st1):Wv (calls tab (k+2) jU [.ref en] st) Q:=by
 walk_at "call0"
 refine sR I.2 (λP Z=>ce (ak (bY (ak (aM rfl (ak (bi (ak (bi (az (jy (s:=0) (X:=none) I.2 B I.1 (he.gr (.one _ _)) λF m s1 g1 nd hm U hF=>az (gF hF ?_ ?_)))))))))))) (λv hv y s P gs Z=>?_) h
 ·have:=Spn.wM _ F nd U;simp[zs];omega
 ·rw[jV I.1 B nd λy=>(hm y).trans gL];have:=g1.le;rw[ai] at this;simp only[List.length_cons,List.length_nil] at this;exact Z _ _ (g1.more _) (by omega) aI
 have vl:=cI I.1 B ((b8 I.1 B).mp hv);have hG:G[v]? =some G[v]:=ae vl;have hw:wv G v=wy G[v]:=by show wf _ v=_;rw[fh,hG];rfl
 obtain⟨rs,e1,e2,e3⟩:=he.gr gs;have J:rs[v]? =some (rs[v]'(by rw[e2,List.length_map];exact vl)):=ae _
 have Y:=e3 v _ _ J (by rw[aq,hG];rfl)
 refine sN (bx (aM rfl (aM rfl (db e1 (cB (by rw[aq,J];rfl)) ⟨zs G[v].fol,lX Y,by simp[zs];exact u6 _,λn hn=>?_,?_⟩))))
 ·obtain⟨a,ha,rfl⟩:=List.mem_map.mp hn;have:=qJ I.2 B _ (List.getElem_mem vl) a ha;omega
 ·rw[tM,<-hw];exact Z _ _ (.one _ _) (ac _) aI
theorem qO(J:st[a]? =some (.lst ((zs l).map .int)))(I:st[b]? =some (.lst ((zs l).map .int))):cj (n+2) st (.ref a) (.ref b)=some true:=by unfold cj;simp only[shape,J,I];refine kj λx B=>?_;obtain⟨i,_,rfl⟩:=List.mem_map.mp B;simp[mj,cj,shape,kz]
theorem ko{f:D->D->Option Bool}:∀{xs ys:List D},xs.length=ys.length->(∀(j:Nat) x y,xs[j]? =some x->ys[j]? =some y->f x y=some true)->cz f xs ys=some true
 |[],[],_,_=>rfl
 |x::xs,y::ys,h,hf=>by
  unfold cz;rw[hf 0 x y rfl rfl,ko (xs:=xs) (ys:=ys) (by simpa using h) λj x y a b=>hf (j+1) x y a b]
  rfl
 |[],_::_,h,_=>by simp at h
 |_::_,[],h,_=>by simp at h
theorem uH(I:st[a]? =some (.lst ((zs l).map .int)))(B:st[b]? =some (.lst ((zs l).map .int))):mj (cj (n+2) st) (.ref a) (.ref b)=some true:=by
 show(if a=b then some true else cj (n+2) st (.ref a) (.ref b))=some true
 split
 ·rfl
 ·exact qO I B
theorem sM(h:rs.length=ks.length):(zD ks rs).map (·.1)=ks.map λ(x:Nat)=>(Sum.inl (x:Int):Key):=by
 show((ks.zip rs).map _).map _=_;rw[List.map_map,show((λx:Key×D=>x.1) ∘ λq:Nat×Nat=>((Sum.inl (q.1:Int):Key),D.ref q.2))=(λx:Nat=>(Sum.inl (x:Int):Key)) ∘ Prod.fst from rfl,<-List.map_map,List.map_fst_zip (by omega)]
theorem sL(h:rs.length=ks.length):(zD ks rs).map (·.2)=rs.map D.ref:=by
 show((ks.zip rs).map _).map _=_;rw[List.map_map,show((λx:Key×D=>x.2) ∘ λq:Nat×Nat=>((Sum.inl (q.1:Int):Key),D.ref q.2))=D.ref ∘ Prod.snd from rfl,<-List.map_map,List.map_snd_zip (by omega)]
theorem yk{Y:List Nat}{ps:List (Nat×Nat)}(B:Dc x st a rs ps)(I:Dc y st b Y ps):cj 60 st (.ref a) (.ref b)=some true:=by
 unfold cj;simp only[shape,B.hd,I.hd];rw[sM B.ln,sM I.ln,if_pos ⟨rfl,by simp[uM]⟩,sL B.ln,sL I.ln]
 refine ko (by simp[B.ln,I.ln]) λj u v U J=>?_
 rw[aq] at U J;obtain⟨r,h1,rfl⟩:=Option.map_eq_some_iff.mp U;obtain⟨q,h2,rfl⟩:=Option.map_eq_some_iff.mp J;have Z:j<(kp ps).length:=by rw[<-B.ln];exact(av h1).1
 have e:=ae Z;exact uH (n:=57) (B.at_ j r _ h1 e) (I.at_ j q _ h2 e)
end
section
variable{G:List En}{h:Nat}
noncomputable abbrev pG(G:List En):List (Nat×Nat):=oj G (bc G)
open Classical in
noncomputable def cl(G:List En)(h:Nat):List Nat:=(Lp (pG G) h).filter λv=>decide (Dom.ca (EG G) h v)
theorem gq(I:0<G.length)(B:dI G.length G):v∈cl G h↔Dom.be (EG G) v/\EG G v h/\Dom.ca (EG G) h v:=by unfold cl;rw[List.mem_filter];simp only[decide_eq_true_eq];rw[gw,fR,b8 I B,and_assoc]
inductive Bk(G:List En)(h:Nat):Nat->Prop where
 |base {e:Nat}(he:e∈cl G h)(hn:e≠h):Bk G h e
 |step {x y:Nat}(b:Bk G h y)(hx:Dom.be (EG G) x)(e:EG G x y)(hn:x≠h):Bk G h x
noncomputable def oo(G:List En)(h x:Nat):Prop:=x=h∨Bk G h x
theorem Bk.ne(b:Bk G h x):x≠h:=by cases b<;>assumption
theorem Bk.come(I:0<G.length)(B:dI G.length G)(b:Bk G h x):Dom.be (EG G) x:=by
 cases b with
 |base he _=>exact((gq I B).mp he).1
 |step _ hx _ _=>exact hx
theorem Bk.rules(I:0<G.length)(B:dI G.length G)(b:Bk G h x):Dom.ca (EG G) h x:=by
 induction b with
 |base he _=>exact((gq I B).mp he).2.2
 |step b _ e _ ih=>exact ih.lead (λz=>b.ne z.symm) e
theorem j_(J:0<G.length)(B:dI G.length G){e:Nat}(U:e∈cl G h):h≠0/\Dom.be (EG G) h:=by
 obtain⟨⟨l,w⟩,I,_⟩:=(gq J B).mp U;exact⟨λz=>by have:=(qM B (fM.mp I)).1;omega,⟨_,.cons w I⟩⟩
theorem qU(J:0<G.length)(B:dI G.length G)(I:Dom.be (EG G) x)(h0:x≠0):x∈kp (pG G):=by
 obtain⟨l,w⟩:=I;cases w with
 |nil=>exact absurd rfl h0
 |cons w e=>exact((dq _).2.2 x).mpr ⟨_,fR.mpr ⟨(b8 J B).mpr ⟨_,w⟩,e⟩⟩
theorem mi(Y:0<G.length)(B:dI G.length G)(J:x∈kp (pG G)):Dom.be (EG G) x/\x≠0:=by
 obtain⟨v,U⟩:=((dq _).2.2 x).mp J;obtain⟨h1,I⟩:=fR.mp U;obtain⟨l,w⟩:=(b8 Y B).mp h1;exact⟨⟨_,.cons w I⟩,λz=>by have:=(qM B (fM.mp I)).1;omega⟩
theorem Bk.kp(I:0<G.length)(B:dI G.length G){x:Nat}(h0:h≠0)(b:Bk G h x):x∈kp (pG G):=
 qU I B (b.come I B) λz=>h0 (List.mem_singleton.mp ((z▸b.rules I B:Dom.ca (EG G) h 0) [0] .nil))
theorem oo.lt(I:0<G.length)(B:dI G.length G){e:Nat}(J:e∈cl G h)(b:oo G h x):x<G.length:=by
 rcases b with rfl|b
 ·exact cI I B (j_ I B J).2
 ·exact cI I B (b.come I B)
theorem uO(hg:0<G.length)(B:dI G.length G)(Z:Dom.be (EG G) x):oo G h x↔x=h∨∃e,e∈cl G h/\e≠h/\Re (ff G) (some h) x e:=by
 constructor
 ·rintro(b|b)
  ·exact .inl b
  ·refine .inr ?_
   induction b with
   |base he hn=>exact⟨_,he,hn,.refl⟩
   |step b _ e _ ih=>obtain⟨e',h1,J,I⟩:=ih (b.come hg B);exact⟨e',h1,J,I.cons (fM.mp e) λz=>b.ne (ag z)⟩
 ·rintro(b|⟨e,h1,J,I⟩)
  ·exact .inl b
  ·by_cases hn:x=h
   ·exact .inl hn
   ·have key:∀{y},Re (ff G) (some h) x y->y≠h/\Dom.be (EG G) y/\(Bk G h y->Bk G h x):=λr=>by
     induction r with
     |refl=>exact⟨hn,Z,id⟩
     |next c hz hx' ih=>
      obtain⟨Y,⟨l,w⟩,U⟩:=ih;have e:=fM.mpr hz;exact⟨λz=>hx' (by rw[z]),⟨_,.cons w e⟩,λb=>U (.step b ⟨l,w⟩ e Y)⟩
    exact .inr ((key I).2.2 (.base h1 J))
def e_(G:List En):Nat->Prop:=λh=>cl G h≠[]
noncomputable def dU(G:List En):List Nat:=al (e_ G) G.length
noncomputable def kf(G:List En)(h:Nat):List Nat:=al (oo G h) G.length
theorem Ae(I:0<G.length)(B:dI G.length G){h:Nat}(z:e_ G h):h<G.length:=by obtain⟨e,J⟩:=List.exists_mem_of_ne_nil _ z;exact cI I B (j_ I B J).2
end
open Classical in
noncomputable def mS(G:List En)(l:List Nat):List Nat:=l.filter λh=>decide (e_ G h)
def Cd(G:List En)(st:aW)(n:Nat)(hs:List Nat):Prop:=∃qs:List Nat,st[n]? =some (.dct (zD hs qs))/\qs.length=hs.length/\∀(j q h:Nat),qs[j]? =some q->hs[j]? =some h->st[q]? =some (.lst ((zs (cl G h)).map .int))
theorem Cd.gr{G:List En}(h:Cd G st n hs)(g:Gr st st'):Cd G st' n hs:=by obtain⟨B,h1,J,I⟩:=h;exact⟨B,g.at h1,J,λj q h a c=>g.at (I j q h a c)⟩
theorem BO{G:List En}(I:0<G.length/\G.length<=9)(B:dI G.length G)(R:Nr (G.map wy) N):∀x y,N x=some y->x<9:=λx y e=>by have:=cI I.1 B (R.dom x y e);omega
section
variable{k r ld:Nat}{st:aW}{Q:D->aW->Prop}{G:List En}{rs:List Nat}{b:Nat}
theorem rJ(hg:0<G.length/\G.length<=9)(I:dI G.length G)(hf:d8 st r G)(hD:Dc b st ld rs (pG G))(h:∀m st1,Gr st st1->Cd G st1 m (mS G (kp (pG G)))->Q (.ref m) st1):Wv (calls tab (k+4) iw [.ref r,.ref ld] st) Q:=by
 have hn:0<(G.map wy).length/\(G.map wy).length<=9:=by rw[List.length_map];exact hg
 obtain⟨knd,kle,_⟩:=dq (pG G)
 have pl:(pG G).length<=18:=by have h1:=i8 (G:=G) (bc G);have h2:(bc G).length<=G.length:=gv _ _;show(oj G (bc G)).length<=18;omega
 have zl:(zD (kp (pG G)) rs).length=(kp (pG G)).length:=by rw[List.length_map,List.length_zip,hD.ln];simp
 have hld:ld<st.length:=(av hD.hd).1
 walk_at "call0"
 refine aX (jn (ck (ba (ce (ak (aM rfl (az (yD (aV hD.hd) (bi (rc ⟨_,rfl,λz=>?_,λz=>?_⟩))))))))))
 ·refine aX (bY (ak (bY (ak (bY (ak (aM rfl (az (tR hg.2 (qJ hg.2 I) (hf.gr (.one _ _)) λw s2 g2 _ hW=>az (rG (k:=k+1) hW hn (xN I) (pL G) λN kv nd s3 g3 _ hk3 hN R=>az (wo (k:=k+2) hk3 hN R (BO hg I R) λS kvs sp s4 g4 U hS hA hR=>?_)))))))))));have gA:Gr (st++[O.dct []]) s4:=g2.trans (g3.trans g4);have gB:Gr st s4:=(Gr.one _ _).trans gA;have fd:=gA.at (aI (st:=st) (o:=O.dct []));have D4:=hD.gr gB;have hs4:st.length<s4.length:=(av fd).1;have ndl:∀{i:Nat}{xs:List D},s4[i]? =some (.lst xs)->i≠ld:=λa z=>by rw[z,D4.hd] at a;cases a
  have nsp:sp≠ld:=λz=>by
   rw[z,D4.hd] at U;have e:=O.dct.inj (ag U);have hz:=zl;rw[e] at hz;have z':=of_decide_eq_true ‹decide _=true›;rw[e] at z';cases kvs with
   |nil=>simp at z'
   |cons p r=>
    have hm:p∈zD (kp (pG G)) rs:=by rw[e];exact .head _
    obtain⟨x,hx,e2⟩:=ou hm;obtain⟨q,hq⟩:=hA x (mi hg.1 I hx).1;have h1:=hS x;rw[hq] at h1;obtain⟨_,_,h2,_⟩:=D4.get hx;rw[e,h1] at h2;cases h2
  refine pP rfl (aM rfl ⟨ld,_,λi loc s=>(∃x y z,loc=[some (.ref r),some (.ref ld),some (.ref st.length),some (.ref sp),x,y,z])/\s4.length<=s.length/\(∀i,i<s4.length->i≠ld->i≠st.length->s[i]? =s4[i]?)/\s[ld]? =some (.dcf (zD (kp (pG G)) rs))/\Cd G s st.length (mS G ((kp (pG G)).take i)),rfl,D4.hd,⟨⟨_,_,_,rfl⟩,by rw[au];exact ac _,λi hi Z _=>by rw[aF (λz=>Z z.symm)],bj (by omega),[],sn fd (by omega),rfl,λj q h a=>by simp at a⟩,λi loc s hI=>hI.2.2.2.1,λi p loc s hp hI=>?_,λloc s hI=>?_⟩)
  ·obtain⟨⟨x,y,z,rfl⟩,hle,B,hfz,qs,q1,q2,q3⟩:=hI;have hi:i<(kp (pG G)).length:=by rw[<-zl];exact(av hp).1
   obtain⟨f,hfk⟩:∃f,(kp (pG G))[i]? =some f:=⟨_,ae hi⟩;obtain⟨rr,hrr⟩:∃rr,rs[i]? =some rr:=⟨_,ae (by rw[hD.ln];exact hi)⟩
   have ep:p=(.inl (f:Int),.ref rr):=by
    have:(zD (kp (pG G)) rs)[i]? =some (.inl (f:Int),.ref rr):=by show((kp (pG G)).zip rs|>.map _)[i]? =_;rw[aq,List.getElem?_zip_eq_some (z:=(f,rr))|>.mpr ⟨hfk,hrr⟩];rfl
    rw[this] at hp;exact(ag hp).symm
   subst ep;have fm:=aj hfk;have J:=D4.at_ i rr f hrr hfk;have rl:=(av J).1;have hat:s[rr]? =some (.lst ((zs (Lp (pG G) f)).map .int)):=by rw[B rr rl (ndl J) λz=>by rw[z,fd] at J;cases J];exact J
   have hsp':s[sp]? =some (.dct kvs):=by
    rw[B sp (av U).1 nsp λz=>?_]
    ·exact U
    ·rw[z,fd] at U;cases U;obtain⟨q,hq⟩:=hA f (mi hg.1 I fm).1;have:=hS f;rw[hq] at this;cases this
   have ll:=gy (pG G) f;refine aX (b5 (aM rfl ⟨_,rfl,?_⟩));have hL:bF (.at rr) s=((zs (Lp (pG G) f)).map D.int).length:=by simp only[bF,hat]
   open Classical in
   refine bN (L:=(zs (Lp (pG G) f)).map .int) (by rw[hL,a8];omega) (by rw[hL];exact ac _) (λj acc Y=>Y=s/\acc=(zs (((Lp (pG G) f).take j).filter λv=>decide (Dom.ca (EG G) f v))).map .int) ⟨rfl,rfl⟩ (λj acc Y hI=>by obtain⟨rfl,_⟩:=hI;simp only[c9,hat]) (λj u acc Y hu hI=>?_) λacc Y hI=>?_
   ·obtain⟨rfl,rfl⟩:=hI;obtain⟨v,hv,rfl⟩:=dJ hu;have tk:(Lp (pG G) f).take (j+1)=(Lp (pG G) f).take j++[v]:=by rw[List.take_add_one,hv];rfl
    have hvc:Dom.be (EG G) v:=(b8 hg.1 I).mp (fR.mp (gw.mp (aj hv))).1;refine lK (bY (ak (aM rfl (ak (aM rfl (ak (aM rfl (az (yU (k:=k+2) hsp' hS (hA f (mi hg.1 I fm).1) (hA v hvc) hR λt ht=>⟨t,rfl,λq=>?_,λq=>?_⟩)))))))))
    ·refine aM rfl ⟨rfl,?_⟩;dsimp only;rw[tk,List.filter_append,cA,List.filter_cons_of_pos (by simpa using ht.mp q)]
     rfl
    ·refine⟨rfl,?_⟩;dsimp only
     rw[tk,List.filter_append,cA,List.filter_cons_of_neg (by
      rw[decide_eq_true_iff];exact λw=>by rw[ht.mpr w] at q;cases q)]
     simp[zs]
   ·obtain⟨rfl,rfl⟩:=hI;rw[a8,List.take_length]
    have tk:mS G ((kp (pG G)).take (i+1))=mS G ((kp (pG G)).take i)++if cl G f=[] then [] else [f]:=by
     unfold mS;rw[List.take_add_one,hfk,List.filter_append];congr 1;by_cases q:cl G f=[]
     ·rw[if_pos q];simp[e_,q]
     ·rw[if_neg q];simp[e_,q]
    have ecl:(Lp (pG G) f).filter (λv=>decide (Dom.ca (EG G) f v))=cl G f:=rfl;rw[ecl];have q1':(Y++[O.lst ((zs (cl G f)).map .int)])[st.length]? =some (.dct (zD (mS G ((kp (pG G)).take i)) qs)):=aV q1
    have nk:∀p∈zD (mS G ((kp (pG G)).take i)) qs,p.1≠ .inl (f:Int):=λp hp z=>by obtain⟨x,hx,e⟩:=ou hp;rw[e] at z;have:=Int.ofNat_inj.mp (Sum.inl.inj z);subst this;exact md knd hfk (List.mem_filter.mp hx).1
    have hkl:(zD (mS G ((kp (pG G)).take i)) qs).length<1000000:=by
     rw[List.length_map,List.length_zip];have:=List.length_filter_le (λh=> @decide (e_ G h) (Classical.propDecidable _)) ((kp (pG G)).take i);rw[List.length_take] at this;have e:(mS G ((kp (pG G)).take i)).length<=18:=by unfold mS;omega
     omega
    refine ck (ba (ce (ak (aM rfl (az (cN aI (bi (rc ⟨_,rfl,λq=>?_,λq=>?_⟩))))))))
    ·have Z:cl G f≠[]:=λe=>by rw[e] at q;cases q
     rw[if_neg Z] at tk;have sl4:Y.length≠ld:=by omega
     refine fQ (aM rfl (aM rfl (aM rfl (cM q1' rfl hkl (aK (a7 (aK (bA ⟨⟨_,_,_,rfl⟩,by rw[au,ai];omega,λi hi h1 h2=>?_,?_,qs++[Y.length],?_,?_,?_⟩))))))))
     ·rw[aF (λz=>h2 z.symm),ao (by omega)];exact B i hi h1 h2
     ·exact sn (aV hfz) (by omega)
     ·rw[tk];show((Y++[O.lst ((zs (cl G f)).map .int)]).set st.length (.dct (bM (zD (mS G ((kp (pG G)).take i)) qs) (.inl (f:Int)) (.ref Y.length))))[st.length]? =_;rw[bj (by rw[ai];omega),jB nk]
      congr 2;show _=((mS G ((kp (pG G)).take i)++[f]).zip (qs++[Y.length])).map _;rw[List.zip_append q2.symm,List.map_append];rfl
     ·rw[tk,ai,ai,q2];rfl
     ·rw[tk];refine nb (P:=λ_ q h=>((Y++[O.lst ((zs (cl G f)).map .int)]).set st.length _)[q]? =some (.lst ((zs (cl G h)).map .int))) q2 (λj q h a c=>?_) ?_
      ·have:=q3 j q h a c;exact sn (aV this) λz=>by rw[<-z,q1] at this;cases this
      ·exact sn aI (by omega)
    ·have Z:cl G f=[]:=by
      cases e:cl G f with
      |nil=>rfl
      |cons a t=>rw[e] at q;have q:=of_decide_eq_false q;rw[a8,List.length_cons] at q;omega
     rw[if_pos Z,List.append_nil] at tk;refine aK (a7 (aK (bA ⟨⟨_,_,_,rfl⟩,by rw[ai];omega,λi hi h1 h2=>?_,aV hfz,qs,by rw[tk];exact q1',by rw[tk];exact q2,by rw[tk];exact λj q h a c=>aV (q3 j q h a c)⟩)))
     rw[ao (by omega)];exact B i hi h1 h2
  ·obtain⟨⟨x,y,z,rfl⟩,hle,B,hfz,qs,q1,q2,q3⟩:=hI;rw[zl,List.take_length] at q1 q2 q3;refine aK (a7 (bp (aM rfl (bn (h _ _ (qF (by rw[au];omega) λi hi=>?_) ⟨qs,sn q1 (by omega),q2,λj q h a c=>?_⟩)))))
   ·by_cases e:ld=i
    ·subst e;rw[aL (by omega),hD.hd]
    ·rw[aF e,B i (by omega) (λz=>e z.symm) (by omega)]
     obtain⟨t,e⟩:=gB;rw[e,ao hi]
   ·have:=q3 j q h a c;exact sn this λz=>by rw[<-z,hfz] at this;cases this
 ·have hk0:kp (pG G)=[]:=by
   have z:=of_decide_eq_false z;rw[zl] at z;exact List.eq_nil_of_length_eq_zero (by omega)
  exact aK (a7 (bp (aM rfl (bn (h _ _ (.one _ _) (by rw[hk0];exact⟨[],aI,rfl,λj q h a=>by simp at a⟩))))))
end
abbrev tD(F:List Nat):List (Key×D):=F.map λ(x:Nat)=>(Sum.inl (x:Int),D.bl true)
theorem oF:∀{F:List Nat}{x:Nat},(bB (tD F) (.inl (x:Int))).isSome=decide (x∈F)
 |[],_=>rfl
 |y::F,x=>by
  show(bB ((Sum.inl (y:Int),D.bl true)::tD F) _).isSome=_;unfold bB;by_cases e:y=x
  ·subst e;simp
  ·rw[if_neg (λz=>e (Int.ofNat_inj.mp (Sum.inl.inj z))),oF];have:¬x=y:=λz=>e z.symm;simp[this]
theorem pZ:∀F:List Nat,fA (tD F)=some (zs F)
 |[]=>rfl
 |x::F=>by show(fA (tD F)).map _=_;rw[pZ F];rfl
section
variable{k ld c:Nat}{st:aW}{Q:D->aW->Prop}{G:List En}{rs:List Nat}{b h:Nat}
noncomputable def AK(G:List En)(F:List Nat):Nat:=(((List.range G.length).filter λv=>decide (v∉F)).map λv=>(Lp (pG G) v).length+1).sum
theorem l9(B:G.length<=9):(pG G).length<=18:=by have h1:=i8 (G:=G) (bc G);have I:(bc G).length<=G.length:=gv _ _;show(oj G (bc G)).length<=18;omega
theorem yV(hg:0<G.length/\G.length<=9)(I:dI G.length G)(hD:Dc b st ld rs (pG G))(hc:st[c]? =some (.lst ((zs (cl G h)).map .int)))(hh:e_ G h)(hq:∀m st1,Gr st st1->st.length<=m->st1[m]? =some (.lst ((zs (kf G h)).map .int))->Q (.ref m) st1):Wv (calls tab (k+1) kH [.int (h:Int),.ref c,.ref ld] st) Q:=by
 obtain⟨e0,he0⟩:=List.exists_mem_of_ne_nil _ hh;have h0:=(j_ hg.1 I he0).1;have pl:=l9 hg.2;have cle:(cl G h).length<=18:=aB (List.length_filter_le _ _) (aB (gy _ _) pl);have ilt:∀{x},oo G h x->x<G.length:=λB=>B.lt hg.1 I he0
 walk_at "call0"
 refine aX (pQ (aM rfl (bi ⟨_,rfl,aX (ce (ak (aM rfl (az (vT (aV hc) ?_)))))⟩)));have e1:(st++[O.dct [((Sum.inl (h:Int):Key),D.bl true)]]).length=st.length+1:=by simp
 rw[e1]
 have r0:AK G [h]<=171:=by
  have h1:=lO (l:=(List.range G.length).filter λv=>decide (v∉[h])) (f:=λv=>(Lp (pG G) v).length+1) (m:=19) λv _=>by have:=gy (pG G) v;omega
  have h2:=List.length_filter_le (λv=>decide (v∉[h])) (List.range G.length);rw[List.length_range] at h2;unfold AK;omega
 refine gc (λm loc s=>∃F L x,loc=[some (.int (h:Int)),some (.ref c),some (.ref ld),some (.ref st.length),some (.ref (st.length+1)),x]/\Gr st s/\s[st.length]? =some (.dct (tD F))/\s[st.length+1]? =some (.lst ((zs L).map .int))/\F.Nodup/\h∈F/\(∀x∈F,oo G h x)/\(∀x∈L,oo G h x)/\(∀e∈cl G h,e∈F∨e∈L)/\(∀y∈F,y≠h->∀x,Dom.be (EG G) x->EG G x y->x∈F∨x∈L)/\AK G F+L.length<=m/\m<=200) 200 (by decide) ⟨[h],cl G h,_,rfl,(Gr.one _ _).more _,aV aI,by rw[<-e1];exact aI,by simp,.head _,λx B=>.inl (List.mem_singleton.mp B),λx B=>?_,λe he=>.inr he,λy U hn=>absurd (List.mem_singleton.mp U) hn,by omega,ac _⟩ λm loc s hI=>?_
 ·by_cases e:x=h
  ·exact .inl e
  ·exact .inr (.base B e)
 obtain⟨F,L,x,rfl,g,hF,hL,nd,hhF,iF,iL,c1,c2,hm,hm2⟩:=hI;have lF:st.length<s.length:=(av hF).1;have lL:st.length+1<s.length:=(av hL).1;have fl:=Spn.wM _ F nd λx B=>ilt (iF x B);refine ba (ce (ak (aM rfl (az (cN hL (bi (rc ⟨_,rfl,λz=>?_,λz=>?_⟩)))))))
 ·have hne:L≠[]:=λe=>by subst e;cases z
  obtain⟨J,v,rfl⟩:∃J v,L=J++[v]:=⟨L.dropLast,L.getLast hne,(List.dropLast_concat_getLast hne).symm⟩;rw[ai] at hm;simp only[List.length_cons,List.length_nil] at hm;have mv:∀{x},x∈J++[v]->x∈J∨x=v:=λ{x} B=>by simpa using B
  refine⟨m - 1,by omega,?_⟩
  rw[cA] at hL;refine aX (ow (aM rfl ⟨_,_,_,rfl,hL,?_⟩));have g1:Gr st (s.set (st.length+1) (.lst ((zs J).map .int))):=g.set (by omega)
  have hF1:(s.set (st.length+1) (.lst ((zs J).map .int)))[st.length]? =some (.dct (tD F)):=sn hF (by omega)
  have hL1:(s.set (st.length+1) (.lst ((zs J).map .int)))[st.length+1]? =some (.lst ((zs J).map .int)):=bj lL;have ls1:(s.set (st.length+1) (.lst ((zs J).map .int))).length=s.length:=au ..;obtain⟨s1,hs1⟩:∃s1,s1=s.set (st.length+1) (.lst ((zs J).map .int)):=⟨_,rfl⟩;rw[<-hs1] at g1 hF1 hL1 ls1 ⊢;refine ck (ba (aM rfl (aM rfl (mW hF1 rfl ⟨_,rfl,λz=>?_,λz=>?_⟩))))
  ·rw[oF] at z;have Z:v∉F:=by simpa using z
   have iv:=iL v (by simp)
   have vh:v≠h:=λe=>Z (e▸hhF);have bv:=iv.resolve_left vh;have vk:=bv.kp hg.1 I h0
   have hadd:AK G F=AK G (F++[v])+((Lp (pG G) v).length+1):=by
    unfold AK;refine Go.i6 (w:=λv=>(Lp (pG G) v).length+1) (f:=v) (p:=λv=>decide (v∉F)) (q:=λx=>decide (x∉F++[v])) (by simpa using Z) (by simp) (λx B=>?_) List.nodup_range (List.mem_range.mpr (ilt iv))
    simp[B]
   have hput:bM (tD F) (.inl (v:Int)) (.bl true)=tD (F++[v]):=by
    rw[jB λp hp z=>?_]
    ·show _=(F++[v]).map _;rw[List.map_append];rfl
    ·obtain⟨y,U,rfl⟩:=List.mem_map.mp hp;exact Z (Int.ofNat_inj.mp (Sum.inl.inj z)▸U)
   refine fQ (bi (aM rfl (aM rfl (cM hF1 rfl (by rw[List.length_map];omega) ?_))))
   rw[hput];have g2:Gr st (s1.set st.length (.dct (tD (F++[v])))):=g1.set (ac _);obtain⟨rr,_,e3,e4⟩:=(hD.gr g2).get vk;have hL2:(s1.set st.length (.dct (tD (F++[v]))))[st.length+1]? =some (.lst ((zs J).map .int)):=sn hL1 (by omega)
   have ll:=gy (pG G) v;refine xP (aM rfl ⟨_,_,rfl,hL2,bx (aM rfl (aM rfl (dL (hD.gr g2).hd e3 ⟨_,_,_,rfl,hL2,e4,by rw[a8,a8];omega,?_⟩)))⟩)
   rw[<-cA];refine aK (a7 (aK (bA ⟨F++[v],J++Lp (pG G) v,_,rfl,g2.set (by omega),sn (bj (by omega)) (by omega),bj (by rw[au];omega),?_,aJ _ hhF,λx B=>?_,λx B=>?_,λe he=>?_,λy U hn x B Y=>?_,by rw[ai];omega,by omega⟩)))
   ·rw[List.nodup_append];refine⟨nd,by simp,λa ha b hb=>?_⟩
    rw[List.mem_singleton.mp hb];exact λe=>Z (e▸ha)
   ·rcases List.mem_append.mp B with B|B
    ·exact iF x B
    ·rw[List.mem_singleton.mp B];exact iv
   ·rcases List.mem_append.mp B with B|B
    ·exact iL x (aJ _ B)
    ·obtain⟨p1,p2⟩:=fR.mp (gw.mp B);by_cases e:x=h
     ·exact .inl e
     ·exact .inr (.step bv ((b8 hg.1 I).mp p1) p2 e)
   ·rcases c1 e he with q|q
    ·exact .inl (aJ _ q)
    ·rcases mv q with q|q
     ·exact .inr (aJ _ q)
     ·exact .inl (by rw[q];simp)
   ·rcases List.mem_append.mp U with U|U
    ·rcases c2 y U hn x B Y with q|q
     ·exact .inl (aJ _ q)
     ·rcases mv q with q|q
      ·exact .inr (aJ _ q)
      ·exact .inl (by rw[q];simp)
    ·rw[List.mem_singleton.mp U] at Y;exact .inr (aS _ (gw.mpr (fR.mpr ⟨(b8 hg.1 I).mpr B,Y⟩)))
  ·rw[oF] at z;have Z:v∈F:=by simpa using z
   refine aK (a7 (aK (bA ⟨F,J,_,rfl,g1,hF1,hL1,nd,hhF,iF,λx B=>iL x (aJ _ B),λe he=>?_,λy U hn x B Y=>?_,by omega,by omega⟩)))
   ·rcases c1 e he with q|q
    ·exact .inl q
    ·rcases mv q with q|q
     ·exact .inr q
     ·exact .inl (q▸Z)
   ·rcases c2 y U hn x B Y with q|q
    ·exact .inl q
    ·rcases mv q with q|q
     ·exact .inr q
     ·exact .inl (q▸Z)
 ·have hnil:L=[]:=by
   cases L with
   |nil=>rfl
   |cons a t=>have z:=of_decide_eq_false z;rw[a8,List.length_cons] at z;omega
  subst hnil
  have hmem:∀x,x∈F↔oo G h x:=λx=>⟨iF x,λB=>by
   rcases B with rfl|B
   ·exact hhF
   ·induction B with
    |base he _=>exact(c1 _ he).resolve_right (by simp)
    |step bb B e _ ih=>exact(c2 _ ih bb.ne _ B e).resolve_right (by simp)⟩
  refine bp (ce (ak (aM rfl (az (kO hF (pZ F) (by simp[zs];omega) ?_)))))
  rw[oH nd hmem λv Z=>ilt Z];exact bn (hq _ _ (g.more _) g.le aI)
end
def oi(b:Nat)(st:aW)(m:Nat)(hs:List Nat)(bl:Nat->List Nat):Prop:=b<=m/\∃rs:List Nat,st[m]? =some (.lst ((hs.zip rs).map λq=>.tup [.int (q.1:Int),.ref q.2]))/\rs.length=hs.length/\(∀r∈rs,b<=r/\r≠m)/\∀(j r h:Nat),rs[j]? =some r->hs[j]? =some h->st[r]? =some (.lst ((zs (bl h)).map .int))
theorem oi.gr{bl:Nat->List Nat}(h:oi b st m hs bl)(g:Gr st st'):oi b st' m hs bl:=by obtain⟨h0,rs,h1,J,I,B⟩:=h;exact⟨h0,rs,g.at h1,J,I,λj r h a c=>g.at (B j r h a c)⟩
theorem x_{c:Nat}{bl:Nat->List Nat}(h1:oi b st m hs bl)(Z:oi c st n hs bl):cj 60 st (.ref m) (.ref n)=some true:=by
 obtain⟨_,rs,a1,a2,_,a4⟩:=h1;obtain⟨_,qs,b1,b2,_,b4⟩:=Z;unfold cj;simp only[shape,a1,b1];refine ko (by simp[a2,b2]) λj x y U J=>?_
 rw[aq] at U J;obtain⟨⟨h,r⟩,e1,rfl⟩:=Option.map_eq_some_iff.mp U;obtain⟨⟨h',q⟩,e2,rfl⟩:=Option.map_eq_some_iff.mp J;obtain⟨B,e4⟩:=List.getElem?_zip_eq_some.mp e1;obtain⟨I,e6⟩:=List.getElem?_zip_eq_some.mp e2;have B:hs[j]? =some h:=B;have I:hs[j]? =some h':=I;rw[B] at I;cases I;show cj 59 st (.tup [.int (h:Int),.ref r]) (.tup [.int (h:Int),.ref q])=some true;have Y:=uH (n:=56) (a4 j r h e4 B) (b4 j q h e6 B);have ii:mj (cj 58 st) (.int (h:Int)) (.int (h:Int))=some true:=by simp[mj,cj,shape,kz]
 unfold cj;simp only[shape,cz,ii,Y];rfl
section
variable{k r:Nat}{st:aW}{Q:D->aW->Prop}{G:List En}
theorem lY(Y:0<G.length/\G.length<=9)(B:dI G.length G)(hf:d8 st r G)(h:∀m st1,Gr st st1->oi st.length st1 m (dU G) (kf G)->Q (.ref m) st1):Wv (calls tab (k+6) o7 [.ref r] st) Q:=by
 obtain⟨knd,kle,_⟩:=dq (pG G);have pl:=l9 Y.2
 walk_at "call0"
 refine aX (bY (ak (aM rfl (az (ij Y B hf λrs s1 g1 hD=>?_)))));refine aX (bY (ak (aM rfl (ak (aM rfl (az (rJ (k:=k+1) Y B (hf.gr g1) hD λcd U g2 hC=>?_)))))));have hC':=hC;obtain⟨qs,q1,q2,q3⟩:=hC;have hsn:(mS G (kp (pG G))).Nodup:=List.Nodup.sublist List.filter_sublist knd
 have hsm:∀x,x∈mS G (kp (pG G))↔e_ G x:=λx=>by unfold mS;rw[List.mem_filter];simp only[decide_eq_true_eq];refine⟨λz=>z.2,λz=>⟨?_,z⟩⟩;obtain⟨e,he⟩:=List.exists_mem_of_ne_nil _ z;obtain⟨p1,p2⟩:=j_ Y.1 B he;exact qU Y.1 B p2 p1
 have hsl:(mS G (kp (pG G))).length<=18:=aB (List.length_filter_le _ _) (aB kle pl)
 have hin:fA (zD (mS G (kp (pG G))) qs)=some (zs (mS G (kp (pG G)))):=by
  have:∀(a b:List Nat),b.length=a.length->fA (zD a b)=some (zs a):=λa=>by
   induction a with
   |nil=>intro b _;rfl
   |cons x a ih=>
    intro b hb;cases b with
    |nil=>simp at hb
    |cons y b=>
     show(fA (zD a b)).map _=_;rw[ih b (by simpa using hb)]
     rfl
  exact this _ _ q2
 refine bp (b5 (ce (ak (aM rfl (az (kO q1 hin (by simp[zs];omega) ⟨_,rfl,?_⟩))))))
 rw[oH hsn hsm λv hv=>Ae Y.1 B hv];have g3:Gr U (U++[O.lst ((zs (dU G)).map .int)]):= .one _ _;have hat:(U++[O.lst ((zs (dU G)).map .int)])[U.length]? =some (.lst ((zs (dU G)).map .int)):=aI;have hdl:(dU G).length<=9:=aB (gv _ _) Y.2;show W (cX _ (.at U.length) (U++[O.lst ((zs (dU G)).map .int)])) _;obtain⟨s3,hs3⟩:∃s3,s3=U++[O.lst ((zs (dU G)).map .int)]:=⟨_,rfl⟩;rw[<-hs3] at g3 hat ⊢;clear hs3;have g03:Gr st s3:=g1.trans (g2.trans g3);have hL:bF (.at U.length) s3=((zs (dU G)).map D.int).length:=by simp only[bF,hat]
 refine bN (L:=(zs (dU G)).map .int) (by rw[hL,a8];omega) (by rw[hL];exact ac _) (λi acc s=>Gr s3 s/\∃rs:List Nat,acc=(((dU G).take i).zip rs).map (λq=>.tup [.int (q.1:Int),.ref q.2])/\rs.length=i/\(∀r∈rs,st.length<=r/\r<s.length)/\∀(j r h:Nat),rs[j]? =some r->(dU G)[j]? =some h->s[r]? =some (.lst ((zs (kf G h)).map .int))) ⟨.refl _,[],by simp,rfl,(λr J=>nomatch J),λj r h a=>by simp at a⟩ (λi acc s hI=>by obtain⟨g,_⟩:=hI;simp only[c9,g.at hat]) (λi z acc s hz hI=>?_) λacc s hI=>?_
 ·obtain⟨gs,I,rfl,r1,r2,r3⟩:=hI;obtain⟨hd,hx,rfl⟩:=dJ hz;have hh:e_ G hd:=(iH.mp (aj hx)).2;have gC:=hC'.gr (g3.trans gs);obtain⟨qs',c1,c2,c3⟩:=gC;obtain⟨j,q,e1,e2,e3⟩:=gD ((hsm hd).mpr hh) c2.symm;refine d_ (bD (ak (aM rfl (ak (bY (ak (aM rfl (ak (bx (aM rfl (aM rfl (dL c1 e3 (ak (aM rfl (az (yV (k:=k+4) Y B (hD.gr (g2.trans (g3.trans gs))) (c3 j q hd e2 e1) hh λm s4 g4 hm Z=>az ⟨gs.trans g4,I++[m],?_,by simp[r1],λr J=>?_,λj r h' a c=>?_⟩))))))))))))))))
  ·rw[List.take_add_one,hx];show _++[_]=(((dU G).take i++[hd]).zip (I++[m])).map _;have il:i<=(dU G).length:=Nat.le_of_lt (av hx).1;rw[List.zip_append (by rw[List.length_take,r1];omega),List.map_append]
   rfl
  ·have gl:=(g03.trans gs).le;rcases List.mem_append.mp J with J|J
   ·have:=r2 r J;have:=g4.le;omega
   ·rw[List.mem_singleton.mp J];have:=(av Z).1;omega
  ·by_cases hj:j<I.length
   ·rw[ao hj] at a;exact g4.at (r3 j r h' a c)
   ·have hj2:j=i:=by have:=(av a).1;simp at this;omega
    subst hj2;rw[aE (by omega),r1,Nat.sub_self] at a
    cases a;rw[hx] at c;cases c;exact Z
 ·obtain⟨gs,I,rfl,r1,r2,r3⟩:=hI;rw[a8] at r1 ⊢;rw[List.take_length];exact bn (h _ _ ((g03.trans gs).more _) ⟨(g03.trans gs).le,I,aI,r1,λr J=>⟨(r2 r J).1,by have:=(r2 r J).2;omega⟩,λj r h a c=>aV (r3 j r h a c)⟩)
end
open Classical in
noncomputable def fl(P:Nat->Prop)(L:List Nat):List Nat:=L.filter λv=>decide (P v)
theorem iB:v∈fl P L↔v∈L/\P v:=by unfold fl;rw[List.mem_filter];simp
theorem mC(P:Nat->Prop)(L:List Nat):(fl P L).length<=L.length:=List.length_filter_le _ _
theorem pd(h:L[j]? =some v):(P v->fl P (L.take (j+1))=fl P (L.take j)++[v])/\(¬P v->fl P (L.take (j+1))=fl P (L.take j)):=by
 unfold fl;rw[List.take_add_one,h];exact⟨λq=>by simp[List.filter_append,q],λq=>by simp[List.filter_append,q]⟩
theorem yj{R:Nat->Prop}:fl P (al R n)=al (λx=>R x/\P x) n:= @sG R P n λ_=>Classical.propDecidable _
theorem sT{x:D}{ys:List D}{k:Bool}{Q:D->aW->Prop}(B:st[n]? =some (.lst ys))(e:eY st x ys=some k)(h:Q (.bl k) st):W (bK .In x (.ref n) st) Q:=by simp only[bK,bG,B,e];exact h
theorem oy{test:Ex}{Q:D->aW->Prop}(h1:loc[i]? =some (some (.ref m)))(Y:st[m]? =some (.lst ((zs L).map .int)))(hl:L.length<=1000)
  (ht:∀v∈L,∀s (R:D->aW->Prop),Gr st s->(∀(t:Bool) s',Gr s s'->(t=true↔P v)->R (.bl t) s')->W (run g test (some (.int (v:Int))::loc) s) R)
  (h:∀q J,Gr st J->J[q]? =some (.lst ((zs (fl P L)).map .int))->Q (.ref q) J):W (run g (.comp .seq false (.v i) test true (.v 0)) loc st) Q:=by
 refine b5 (aM h1 ⟨_,rfl,?_⟩);have Z:bF (.at m) st=((zs L).map D.int).length:=by simp only[bF,Y]
 refine bN (L:=(zs L).map .int) (by rw[Z,a8];omega) (by rw[Z];exact ac _) (λj acc s=>Gr st s/\acc=(zs (fl P (L.take j))).map .int) ⟨.refl _,rfl⟩ (λj acc s B=>by obtain⟨g,_⟩:=B;simp only[c9,g.at Y]) (λj z acc s hz B=>?_) λacc s B=>?_
 ·obtain⟨I,rfl⟩:=B;obtain⟨v,U,rfl⟩:=dJ hz;obtain⟨f1,f2⟩:=pd (P:=P) U;refine lK (ht v (aj U) s _ I λt s' g' e=>⟨t,rfl,λq=>aM rfl ⟨I.trans g',?_⟩,λq=>⟨I.trans g',?_⟩⟩)
  ·rw[f1 (e.mp q),cA];rfl
  ·rw[f2 (λw=>by rw[e.mpr w] at q;cases q)]
 ·obtain⟨I,rfl⟩:=B;rw[a8,List.take_length];exact h _ _ (I.more _) aI
section
variable{k en:Nat}{st:aW}{Q:D->aW->Prop}{G:List En}
theorem uP{hd:Nat}{R:D->aW->Prop}(he:bS s en (G.map En.fol))(U:v<G.length)(h:R (.bl (decide (hd∈ff G v))) s):W (index (.ref en) (.int (v:Int)) s) λy Z=>W (bK .In (.int (hd:Int)) y Z) R:=by
 obtain⟨rs,e1,e2,e3⟩:=he;have Y:G[v]? =some G[v]:=ae U;have B:rs[v]? =some (rs[v]'(by rw[e2,List.length_map];exact U)):=ae _
 have I:=e3 v _ _ B (by rw[aq,Y];rfl)
 have J:ff G v=G[v].fol:=by show wf _ v=_;rw[fh,Y];rfl
 rw[<-J] at I;exact db e1 (cB (by rw[aq,B];rfl)) (sT I (gu _) h)
theorem Bp(I:0<G.length/\G.length<=9)(B:dI G.length G)(he:bS st en (G.map En.fol))(h:∀m st1,Gr st st1->oi st.length st1 m (dU G) (kf G)->Q (.ref m) st1):Wv (calls tab (k+3) o9 [.ref en] st) Q:=by
 walk_at "call0"
 refine aX (bY (ak (aM rfl (ak (bi (ak (bi (az (jy (k:=k+1) (s:=0) (X:=none) I.2 B I.1 he λF m0 J g1 nd hm hlt hF=>?_)))))))));have hm:∀y,y∈F↔Dom.be (EG G) y:=λy=>(hm y).trans gL;have fle:=Spn.wM _ F nd hlt;have srt:∀{s:aW}{R:D->aW->Prop},s[m0]? =some (.lst ((zs F).map .int))->(∀q s',Gr s s'->s'[q]? =some (.lst ((zs (bc G)).map .int))->R (.ref q) s')->W (dD .sorted [.ref m0] s) R:=λhs hR=>gF hs (by simp[zs];omega) (by rw[jV I.1 B nd hm];exact hR _ _ (.one _ _) aI)
 have hdl:(bc G).length<=9:=aB (gv _ _) I.2;refine aX (cv (az (dg (ce (ak (aM rfl (az (srt (aV hF) λq2 s2 g2 hq2=>⟨_,rfl,?_⟩))))))));have g12:Gr J s2:=(Gr.one _ _).trans g2;have hf2:=g2.at (aI (st:=J) (o:=O.lst []));have hL:bF (.at q2) s2=((zs (bc G)).map D.int).length:=by simp only[bF,hq2]
 have gl1:=g1.le
 have nq:q2≠J.length:=λz=>by
  rw[z,hf2] at hq2;have e:=O.lst.inj (ag hq2);have z0:(0:Nat)∈bc G:=(b8 I.1 B).mpr ⟨_,.nil⟩;cases Y:bc G with
  |nil=>rw[Y] at z0;cases z0
  |cons a l=>rw[Y] at e;cases e
 refine cw (L:=(zs (bc G)).map .int) (by rw[hL];exact ac _) (λi loc s=>(∃a b c d e f,loc=[some (.ref en),some (.ref m0),some (.ref J.length),a,b,c,d,e,f])/\Gr J s/\s[q2]? =some (.lst ((zs (bc G)).map .int))/\∃rs:List Nat,s[J.length]? =some (.lst (((fl (e_ G) ((bc G).take i)).zip rs).map λq=>.tup [.int (q.1:Int),.ref q.2]))/\rs.length=(fl (e_ G) ((bc G).take i)).length/\(∀r∈rs,J.length<r)/\∀(j r h:Nat),rs[j]? =some r->(fl (e_ G) ((bc G).take i))[j]? =some h->s[r]? =some (.lst ((zs (kf G h)).map .int))) ⟨⟨_,_,_,_,_,_,rfl⟩,g12,hq2,[],by simpa[fl] using hf2,rfl,(λr hr=>nomatch hr),λj r h a=>by simp at a⟩ (λi loc s hI=>by obtain⟨_,_,e,_⟩:=hI;simp only[c9,e]) (λi z loc s hz hI=>?_) λloc s hI=>?_
 ·obtain⟨⟨a,b,c,d,e,f,rfl⟩,gs,Y,rs,r1,r2,r3,r4⟩:=hI;obtain⟨hd,hx,rfl⟩:=dJ hz;have hdc:Dom.be (EG G) hd:=(b8 I.1 B).mp (aj hx);have ge:Gr st s:=g1.trans gs;have hFs:=gs.at hF;refine aX (oy (P:=λv=>v∈cl G hd) rfl hFs (by omega) (λv U s' R g' hR=>?_) λe1 s3 g3 he1=>?_)
  ·have vc:=(hm v).mp U;refine w_and (ba (aM rfl (bx (aM rfl (aM rfl (uP (he.gr (ge.trans g')) (hlt v U) ⟨_,rfl,λq=>?_,λq=>?_⟩))))))
   ·have hin:hd∈ff G v:=of_decide_eq_true q;refine bY (ak (aM rfl (ak (aM rfl (ak (aM rfl (az (tX (k:=k) I B (he.gr (ge.trans g')) λt Z g4 ht=>hR t Z g4 ?_))))))));rw[ht,gq I.1 B];exact⟨λq=>⟨q.1,fM.mpr hin,q.2⟩,λq=>⟨q.1,q.2.2⟩⟩
   ·have hin:¬hd∈ff G v:=of_decide_eq_false q;exact hR false _ (.refl _) ⟨nofun,λq=>absurd (fM.mp ((gq I.1 B).mp q).2.1) hin⟩
  have le1:(fl (λv=>v∈cl G hd) F).length<=9:=aB (mC _ _) (by omega)
  refine aX (oy (P:=λv=>v≠hd) rfl he1 (by omega) (λv U s' R g' hR=>ba (aM rfl (aM rfl (sP (hR _ _ (.refl _) (by simp;omega)))))) λe2 Z g4 he2=>?_)
  have em:∀v,v∈fl (λv=>v≠hd) (fl (λv=>v∈cl G hd) F)↔v∈cl G hd/\v≠hd:=λv=>by rw[iB,iB];exact⟨λq=>⟨q.1.2,q.2⟩,λq=>⟨⟨(hm v).mpr ((gq I.1 B).mp q.1).1,q.1⟩,q.2⟩⟩
  have le2:(fl (λv=>v≠hd) (fl (λv=>v∈cl G hd) F)).length<=9:=aB (mC _ _) le1;have g14:=gs.trans (g3.trans g4);have gl14:J.length<Z.length:=(av ((g3.trans g4).at r1)).1;refine aX (cv (az (dg (ce (ak (aM rfl (az (srt (aV (g14.at hF)) λq5 s5 g5 hq5=>⟨_,rfl,?_⟩))))))));have hb5:=g5.at (aI (st:=Z) (o:=O.lst []))
  have n5:q5≠Z.length:=λz=>by
   rw[z,hb5] at hq5;have e:=O.lst.inj (ag hq5);have z0:(0:Nat)∈bc G:=(b8 I.1 B).mpr ⟨_,.nil⟩;cases Y:bc G with
   |nil=>rw[Y] at z0;cases z0
   |cons a l=>rw[Y] at e;cases e
  have hL5:bF (.at q5) s5=((zs (bc G)).map D.int).length:=by simp only[bF,hq5]
  refine cw (L:=(zs (bc G)).map .int) (by rw[hL5];exact ac _) (λj loc s'=>(∃e f,loc=[some (.ref en),some (.ref m0),some (.ref J.length),some (.int (hd:Int)),some (.ref e1),some (.ref e2),some (.ref Z.length),e,f])/\Gr Z s'/\s'[q5]? =some (.lst ((zs (bc G)).map .int))/\s'[Z.length]? =some (.lst ((zs (fl (oo G hd) ((bc G).take j))).map .int))) ⟨⟨_,_,rfl⟩,(Gr.one _ _).trans g5,hq5,by simpa[fl,zs] using hb5⟩ (λj loc s' hI=>by obtain⟨_,_,e,_⟩:=hI;simp only[c9,e]) (λj z loc s' hz hI=>?_) λloc s' hI=>?_
  ·obtain⟨⟨e,f,rfl⟩,g',hq',hb'⟩:=hI;obtain⟨x,hxx,rfl⟩:=dJ hz;have xc:Dom.be (EG G) x:=(b8 I.1 B).mp (aj hxx);obtain⟨f1,f2⟩:=pd (P:=oo G hd) hxx;have fle9:(fl (oo G hd) ((bc G).take j)).length<=9:=aB (mC _ _) (by rw[List.length_take];omega)
   refine aX (bY (ak (aM rfl (ak (aM rfl (ak (aM rfl (az (jy (k:=k+1) (s:=x) (X:=some hd) I.2 B (cI I.1 B xc) (he.gr (g1.trans (g14.trans g'))) λF6 m6 s6 g6 nd6 hm6 hlt6 hF6=>?_)))))))))
   have add:∀{s7:aW},Gr s6 s7->oo G hd x->W (execs (calls tab (k+2)) [.app (.v 6) (.v 7)] [some (.ref en),some (.ref m0),some (.ref J.length),some (.int (hd:Int)),some (.ref e1),some (.ref e2),some (.ref Z.length),some (.int (x:Int)),some (.ref m6)] s7) (Kn (calls tab (k+2)) [] (Kf (λloc s'=>(∃e f,loc=[some (.ref en),some (.ref m0),some (.ref J.length),some (.int (hd:Int)),some (.ref e1),some (.ref e2),some (.ref Z.length),e,f])/\Gr Z s'/\s'[q5]? =some (.lst ((zs (bc G)).map .int))/\s'[Z.length]? =some (.lst ((zs (fl (oo G hd) ((bc G).take (j+1)))).map .int))) (Kn (calls tab (k+2)) [.ite (.cmp .NotEq (.v 4) (.lst [])) [.app (.v 2) (.tup [(.v 3),(.v 6)])] []] (Kf (λloc s=>(∃a b c d e f,loc=[some (.ref en),some (.ref m0),some (.ref J.length),a,b,c,d,e,f])/\Gr J s/\s[q2]? =some (.lst ((zs (bc G)).map .int))/\∃rs:List Nat,s[J.length]? =some (.lst (((fl (e_ G) ((bc G).take (i+1))).zip rs).map λq=>.tup [.int (q.1:Int),.ref q.2]))/\rs.length=(fl (e_ G) ((bc G).take (i+1))).length/\(∀r∈rs,J.length<r)/\∀(j r h:Nat),rs[j]? =some r->(fl (e_ G) ((bc G).take (i+1)))[j]? =some h->s[r]? =some (.lst ((zs (kf G h)).map .int))) (Kn (calls tab (k+2)) [.ret (.v 2)] (Kr Q)))))):=λ{s7} g7 hin=>by
    have hb7:=(g6.trans g7).at hb';refine dW (aM rfl (b_ hb7 (aM rfl (bW hb7 (by rw[a8];omega) (aK (a7 (aK (bA ⟨⟨_,_,rfl⟩,(g'.trans (g6.trans g7)).set (ac _),sn ((g6.trans g7).at hq') (λz=>n5 z.symm),?_⟩))))))))
    rw[f1 hin,cA];exact bj (av hb7).1
   refine ck (w_or (ba (aM rfl (aM rfl (mX ⟨_,rfl,λq=>?_,λq=>?_⟩)))))
   ·have e:x=hd:=by have:(x:Int)=hd:=of_decide_eq_true q;omega
    exact⟨_,rfl,λ_=>add (.refl _) (.inl e),nofun⟩
   have ne:x≠hd:=λe=>by have:¬(x:Int)=hd:=of_decide_eq_false q;omega
   refine ba (oy (P:=λv=>v∈F6) rfl ((g'.trans g6).at he2) (by omega) (λv U s7 R g7 hR=>ba (aM rfl (aM rfl (sT (g7.at hF6) (gu F6) (hR _ _ (.refl _) decide_eq_true_iff))))) λq7 s7 g7 hq7=>cv (az (kB (eq_nil (aV hq7) aI) ⟨_,rfl,λq=>?_,λq=>?_⟩)))
   ·have:fl (λv=>v∈F6) (fl (λv=>v≠hd) (fl (λv=>v∈cl G hd) F))≠[]:=λe=>by rw[e] at q;cases q
    obtain⟨v,U⟩:=List.exists_mem_of_ne_nil _ this;obtain⟨v1,v2⟩:=iB.mp U;obtain⟨v3,v4⟩:=(em v).mp v1;exact add (g7.more _) ((uO I.1 B xc).mpr (.inr ⟨v,v3,v4,(hm6 v).mp v2⟩))
   ·have nin:¬oo G hd x:=λw=>by
     rcases(uO I.1 B xc).mp w with w|⟨v,v3,v4,v5⟩
     ·exact ne w
     ·have U:v∈fl (λv=>v∈F6) (fl (λv=>v≠hd) (fl (λv=>v∈cl G hd) F)):=iB.mpr ⟨(em v).mpr ⟨v3,v4⟩,(hm6 v).mpr v5⟩;cases Y:fl (λv=>v∈F6) (fl (λv=>v≠hd) (fl (λv=>v∈cl G hd) F)) with
      |nil=>rw[Y] at U;cases U
      |cons a l=>rw[Y] at q;simp[zs] at q
    have g8:=g6.trans (g7.more (O.lst []));exact aK (a7 (aK (bA ⟨⟨_,_,rfl⟩,g'.trans g8,g8.at hq',by rw[f2 nin];exact g8.at hb'⟩)))
  ·obtain⟨⟨e,f,rfl⟩,g',hq',hb'⟩:=hI;rw[a8,List.take_length] at hb';have g0:=g3.trans (g4.trans g');obtain⟨f1,f2⟩:=pd (P:=e_ G) hx;refine a7 (ck (ba (aM rfl (cv (az (kB (eq_nil (aV ((g4.trans g').at he1)) aI) ⟨_,rfl,λq=>?_,λq=>?_⟩))))))
   ·have hh:e_ G hd:=λe=>by
     have:fl (λv=>v∈cl G hd) F=[]:=by rw[List.eq_nil_iff_forall_not_mem];intro v U;rw[e] at U;exact nomatch (iB.mp U).2
     rw[this] at q;cases q
    obtain⟨e0,he0⟩:=List.exists_mem_of_ne_nil _ hh
    have ebl:fl (oo G hd) (bc G)=kf G hd:=by
     unfold bc kf;rw[yj];refine oe λx=>⟨λq=>q.2,λq=>⟨?_,q⟩⟩;rcases q with rfl|q
     ·exact hdc
     ·exact q.come I.1 B
    rw[ebl] at hb';have r1':=aV (t:=[O.lst []]) (g0.at r1);have hrl:rs.length<=9:=by rw[r2];exact aB (mC _ _) (by rw[List.length_take];omega)
    refine dW (aM rfl (b_ r1' (bD (ak (aM rfl (ak (aM rfl (az (bW r1' ?_ (aK (a7 (aK (bA ⟨⟨_,_,_,_,_,_,rfl⟩,((gs.trans g0).more _).set (ac _),sn (aV (g0.at Y)) (λz=>nq z.symm),rs++[Z.length],?_,?_,λr hr=>?_,?_⟩)))))))))))))
    ·rw[List.length_map,List.length_zip];omega
    ·rw[bj (av r1').1,f1 hh,List.zip_append r2.symm,List.map_append];rfl
    ·rw[f1 hh,ai,ai,r2];rfl
    ·rcases List.mem_append.mp hr with hr|hr
     ·exact r3 r hr
     ·rw[List.mem_singleton.mp hr];exact gl14
    ·rw[f1 hh];refine nb (P:=λ_ r h=>((s'++[O.lst []]).set J.length _)[r]? =some (.lst ((zs (kf G h)).map .int))) r2 (λj r h a c=>?_) (sn (aV hb') (by omega))
     have:=r3 r (aj a);exact sn (aV (g0.at (r4 j r h a c))) (by omega)
   ·have hh:¬e_ G hd:=λw=>by
     obtain⟨e0,he0⟩:=List.exists_mem_of_ne_nil _ w;have U:e0∈fl (λv=>v∈cl G hd) F:=iB.mpr ⟨(hm e0).mpr ((gq I.1 B).mp he0).1,he0⟩;cases Y:fl (λv=>v∈cl G hd) F with
     |nil=>rw[Y] at U;cases U
     |cons a l=>rw[Y] at q;simp[zs] at q
    refine aK (a7 (aK (bA ⟨⟨_,_,_,_,_,_,rfl⟩,(gs.trans g0).more _,aV (g0.at Y),rs,?_⟩)));rw[f2 hh];exact⟨aV (g0.at r1),r2,r3,λj r h a c=>aV (g0.at (r4 j r h a c))⟩
 ·obtain⟨⟨a,b,c,d,e,f,rfl⟩,gs,Y,rs,r1,r2,r3,r4⟩:=hI;rw[a8,List.take_length] at r1 r2 r4
  have ehd:fl (e_ G) (bc G)=dU G:=by unfold bc dU;rw[yj];refine oe λx=>⟨λq=>q.2,λq=>⟨?_,q⟩⟩;obtain⟨e0,he0⟩:=List.exists_mem_of_ne_nil _ q;exact(j_ I.1 B he0).2
  rw[ehd] at r1 r2 r4;exact a7 (bp (aM rfl (bn (h _ _ (g1.trans gs) ⟨gl1,rs,r1,r2,λr hr=>⟨by have:=r3 r hr;omega,by have:=r3 r hr;omega⟩,r4⟩))))
end
section
variable{k r:Nat}{st:aW}{Q:D->aW->Prop}{G:List En}
noncomputable def cn(G:List En)(hs:List Nat)(x:Nat):Nat:=(hs.filter λh=>decide (x∈kf G h)).length
noncomputable def sE(G:List En)(hs:List Nat):List Nat:=(List.range G.length).map (cn G hs)
theorem pA{h:Nat}(e:hs[i]? =some h):cn G (hs.take (i+1)) x=cn G (hs.take i) x+if x∈kf G h then 1 else 0:=by
 unfold cn;rw[List.take_add_one,e,List.filter_append,ai];by_cases q:x∈kf G h
 ·rw[if_pos q];simp[q]
 ·rw[if_neg q];simp[q]
theorem o0(B:((hs.zip rs).map λq=>D.tup [.int (q.1:Int),.ref q.2])[i]? =some z):∃h r:Nat,hs[i]? =some h/\rs[i]? =some r/\z=.tup [.int (h:Int),.ref r]:=by rw[aq] at B;obtain⟨⟨h,r⟩,U,rfl⟩:=Option.map_eq_some_iff.mp B;obtain⟨J,I⟩:=List.getElem?_zip_eq_some.mp U;exact⟨h,r,J,I,rfl⟩
theorem me(h:rs.length=hs.length):((hs.zip rs).map λq=>D.tup [.int (q.1:Int),.ref q.2]).length=hs.length:=by rw[List.length_map,List.length_zip];omega
theorem jz(hg:0<G.length/\G.length<=9)(Z:dI G.length G)(hf:d8 st r G)(h:∀m st1,Gr st st1->st.length<=m->st1[m]? =some (.lst ((zs (sE G (dU G))).map .int))->Q (.ref m) st1):Wv (calls tab (k+7) uR [.ref r] st) Q:=by
 have hf':=hf;obtain⟨kd,kk,bs,h1,h3,h4⟩:=hf;have hbl:=h4.1
 walk_at "call0"
 refine aX (b5 (bz (aM rfl (xq h1 4 rfl ⟨_,rfl,?_⟩))));refine yB (F:=λ_=>.int 0) (by rw[List.length_map];omega) (λx hx st1 g=>d_ (bi ⟨rfl,.refl _⟩)) λJ g2=>?_
 have e0:(bs.map D.ref).map (λ_=>D.int 0)=(zs (sE G [])).map .int:=by
  refine List.ext_getElem? λi=>?_;simp only[sE,zs,List.map_map,List.getElem?_map];by_cases hi:i<G.length
  ·rw[List.getElem?_range hi,ae (by omega)];rfl
  ·rw[aT (by omega),aT (by simpa using hi)];rfl
 rw[e0];have g3:Gr st (J++[O.lst ((zs (sE G [])).map .int)]):=g2.more _;refine pO (bY (ak (aM rfl (az (lY hg Z (hf'.gr g3) λm s4 g4 hLo=>⟨_,rfl,?_⟩)))));obtain⟨lb,rs,l1,l2,l3,l4⟩:=hLo;rw[ai] at lb l3;simp only[List.length_cons,List.length_nil] at lb l3;have hc4:=g4.at (aI (st:=J) (o:=O.lst ((zs (sE G [])).map .int)));have hL:bF (.at m) s4=(((dU G).zip rs).map λq=>D.tup [.int (q.1:Int),.ref q.2]).length:=by simp only[bF,l1]
 refine cw (L:=((dU G).zip rs).map λq=>.tup [.int (q.1:Int),.ref q.2]) (by rw[hL];exact ac _) (λi loc s=>(∃x y z,loc=[some (.ref r),some (.ref J.length),x,y,z])/\Bu J.length s4 s/\s[J.length]? =some (.lst ((zs (sE G ((dU G).take i))).map .int))) ⟨⟨_,_,_,rfl⟩,⟨ac _,λ_ _ _=>rfl⟩,hc4⟩ (λi loc s I=>by obtain⟨_,b,_⟩:=I;simp only[c9,b.at l1 (by omega)]) (λi z loc s hz I=>?_) λloc s I=>?_
 ·obtain⟨⟨x,y,z',rfl⟩,bu,hc⟩:=I;obtain⟨hd,rr,e1,e2,rfl⟩:=o0 hz;have hat:=l4 i rr hd e2 e1;have hrn:=l3 rr (aj e2);refine i4 rfl (dg (aM rfl ⟨_,rfl,?_⟩));have hat':=bu.at hat (by omega)
  have hL2:bF (.at rr) s=((zs (kf G hd)).map D.int).length:=by simp only[bF,hat']
  have aZ:=Co (oo G hd) G.length;refine cw (L:=(zs (kf G hd)).map .int) (by rw[hL2];exact ac _) (λj loc s'=>(∃z,loc=[some (.ref r),some (.ref J.length),some (.int (hd:Int)),some (.ref rr),z])/\Bu J.length s4 s'/\s'[J.length]? =some (.lst ((zs ((List.range G.length).map λx=>cn G ((dU G).take i) x+if x∈(kf G hd).take j then 1 else 0)).map .int))) ⟨⟨_,rfl⟩,bu,by simpa[sE] using hc⟩ (λj loc s' I=>by obtain⟨_,b,_⟩:=I;simp only[c9,b.at hat (by omega)]) (λj z loc s' hz I=>?_) λloc s' I=>?_
  ·obtain⟨⟨z',rfl⟩,Y,B⟩:=I;obtain⟨v,hv,rfl⟩:=dJ hz;have U:v<G.length:=(iH.mp (aj hv)).1;have hnt:v∉(kf G hd).take j:=md aZ hv;have tk:(kf G hd).take (j+1)=(kf G hd).take j++[v]:=by rw[List.take_add_one,hv];rfl
   refine yH (aM rfl (aM rfl ⟨_,v,_,_,1,rfl,rfl,B,cV (a:=cn G ((dU G).take i) v) ?_,bi ⟨rfl,B,aK (bA ⟨⟨_,rfl⟩,Y.set (.inl rfl),?_⟩)⟩⟩))
   ·rw[aq,List.getElem?_range U];simp[hnt]
   ·rw[bj (av B).1];congr 2;refine List.ext_getElem? λx=>?_;by_cases e:v=x
    ·subst e
     rw[aL (by simp[zs];exact U),cV (a:=cn G ((dU G).take i) v+1) (by rw[aq,List.getElem?_range U,tk];simp)]
     rfl
    ·rw[aF e];by_cases hx:x<G.length
     ·have ne:¬x=v:=λz=>e z.symm
      rw[cV (a:=cn G ((dU G).take i) x+if x∈(kf G hd).take j then 1 else 0) (by rw[aq,List.getElem?_range hx];rfl),cV (a:=cn G ((dU G).take i) x+if x∈(kf G hd).take j then 1 else 0) (by rw[aq,List.getElem?_range hx,tk];simp[ne])]
     ·rw[aT (by simp[zs];omega),aT (by simp[zs];omega)]
  ·obtain⟨⟨z',rfl⟩,Y,B⟩:=I;rw[a8,List.take_length] at B;refine a7 (aK (bA ⟨⟨_,_,_,rfl⟩,Y,?_⟩));rw[B];congr 3;unfold sE;congr 1;refine List.map_congr_left λx _=>?_;rw[pA e1]
 ·obtain⟨⟨x,y,z',rfl⟩,bu,hc⟩:=I;rw[me l2,List.take_length] at hc;exact a7 (bp (aM rfl (bn (h _ _ (bu.gr2 (g3.trans g4) g2.le) g2.le hc))))
end
section
variable{k:Nat}{st:aW}{Q:D->aW->Prop}{G:List En}
theorem yF{x0 x1 x2 x3 x6 x7 x8 x9 Z Y:Option D}{en du:Nat}(hg:G.length<=9)(he:bS st en (G.map En.fol))(hd:oi b st du (dU G) (kf G))(h:∀m st1,Gr st st1->st.length<=m->st1[m]? =some (.lst ((zs (sE G (dU G))).map .int))->Q (.ref m) st1):
  W (run g (.comp .rng false (.bt .len [(.v 4)]) (.c (.non)) false (.bt .len [(.comp .seq true (.v 6) (.cmp .In (.v 2) (.v 1)) true (.v 0))])) [x0,x1,x2,x3,some (.ref en),some (.ref du),x6,x7,x8,x9,Z,Y] st) Q:=by
 obtain⟨rs,e1,e2,_⟩:=he;rw[List.length_map] at e2;obtain⟨_,qs,l1,l2,_,l4⟩:=hd;have hdl:(dU G).length<=9:=aB (gv _ _) hg;refine b5 (ce (ak (aM rfl (az (cN e1 ⟨_,dj (by rw[List.length_map];omega),?_⟩)))))
 rw[Int.toNat_natCast,List.length_map,e2];refine bN (L:=bO G.length) (by show(bO G.length).length<=1000000;rw[bP];omega) (ac _) (λi acc s=>Gr st s/\acc=(zs ((List.range i).map (cn G (dU G)))).map .int) ⟨.refl _,rfl⟩ (λ_ _ _ _=>rfl) (λi z acc s hz B=>?_) λacc s B=>?_
 ·obtain⟨I,rfl⟩:=B;obtain⟨hi,rfl⟩:=p_ hz;refine d_ (ce (ak (b5 (aM rfl ⟨_,rfl,?_⟩))));have J:=I.at l1;have hL:bF (.at du) s=(((dU G).zip qs).map λq=>D.tup [.int (q.1:Int),.ref q.2]).length:=by simp only[bF,J]
  refine bN (L:=((dU G).zip qs).map λq=>.tup [.int (q.1:Int),.ref q.2]) (by rw[hL,me l2];omega) (by rw[hL];exact ac _) (λj acc s'=>s'=s/\acc.length=cn G ((dU G).take j) i) ⟨rfl,rfl⟩ (λj acc s' B=>by obtain⟨rfl,_⟩:=B;simp only[c9,J]) (λj z acc s' hz B=>?_) λacc s' B=>?_
  ·obtain⟨rfl,U⟩:=B;obtain⟨hd,rr,c1,c2,rfl⟩:=o0 hz;refine vS (ba (aM rfl (aM rfl (sT (I.at (l4 j rr hd c2 c1)) (gu _) ⟨_,rfl,λq=>aM rfl ⟨rfl,?_⟩,λq=>⟨rfl,?_⟩⟩))))
   ·have q:i∈kf G hd:=of_decide_eq_true q;dsimp only;rw[pA c1,if_pos q,ai,U];rfl
   ·have q:¬i∈kf G hd:=of_decide_eq_false q;dsimp only;rw[pA c1,if_neg q,U];rfl
  ·obtain⟨rfl,U⟩:=B;rw[me l2,List.take_length] at U;refine az (cN aI ⟨I.more _,?_⟩);dsimp only;rw[List.range_succ,List.map_append,cA,U];rfl
 ·obtain⟨I,rfl⟩:=B;rw[bP];exact h _ _ (I.more _) I.le aI
theorem Bl{ns:List Int}(hns:ns.length<=63)(h:∀st1,Q (.bl true) st1):Wv (calls tab (k+8) BV [.fl (ns.map .int)] st) Q:=by
 walk_at "call0"
 refine aX (bY (ak (sO (aM rfl (bi ⟨_,rfl,AT (ak (bi (az ?_)))⟩)))))
 have hcut:∃cs:List Int,cutD (ns.map D.int) none (some 12)=cs.map .int/\cs.length<=63:=by
  refine⟨((ns.drop (HT.cC (ns.map D.int).length 0 none)).take (HT.cC (ns.map D.int).length (ns.map D.int).length (some 12) - HT.cC (ns.map D.int).length 0 none)),?_,?_⟩
  ·unfold cutD;rw[List.map_take,List.map_drop]
  ·rw[List.length_take,List.length_drop];omega
 obtain⟨cs,hcs,hcl⟩:=hcut;rw[hcs];refine rF (k:=k+5) aI hcl λl s1 hl1 g1 hls=>?_;refine aX (bY (ak (aM rfl (az (wt (k:=k+4) hl1 λG f s2 b2 Y B hf=>?_)))));have hF:=hf;obtain⟨kd,kk,bs,f1,_⟩:=hF;refine aX (jm (aM rfl (DN f1 rfl (az (tV (k:=k+4) Y.2 hf λs3 g3=>?_)))));refine aX (bY (ak (aM rfl (az (wu (k:=k+5) Y.2 (hf.gr g3) λen s4 g4 he=>?_)))));have hf4:=hf.gr (g3.trans g4);refine aX (bY (ak (aM rfl (az (Bp (k:=k+4) Y B he λdu s5 g5 hdu=>?_)))));have Z:=hf4.gr g5;have he5:=he.gr g5;refine aX (bY (ak (aM rfl (az (lY (k:=k+1) Y B Z λfo s6 g6 hfo=>?_)))));refine aX (yF Y.2 (he5.gr g6) (hdu.gr g6) λdp s7 g7 hdp0 hdp=>?_);have hfo7:=hfo.gr g7;have hdu7:=hdu.gr (g6.trans g7);obtain⟨fb,rs,q1,q2,q3,q4⟩:=hfo
 have rat:∀r∈rs,∃xs,s6[r]? =some (.lst xs):=λr hr=>by
  obtain⟨j,e⟩:=List.getElem?_of_mem hr;have hj:j<(dU G).length:=by rw[<-q2];exact(av e).1
  exact⟨_,q4 j r _ e (ae hj)⟩
 have rdp:∀r∈rs,r≠dp:=λr hr=>by obtain⟨xs,e⟩:=rat r hr;have:=(av e).1;omega
 have fdp:fo≠dp:=by have:=(av q1).1;omega
 have eqc:∀{s:aW}{a b:Nat},s[a]? =some (.lst ((zs (sE G (dU G))).map .int))->s[b]? =some (.lst ((zs (sE G (dU G))).map .int))->cj 60 s (.ref a) (.ref b)=some true:=λh1 h2=>qO (n:=58) h1 h2;refine ck (w_or (w_not (sS (aM rfl ⟨_,_,rfl,g7.at q1,true,rfl,_,rfl,nofun,λ_=>?_⟩))));refine w_or (ba (aM rfl (aM rfl (kB (x_ hfo7 hdu7) ⟨_,rfl,nofun,λ_=>?_⟩))));refine ba (bY (ak (aM rfl (az (jz (k:=k) Y B (Z.gr (g6.trans g7)) λd1 s8 g8 hd81 hd8=>?_)))));refine aM rfl (kB (eqc hd8 (g8.at hdp)) ⟨_,rfl,nofun,λ_=>aK (a7 ?_)⟩);have gA:Gr s5 s8:=g6.trans (g7.trans g8);have q18:=(g7.trans g8).at q1;refine pO (aM rfl ⟨_,rfl,?_⟩);have hL:bF (.at fo) s8=(((dU G).zip rs).map λq=>D.tup [.int (q.1:Int),.ref q.2]).length:=by simp only[bF,q18]
 refine cw (L:=((dU G).zip rs).map λq=>.tup [.int (q.1:Int),.ref q.2]) (by rw[hL];exact ac _) (λi loc s=>(∃x y x' y',loc=[some (.fl (ns.map .int)),some (.ref l),some (.ref f),some (pW G),some (.ref en),some (.ref du),some (.ref fo),some (.ref dp),x,y,x',y'])/\Gr s5 s/\s[fo]? =some (.lst (((dU G).zip rs).map λq=>.tup [.int (q.1:Int),.ref q.2]))/\(∀r∈rs,∃xs,s[r]? =some (.lst xs))/\s[dp]? =some (.lst ((zs (sE G (dU G))).map .int))) ⟨⟨_,_,_,_,rfl⟩,gA,q18,λr hr=>?_,g8.at hdp⟩ (λi loc s hI=>by obtain⟨_,_,e,_⟩:=hI;simp only[c9,e]) (λi z loc s hz hI=>?_) λloc s hI=>?_
 ·obtain⟨xs,e⟩:=rat r hr;exact⟨xs,(g7.trans g8).at e⟩
 ·obtain⟨⟨x,y,x',y',rfl⟩,gs,hfs,hrs,hds⟩:=hI;obtain⟨hd,rr,c1,c2,rfl⟩:=o0 hz;have U:=aj c2;obtain⟨xs,hx⟩:=hrs rr U;have hrl:=(av hx).1;refine i4 rfl (ck (w_not (sS (aM rfl ⟨rr,xs,rfl,hx,true,rfl,_,rfl,nofun,λ_=>aK (a7 (xQ (aM rfl ⟨rr,xs,rfl,hx,aK (bA ⟨⟨_,_,_,_,rfl⟩,gs.set (q3 rr U).1,sn hfs (q3 rr U).2,λr hr=>?_,sn hds (rdp rr U)⟩)⟩)))⟩))));by_cases e:rr=r
  ·subst e;exact⟨[],bj hrl⟩
  ·obtain⟨ys,hy⟩:=hrs r hr;exact⟨ys,sn hy e⟩
 obtain⟨⟨x,y,x',y',rfl⟩,gs,hfs,hrs,hds⟩:=hI;have hdl:(dU G).length<=9:=aB (gv _ _) Y.2;refine a7 (dW (aM rfl (b_ hfs (bi (bW hfs (by rw[me q2];omega) ?_)))))
 obtain⟨I,hs10⟩:∃I,I=s.set fo (.lst (((dU G).zip rs).map (λq=>D.tup [.int (q.1:Int),.ref q.2])++[.str "q"])):=⟨_,rfl⟩;have g10:Gr s5 I:=by rw[hs10];exact gs.set fb
 have hd10:I[dp]? =some (.lst ((zs (sE G (dU G))).map .int)):=by rw[hs10];exact sn hds fdp
 rw[<-hs10];clear hs10 hfs hrs hds gs;refine aX (bY (ak (aM rfl (az (ij (k:=k+2) Y B (Z.gr g10) λrL s11 g11 D11=>?_)))));refine ck (ba (aM rfl (bY (ak (aM rfl (az (p8 (k:=k+5) Y B (he5.gr (g10.trans g11)) λrK s12 g12 D12=>kB (yk (D11.gr g12) D12) ⟨_,rfl,nofun,λ_=>aK (a7 ?_)⟩)))))));have J:=D11.gr g12;have g1012:=g11.trans g12;have nl:I.length<s12.length:=(av J.hd).1;refine vU (aM rfl ⟨I.length,_,λi loc s=>(∃x y x' y',loc=[some (.fl (ns.map .int)),some (.ref l),some (.ref f),some (pW G),some (.ref en),some (.ref du),some (.ref fo),some (.ref dp),x,y,x',y'])/\Gr I s/\s[I.length]? =some (.dcf (zD (kp (pG G)) rL))/\∀r∈rL,∃xs,s[r]? =some (.lst xs)/\xs.length<=100+i,rfl,J.hd,⟨⟨_,_,_,_,rfl⟩,g1012.set (ac _),bj nl,λr hr=>?_⟩,λi loc s hI=>hI.2.2.1,λi p loc s hp hI=>?_,λloc s hI=>?_⟩)
 ·obtain⟨j,e⟩:=List.getElem?_of_mem hr;have hj:j<(kp (pG G)).length:=by rw[<-J.ln];exact(av e).1
  refine⟨_,sn (J.at_ j r _ e (ae hj)) (J.ab r hr).2.symm,?_⟩;rw[a8];exact aB (aB (gy (pG G) _) (l9 Y.2)) (by decide)
 ·obtain⟨⟨x,y,x',y',rfl⟩,gs,hfz,hrs⟩:=hI;rw[aq] at hp;obtain⟨⟨fk,rr⟩,c1,rfl⟩:=Option.map_eq_some_iff.mp hp;have U:rr∈rL:=(List.of_mem_zip (aj c1)).2
  have hi:i<18:=by have h1:=(av c1).1;rw[List.length_zip] at h1;exact aA h1 (aB (Nat.min_le_left _ _) (aB (dq (pG G)).2.1 (l9 Y.2)))
  obtain⟨xs,hx,hxl⟩:=hrs rr U;have hrl:=(av hx).1;refine dW (aM rfl (b_ hx (bi (bW hx (by omega) (aK (bA ⟨⟨_,_,_,_,rfl⟩,gs.set (J.ab rr U).1,sn hfz (J.ab rr U).2,λr hr=>?_⟩))))))
  by_cases e:rr=r
  ·subst e;exact⟨_,bj hrl,by rw[ai];simp only[List.length_cons,List.length_nil];omega⟩
  ·obtain⟨ys,hy,hyl⟩:=hrs r hr;exact⟨ys,sn hy e,by omega⟩
 obtain⟨⟨x,y,x',y',rfl⟩,gs,hfz,_⟩:=hI;have g13:Gr I (s.set I.length (.dct (zD (kp (pG G)) rL))):=gs.set (ac _);obtain⟨s13,hs13⟩:∃s13,s13=s.set I.length (.dct (zD (kp (pG G)) rL)):=⟨_,rfl⟩;rw[<-hs13] at g13 ⊢;clear hs13 hfz gs;refine xQ (bY (ak (aM rfl (az (jz (k:=k) Y B (Z.gr (g10.trans g13)) λd2 s14 g14 hd2 hd14=>⟨d2,_,rfl,hd14,?_⟩)))));have g15:Gr I (s14.set d2 (.lst [])):=(g13.trans g14).set (aB g13.le hd2);obtain⟨s15,hs15⟩:∃s15,s15=s14.set d2 (.lst []):=⟨_,rfl⟩;rw[<-hs15] at g15 ⊢;clear hs15;have g515:=g10.trans g15;refine ck (w_or (ba (bY (ak (aM rfl (az (lY (k:=k+1) Y B (Z.gr g515) λfo2 s16 g16 hfo2=>aM rfl (kB (x_ hfo2 ((hdu.gr g515).gr g16)) ⟨_,rfl,nofun,λ_=>?_⟩))))))));refine ba (bY (ak (aM rfl (az (jz (k:=k) Y B (Z.gr (g515.trans g16)) λd3 s17 g17 hd31 hd3=>aM rfl (kB (eqc hd3 ((g15.trans (g16.trans g17)).at hd10)) ⟨_,rfl,nofun,λ_=>aK (a7 ?_)⟩))))));have g517:=g515.trans (g16.trans g17);refine bp (w_and (ba (bY (ak (aM rfl (az (ij (k:=k+2) Y B (Z.gr g517) λr8 s18 g18 D18=>bY (ak (aM rfl (az (p8 (k:=k+5) Y B (he5.gr (g517.trans g18)) λr9 s19 g19 D19=>w_eq (yk (D18.gr g19) D19) ⟨_,rfl,λ_=>?_,nofun⟩)))))))))));have f19:=Z.gr (g517.trans (g18.trans g19));obtain⟨_,_,_,f2,_⟩:=id f19;exact ba (jm (aM rfl (DN f2 rfl (az (tV (k:=k+4) Y.2 f19 λs20 g20=>aM rfl (w_eq (wc G).eq (bn (h s20))))))))
end
end K49
namespace K49
noncomputable def top(i:Nat):Stmt:=PySem.Challenge.pw_eachstepsame_k49_loops_and_depths.main.body.getD i (.Pass ⟨0,0,0,0⟩)
def meth(i j:Nat):Stmt:=match top i with| .ClassDef _ _ _ body _ _ _ _ _ _ _=>body.getD j (.Pass ⟨0,0,0,0⟩)|s=>s
noncomputable def names:List Str:=(["gone_through","turned","nearest_rulers","common_ruler","ruled_spans","spans_rule","followers","ways_of","reached","leading_to","loops_of","depths","closing_blocks","loop_blocks","_law_mixed","_law_numbers","_law_take","_law_end","_law_graph","_law_edges","_law_seen","_law_rules","_law_due","_law_leading","law"]:List Str)++([]:List Str)
noncomputable def csts:List (Str×D):=[]
def T:Tab:=⟨names,csts,true,[⟨"Jump",["edge"],[("edges",28),("told",27)]⟩,⟨"Branch",["test","yes","no"],[("edges",31),("told",30)]⟩,⟨"Back",["operand"],[("edges",25),("told",33)]⟩,⟨"Risk",["op","extra","asked","edge","catches"],[("edges",36),("told",35)]⟩,⟨"Block",["params","rows","end"],[("told",38)]⟩,⟨"Function",["takes","gives","kinds","kept_kinds","blocks"],[("told",40)]⟩],[("Jump",26),("Branch",29),("Back",32),("Risk",34),("Block",37),("Function",39)]⟩
def R1(x:Str)(ps more:List Str)(i:Nat)(f:Fn):Rec:=⟨x,x,x,ps,ps++more,top i,f⟩
def R2(m q:Str)(ps more:List Str)(i j:Nat)(f:Fn):Rec:=⟨q,m,q,ps,ps++more,meth i j,f⟩
noncomputable def bg:List Rec:=[R1 "gone_through" ["ways","begin","done"] ["order","pile","top","number","follower"] 10 dw,R1 "turned" ["ways"] ["back","number","followers","follower"] 11 j0,R1 "nearest_rulers" ["ways"] ["order","rank","back","leading","nearest","changed","place","ruler"] 12 cQ,R1 "common_ruler" ["numbers","nearest","rank"] ["ruler","number","climbing"] 13 dz,R1 "ruled_spans" ["nearest"] ["beneath","number","ruler","spans","pile","count","top"] 14 dN,R1 "spans_rule" ["spans","number","other"] [] 15 eG,R1 "followers" ["function","number"] [] 17 fC,R1 "ways_of" ["function"] [] 18 iC,R1 "reached" ["function"] [] 19 iD,R1 "leading_to" ["function"] ["found","number","follower"] 21 eI,R1 "loops_of" ["function"] ["leading","closing"] 22 gm,R1 "depths" ["function"] ["counts","head","numbers","number"] 23 j1,R1 "closing_blocks" ["function","leading"] ["found","spans","head","numbers","closing"] 24 cR,R1 "loop_blocks" ["head","closing","leading"] ["found","waiting","number"] 25 dO,R1 "_law_mixed" ["_law_cell","_law_k"] ["_law_number"] 28 eK,R1 "_law_numbers" ["_law_cells","_law_many"] ["_law_found","_law_cell","_law_left","_law_k"] 29 dA,R1 "_law_take" ["_law_left"] [] 30 fD,R1 "_law_end" ["_law_left","_law_many"] ["_law_way","_law_one","_law_other"] 31 gn,R1 "_law_graph" ["_law_left"] ["_law_many","_law_blocks"] 32 eL,R1 "_law_edges" ["_law_function"] ["_law_found","_law_block","_law_told"] 33 eM,R1 "_law_seen" ["_law_edges_here","_law_start","_law_without"] ["_law_found","_law_at","_law_other"] 34 fE,R1 "_law_rules" ["_law_edges_here","_law_one","_law_other"] [] 35 eJ,R1 "_law_due" ["_law_edges_here"] ["_law_some","_law_found","_law_head","_law_ends","_law_others","_law_blocks","_law_one","_law_ways"] 36 gp,R1 "_law_leading" ["_law_edges_here"] ["_law_found","_law_one","_law_other"] 37 dB,R1 "law" ["_law_script"] ["_law_left","_law_function","_law_kept","_law_edges_here","_law_due_here","_law_found","_law_deep","_law_head","_law_blocks","_law_told","_law_some"] 38 u9,R2 "edges" "End.edges" ["self"] [] 2 0 fJ,R2 "__init__" "Jump.__init__" ["self","edge"] [] 3 0 fI,R2 "told" "Jump.told" ["self"] [] 3 1 fH,R2 "edges" "Jump.edges" ["self"] [] 3 3 eP,R2 "__init__" "Branch.__init__" ["self","test","yes","no"] [] 4 0 dS,R2 "told" "Branch.told" ["self"] [] 4 1 dR,R2 "edges" "Branch.edges" ["self"] [] 4 3 dC,R2 "__init__" "Back.__init__" ["self","operand"] [] 5 0 fL,R2 "told" "Back.told" ["self"] [] 5 1 fK,R2 "__init__" "Risk.__init__" ["self","op","extra","asked","edge","catches"] [] 6 0 fG,R2 "told" "Risk.told" ["self"] [] 6 1 fF,R2 "edges" "Risk.edges" ["self"] [] 6 3 eO,R2 "__init__" "Block.__init__" ["self","params","rows","end"] [] 7 0 eR,R2 "told" "Block.told" ["self"] [] 7 1 eQ,R2 "__init__" "Function.__init__" ["self","takes","gives","kinds","blocks"] [] 8 0 c0,R2 "told" "Function.told" ["self"] ["kinds"] 8 1 cZ]
noncomputable def ad:List Addr:=[357,362,367,374,379,386,391,396,403,410,415,420,425,432,446,453,460,467,472,477,484,491,496,503,508,35,77,84,98,124,131,145,178,185,218,225,237,270,275,310,315]
theorem chk:∀r∈bg,Chk T r:=by
 unfold bg
 repeat' refine List.forall_mem_cons.mpr ⟨⟨⟨rfl,rfl,rfl,by decide+kernel,rfl,by decide+kernel,by decide+kernel⟩,by decide+kernel,by kernel_rfl,rfl,by decide+kernel⟩,?_⟩
 exact λ_ h=>nomatch h
def Cw(r:Rec)(us:List Value):Prop:=∀kV doc pm an cdv ct,bindArgs (PySem.W.fnOf r.fname r.qual (dG r.st) (cU r.st) (bR r.st) .none kV doc pm an cdv ct) ⟨us,[]⟩=pure (r.ps.zip us)
def AJ(r:Rec):Nat->List Value->Prop
 |0,us=>Cw r us
 |n+1,us=>∀a,AJ r n (us++[a])
theorem yo{r:Rec}:∀(n:Nat)(us vs:List Value),vs.length=n->AJ r n us->Cw r (us++vs)
 |0,us,[],_,h=>by rw[List.append_nil];exact h
 |n+1,us,v::vs,hl,h=>by have:=yo n (us++[v]) vs (Nat.succ.inj hl) (h v);rwa [List.append_assoc] at this
theorem bv{r:Rec}(n:Nat)(U:r.ps.length=n)(h:AJ r n []):AO r:=λkV B J Z I ct us Y=>yo n [] us (Y.trans U) h kV B J Z I ct
theorem aZ:∀r∈bg,AO r:=by
 unfold bg
 repeat' refine List.forall_mem_cons.mpr ⟨by first|(refine bv 1 (by rfl) ?_;exact λ_ _ _ _ _ _ _=>rfl)|(refine bv 2 (by rfl) ?_;exact λ_ _ _ _ _ _ _ _=>rfl)|(refine bv 3 (by rfl) ?_;exact λ_ _ _ _ _ _ _ _ _=>rfl)|(refine bv 4 (by rfl) ?_;exact λ_ _ _ _ _ _ _ _ _ _=>rfl)|(refine bv 5 (by rfl) ?_;exact λ_ _ _ _ _ _ _ _ _ _ _=>rfl)|(refine bv 6 (by rfl) ?_;exact λ_ _ _ _ _ _ _ _ _ _ _ _=>rfl),?_⟩
 exact λ_ h=>nomatch h
end K49
end Ev
namespace Ev.K49
open PySem PySem.Spec PyProof.Rows L2
theorem DP(P:Params):k8 (Op.K P) T bg ad=true:=by kernel_rfl
theorem DO(P:Params):(bg.zip ad).map (λp=>(Op.K P).lookup p.2)=(bg.zip ad).map λp=>AL p.1 ((Op.K P).lookup p.2):=by kernel_rfl
theorem D_(P:Params):xl (Op.K P) T=true:=by kernel_rfl
theorem y3(ns:List Int)(B:ns.length<=63):∃st',calls (bg.map (·.fn)) 8 24 [.fl (ns.map .int)] []=.ok (.v (.bl true)) st':=by
 obtain⟨a,st',e,h⟩:=W.get (Bl (k:=0) (st:=[]) (ns:=ns) (Q:=λd _=>d=.bl true) B λ_=>rfl);cases a with
 |v d=>have h:d=.bl true:=h;subst h;exact⟨st',e⟩
 |x n=>exact h.elim
end Ev.K49
open PySem PySem.W PyProof.Rows
set_option maxRecDepth 100000 in
set_option maxHeartbeats 0 in
theorem PySem.Challenge.cw_eachstepsame_k49_loops_and_depths_holds : PySem.Challenge.rw_eachstepsame_k49_loops_and_depths.Holds := by
 w_on;o_law
 refine holds_open (q:=Op.q) (loose:=[]) (Xt:=Op.Xt) (XP:=XL Op.q []) (Yf:=Op.hk.obs) (Ya:=Op.hk.val) (YP:=Op.hk.says) (N:=6880) Op.left (Hook.of Op.hk) (Hook.keeps Op.hk) (λs e=>xl_of s (Bool.and_eq_true_iff.mp e).1) XL.keeps (by rfl) (by rfl) (by rfl) (λs e=>recFacts_of (Bool.and_eq_true_iff.mp e).2) (by rfl) (by first|assumption|decide+kernel) (by decide+kernel) ⟨rfl,rfl,rfl,rfl,rfl,by decide+kernel⟩ ?hw ?hc
 case hw=>w_witness2
 refine Ev.walk (l:=PySem.Challenge.rw_eachstepsame_k49_loops_and_depths) (n:=2*8) (x:= "_law_script") rfl rfl ⟨rfl,by decide,by decide⟩ (λw h Y=>PySem.W.kIn_of (K:=Op.K) (as:=Op.as) (e:=Op.keys) Y) ?F
 case F=>
  intro w mg fa h KX G hmg;exact Ev.xb (n:=8) (li:=24) (a:=508) (r:=Ev.K49.bg[24]) KX G hmg Ev.K49.aZ (Ev.K49.DP _) (Ev.K49.DO _) (Ev.sw KX G Ev.K49.chk rfl Ev.K49.aZ (Ev.K49.DP _) (Ev.K49.DO _) (by decide) (Ev.K49.D_ _) rfl) rfl rfl (by kernel_rfl) rfl Ev.K49.y3
