import PyProof.Rows.All
import Wide.All
import OpenK.AllK
import Wide.FinOn
import PyProof.EqAt
import PyProof.EqKinds
import PyProof.TupleCall
import Lean
import PyProof.NeKinds
import PyProof.NeData
import PyProof.FactsAll.dict
import PyProof.DictList
import KE.KDictList
import PyProof.DictItems
import PyProof.DictWalks
import PyProof.DictRoadsH
import PyProof.SetRoads
import PyProof.SetNew
import PySem.SetOps
import PyProof.Rows.SetFrom
import PyProof.SetScanFacts
import KE.KDictSum
import PyProof.FactsAll.NoneType_1
import PyProof.StrOps2
import PyProof.FitsBits
import PyProof.Rows.IntMath
import PyProof.ListRange
import KE.KRevIter
import PyProof.AttrMiss
import PyProof.IsiBase
import KE.KDictOf
import KE.KSortTup
import KE.KItemsList
import PyProof.Rows.FactsT3
import PyProof.Rows.FactsT2
import KE.KDictLaws
import PyProof.Rows.Range3
import PyProof.EnumFor
import PyProof.EnumMake
import PyProof.EnumStmt
import PyProof.Draws
import PyProof.TupleIter
import PyProof.ZipIter
import PyProof.DictUpdate
import PySem.Challenge.RW_eachstepsame_k23_rulers_and_ways
set_option genSizeOf false
set_option genSizeOfSpec false
set_option maxRecDepth 100000
set_option maxHeartbeats 0
set_option Elab.async false
set_option linter.all false
noncomputable def PySem.W.Fast.tw6374624017468441819:PySem.Program:=PySem.Challenge.pw_eachstepsame_k23_rulers_and_ways
theorem PySem.W.Fast.te6374624017468441819:PySem.Challenge.pw_eachstepsame_k23_rulers_and_ways=PySem.W.Fast.tw6374624017468441819:=rfl
namespace Op
open PySem PySem.W PyProof.Rows PySem.Calls
noncomputable section
noncomputable def de(P:Params)(k:Str)(t:Nat)(v:Value):DictEntry:=⟨PyData.keyHash P k,.str k t,v⟩
noncomputable def tu(l:List Value):Obj:=⟨.type "tuple",none,.seq ⟨l⟩ 0,⟨[]⟩⟩
noncomputable def co(l:List Value):Obj:=⟨.type "code",none,.fields ⟨l⟩,⟨[]⟩⟩
noncomputable def ob(c:Value)(d:Data):Obj:=⟨c,none,d,⟨[]⟩⟩
noncomputable def at_:List Stmt->Nat->Stmt
 |[],_=> .Pass ⟨0,0,0,0⟩
 |s::_,0=>s
 |_::l,n+1=>at_ l n
noncomputable def inC:Stmt->List Stmt
 | .ClassDef _ _ _ b .. =>b
 |_=>[]
noncomputable def fd(s:Stmt)(qn:Str)(g:Nat)(cl:List (Str×Nat))(df kd dc pm:Value)(an:Option Nat)(cd ct:Value)(bl:Nat):Data:=match s with
 | .FunctionDef n a b _ _ _ sc _ _ _=> .func ⟨n,qn,a,.stmts b,sc,g,cl,df,kd,dc,pm,an,cd,ct,bl⟩
 |_=> .plain
noncomputable def body:List Stmt:=PySem.Challenge.pw_eachstepsame_k23_rulers_and_ways.main.body
def q:Program:={PySem.Challenge.pw_eachstepsame_k23_rulers_and_ways with main:={PySem.Challenge.pw_eachstepsame_k23_rulers_and_ways.main with body:=((((body.eraseIdx 25).eraseIdx 18).eraseIdx 13).eraseIdx 1)}}
def t0:Obj:=tu []
def dr(P:Params)(k:Str)(t r:Nat):DictEntry:=de P k t (.ref r)
def ds(P:Params)(k:Str)(t:Nat)(x:Str)(u:Nat):DictEntry:=de P k t (.str x u)
def dc(n:Nat)(l:List DictEntry):Obj:=ob (.type "dict") (.dict ⟨l⟩ n)
noncomputable def lf(o:Obj):BT:= .node o .nil .nil
def n7(a b c d e f g:Obj):BT:= .node a (.node b (lf c) (lf d)) (.node e (lf f) (lf g))
def H0(a:Str)(b:Nat)(c:Int)(d:Nat)(e:Int):Obj:=co [(.str a b),(.str a (b+1)),(.str "/claim/cut.py" (b+2)),(.int c 0),(.int 0 0),(.int 0 0),(.int 0 0),(.int 0 0),(.ref d),(.bool false),(.int 181 0),(.ref (d+1)),.none,.none,.none,.none,(.int e 0),(.int c 0),(.str "/claim/cut.py" (b+4))]
noncomputable def H1(a:Nat)(b:Nat)(c:Str)(d:Nat):Obj:=⟨(.type "frame"),none,.plain,⟨[(some (.ref a)),(some (.ref 3)),(some (.ref b)),none,(some (.str c d)),none,(some (.ref 0))]⟩⟩
def H2(a:Str)(b:Nat):Obj:=tu [(.str a b)]
def H3(a:Nat)(b:Str):Obj:=ob .none (fd (at_ body a) b 0 [] .none .none .none .none none .none .none 0)
def H4(a:Str)(b:Nat)(c:Str)(d:Int)(e:Int)(f:Nat)(g:Int)(h:Nat):Obj:=co [(.str a b),(.str c (b+1)),(.str "/claim/cut.py" (b+2)),(.int d 0),(.int e 0),(.int 0 0),(.int 0 0),(.int 3 0),(.ref f),(.bool true),(.int 181 0),(.ref (f+1)),.none,(.ref (f+2)),(.ref (f+3)),(.ref (f+4)),(.int g 0),(.int d 0),(.str "/claim/cut.py" h)]
def H5(a:Nat)(b:Str)(c:Str)(d:Nat)(e:Nat):Obj:=ob (.type "function") (fd (at_ body a) b 3 [] .none .none .none (.str c d) none (.ref e) .none 0)
def H6(a:Str)(b:Nat)(c:Str):Obj:=tu [(.str a b),(.str c (b+1))]
def H7(a:Str)(b:Nat)(c:Str)(d:Int)(e:Int)(f:Nat)(g:Int):Obj:=co [(.str a b),(.str c (b+1)),(.str "/claim/cut.py" (b+2)),(.int d 0),(.int e 0),(.int 0 0),(.int 0 0),(.int 3 0),(.ref f),(.bool true),(.int 181 0),(.ref (f+1)),.none,.none,.none,(.ref (f+2)),(.int g 0),(.int d 0),(.str "/claim/cut.py" (b+4))]
def H8(a:Str)(b:Nat)(c:Str)(d:Str):Obj:=tu [(.str a b),(.str c (b+1)),(.str d (b+2))]
def H9(a:Str)(b:Nat)(c:Str)(d:Str)(e:Str)(f:Str):Obj:=tu [(.str a b),(.str c (b+1)),(.str d (b+2)),(.str e (b+3)),(.str f (b+4))]
def H10(a:Nat)(b:Nat)(c:Str):Obj:=ob .none (fd (at_ (inC (at_ body a)) b) c 0 [] .none .none .none .none none .none .none 0)
def H11(a:Nat)(b:Nat)(c:Str)(d:Nat):Obj:=ob (.type "function") (fd (at_ (inC (at_ body a)) b) c 3 [] .none .none .none (.str "eachstepsame.blocks" 194) none (.ref d) .none 0)
def H12(a:Str)(b:Nat)(c:Str)(d:Str)(e:Str):Obj:=tu [(.str a b),(.str c (b+1)),(.str d (b+2)),(.str e (b+3))]
noncomputable def H13(a:Str)(b:Nat)(c:Nat)(d:Nat):Obj:=⟨(.type "type"),none,(.cls ⟨a,[(.type "object")],[(.ref b),(.type "object")],c,a,true,[],[],false,none,false⟩),⟨[none,none,(some (.str a d)),(some (.str a (d+8))),(some (.builtin "object.__new__")),(some (.bool true))]⟩⟩
def H14(a:Nat)(b:Nat):Obj:=ob (.type "getset_descriptor") (.fields ⟨[(.str "__dict__" a),(.ref b),(.builtin "function.__dict__"),(.builtin "function.__dict__#set")]⟩)
def H15(a:Nat)(b:Nat):Obj:=ob (.type "getset_descriptor") (.fields ⟨[(.str "__weakref__" a),(.ref b),(.builtin "ExceptionGroup.__weakref__"),.none]⟩)
def H16(a:Nat):Obj:=ob (.type "super") (.fields ⟨[(.ref a),(.ref a),(.ref a)]⟩)
def H17(a:Nat):Obj:=ob (.type "builtin_function_or_method") (.fields ⟨[(.builtin "object.__init_subclass__"),(.ref a)]⟩)
def H18(P:Params)(a:Nat)(b:Nat)(c:Int)(d:Str)(e:Nat)(f:Nat)(g:Str)(h:Nat)(i:Nat)(j:Str)(k:Nat)(l:Nat)(m:Str)(n:Nat)(o:Nat)(p:Str)(q:Nat)(r:Nat)(s:Str)(t:Nat)(u:Nat)(v:Str)(w:Nat):Obj:=dc a [(ds P "__module__" b "eachstepsame.blocks" 194),(de P "__firstlineno__" (b+4) (.int c (b+3))),(dr P d e f),(dr P g h i),(dr P j k l),(dr P m n o),(dr P p q r),(dr P s t u),(dr P v w (u+1)),(de P "__doc__" (w+1) .none)]
noncomputable def H19(a:Str)(b:Nat)(c:Nat)(d:Nat)(e:Nat):Obj:=⟨(.type "type"),none,(.cls ⟨a,[(.ref 113)],[(.ref b),(.ref 113),(.type "object")],c,a,true,[],[],false,none,false⟩),⟨[(some (.ref d)),none,(some (.str a e)),(some (.str a (e+8))),(some (.builtin "object.__new__")),(some (.bool true))]⟩⟩
def H20(P:Params)(a:Nat)(b:Str)(c:Int)(d:Nat)(e:Nat)(f:Nat)(g:Nat)(h:Str)(i:Nat)(j:Nat)(k:Str)(l:Nat)(m:Nat)(n:Str)(o:Nat)(p:Str)(q:Nat)(r:Nat)(s:Nat):Obj:=dc 10 [(ds P "__module__" a "eachstepsame.blocks" 194),(ds P "__qualname__" (a+2) b (a+1)),(de P "__firstlineno__" (a+4) (.int c (a+3))),(dr P "__init__" d e),(dr P "told" f g),(dr P h i j),(dr P k l m),(dr P n o (m+7)),(dr P p q r),(dr P "__static_attributes__" s (r+1))]
def H21(a:Int)(b:Nat)(c:Int)(d:Nat)(e:Int)(f:Nat)(g:Int)(h:Nat)(i:Int)(j:Int)(k:Nat):Obj:=ob .none (.fields ⟨[(.int a 0),(.int 4 0),(.ref b),(.int c 0),(.int 4 0),(.ref d),(.int e 0),(.int 4 0),(.ref f),(.int g 0),(.int 4 0),(.ref h),(.int i 0),(.int 4 0),(.ref (h+7)),(.int j 0),(.int 4 0),(.ref k)]⟩)
def H22(a:Str)(b:Nat)(c:Str)(d:Str)(e:Str)(f:Str)(g:Str):Obj:=tu [(.str a b),(.str c (b+1)),(.str d (b+2)),(.str e (b+3)),(.str f (b+4)),(.str g (b+5))]
def o12a:=ob .none (.fields ⟨[]⟩)
def o13a:=H0 "<module>" 182 1 11 185
def o14a:=H1 13 3 "__main__" 164
def o3(P:Params):=dc 42 [(ds P "__name__" 165 "law_eachstepsame_k23_rulers_and_ways" 760),(de P "__doc__" 166 .none),(de P "__package__" 167 .none),(de P "__loader__" 168 (.builtin "__main__.__loader__#opaque")),(de P "__spec__" 169 .none),(dr P "__annotations__" 170 6),(dr P "__builtins__" 171 4),(ds P "__file__" 173 "/claim/cut.py" 172),(de P "__cached__" 174 .none),(dr P "_wall" 193 21),(dr P "image" 203 28),(dr P "images" 209 33),(dr P "edge_image" 218 40),(dr P "Row" 269 71),(dr P "End" 318 113),(dr P "Jump" 374 162),(dr P "Branch" 442 216),(dr P "Raise" 483 249),(dr P "Risk" 550 299),(dr P "Block" 602 335),(dr P "Function" 675 387),(dr P "gone_through" 691 398),(dr P "turned" 697 403),(dr P "nearest_rulers" 703 408),(dr P "common_ruler" 715 415),(dr P "followers" 723 420),(dr P "ways_of" 729 425),(dr P "reached" 736 432),(dr P "rulers" 742 437),(dr P "given_in" 753 444),(dr P "closed_up" 759 449),(dr P "_law_cell_at" 769 456),(dr P "_law_mixed" 778 463),(dr P "_law_numbers" 790 470),(dr P "_law_take" 797 477),(dr P "_law_ends" 810 484),(dr P "_law_made_end" 817 491),(dr P "_law_made" 829 498),(dr P "_law_come" 840 505),(dr P "_law_told_end" 846 510),(dr P "_law_closed_right" 861 517),(dr P "law" 867 522)]
def o12:=ob .none (.fields ⟨[(.int 1 0),(.int 0 0),(.ref 20),(.int 5 0),(.int 0 0),(.ref 27),(.int 9 0),(.int 0 0),(.ref 32),(.int 11 0),(.int 0 0),(.ref 39),(.int 13 0),(.int 0 0),(.ref 46),(.int 26 0),(.int 0 0),(.ref 81),(.int 39 0),(.int 0 0),(.ref 123),(.int 55 0),(.int 0 0),(.ref 170),(.int 77 0),(.int 0 0),(.ref 224),(.int 87 0),(.int 0 0),(.ref 257),(.int 112 0),(.int 0 0),(.ref 307),(.int 127 0),(.int 0 0),(.ref 345),(.int 155 0),(.int 0 0),(.ref 397),(.int 171 0),(.int 0 0),(.ref 402),(.int 177 0),(.int 0 0),(.ref 407),(.int 192 0),(.int 0 0),(.ref 414),(.int 203 0),(.int 0 0),(.ref 419),(.int 205 0),(.int 0 0),(.ref 424),(.int 207 0),(.int 0 0),(.ref 431),(.int 211 0),(.int 0 0),(.ref 436),(.int 221 0),(.int 0 0),(.ref 443),(.int 227 0),(.int 0 0),(.ref 448),(.int 234 0),(.int 0 0),(.ref 455),(.int 238 0),(.int 0 0),(.ref 462),(.int 242 0),(.int 0 0),(.ref 469),(.int 255 0),(.int 0 0),(.ref 476),(.int 259 0),(.int 0 0),(.ref 483),(.int 276 0),(.int 0 0),(.ref 490),(.int 284 0),(.int 0 0),(.ref 497),(.int 293 0),(.int 0 0),(.ref 504),(.int 302 0),(.int 0 0),(.ref 509),(.int 305 0),(.int 0 0),(.ref 516),(.int 320 0),(.int 0 0),(.ref 521)]⟩)
def o17:=H2 "k" 190
def o19:=H3 0 "_wall"
def o20:=H4 "_wall" 187 "_wall" 1 1 15 191 192
def o21:=H5 0 "_wall" "__main__" 164 20
def o24:=H6 "operand" 199 "names"
def o26:=H3 2 "image"
def o27:=H4 "image" 196 "image" 5 2 22 201 202
def o28:=H5 2 "image" "eachstepsame.blocks" 194 27
def o31:=H3 3 "images"
def o32:=H7 "images" 204 "images" 9 2 29 207
def o33:=H5 3 "images" "eachstepsame.blocks" 194 32
def o36:=H8 "edge" 213 "names" "blocks"
def o38:=H3 4 "edge_image"
def o39:=H4 "edge_image" 210 "edge_image" 11 3 34 216 217
def o40:=H5 4 "edge_image" "eachstepsame.blocks" 194 39
def o42:=ob (.type "builtin_function_or_method") (.fields ⟨[(.builtin "type.__prepare__"),(.type "type")]⟩)
def o43(P:Params):=dc 7 [(ds P "__module__" 226 "eachstepsame.blocks" 194),(ds P "__qualname__" 228 "Row" 227),(de P "__firstlineno__" 230 (.int 13 229)),(dr P "__init__" 241 54),(dr P "told" 248 61),(dr P "moved" 257 68),(dr P "__static_attributes__" 262 69)]
def o45:=ob .none (.fields ⟨[(.int 15 0),(.int 4 0),(.ref 53),(.int 21 0),(.int 4 0),(.ref 60),(.int 24 0),(.int 4 0),(.ref 67)]⟩)
def o46:=H0 "Row" 221 13 44 224
def o47:=H1 46 43 "eachstepsame.blocks" 194
def o50:=H9 "self" 234 "name" "op" "extra" "operands"
def o52:=H10 5 0 "Row.__init__"
def o53:=H4 "__init__" 231 "Row.__init__" 15 5 48 239 240
def o54:=H11 5 0 "Row.__init__" 53
def o57:=H2 "self" 245
def o59:=H10 5 1 "Row.told"
def o60:=H4 "told" 242 "Row.told" 21 1 55 246 247
def o61:=H11 5 1 "Row.told" 60
def o64:=H8 "self" 252 "names" "given"
def o66:=H10 5 2 "Row.moved"
def o67:=H4 "moved" 249 "Row.moved" 24 3 62 255 256
def o68:=H11 5 2 "Row.moved" 67
def o69:=H12 "extra" 258 "name" "op" "operands"
def o70(P:Params):=dc 4 [(ds P "__module__" 226 "eachstepsame.blocks" 194),(de P "__firstlineno__" 230 (.int 13 229)),(dr P "__init__" 241 54),(dr P "told" 248 61),(dr P "moved" 257 68),(dr P "__static_attributes__" 262 69),(dr P "__dict__" 264 72),(dr P "__weakref__" 266 73),(de P "__doc__" 267 .none)]
def o71:=H13 "Row" 71 70 219
def o72:=H14 263 71
def o73:=H15 265 71
def o74:=H16 71
def o75:=H17 71
def o78(P:Params):=dc 8 [(ds P "__module__" 277 "eachstepsame.blocks" 194),(ds P "__qualname__" 279 "End" 278),(de P "__firstlineno__" 281 (.int 26 280)),(dr P "edges" 288 89),(dr P "with_edges" 296 96),(dr P "reads" 303 103),(dr P "every_read" 310 110),(dr P "__static_attributes__" 311 111)]
def o80:=ob .none (.fields ⟨[(.int 28 0),(.int 4 0),(.ref 88),(.int 31 0),(.int 4 0),(.ref 95),(.int 34 0),(.int 4 0),(.ref 102),(.int 37 0),(.int 4 0),(.ref 109)]⟩)
def o81:=H0 "End" 272 26 79 275
def o82:=H1 81 78 "eachstepsame.blocks" 194
def o85:=H2 "self" 285
def o87:=H10 6 0 "End.edges"
def o88:=H4 "edges" 282 "End.edges" 28 1 83 286 287
def o89:=H11 6 0 "End.edges" 88
def o92:=H6 "self" 292 "edges"
def o94:=H10 6 1 "End.with_edges"
def o95:=H4 "with_edges" 289 "End.with_edges" 31 2 90 294 295
def o96:=H11 6 1 "End.with_edges" 95
def o99:=H2 "self" 300
def o101:=H10 6 2 "End.reads"
def o102:=H4 "reads" 297 "End.reads" 34 1 97 301 302
def o103:=H11 6 2 "End.reads" 102
def o106:=H2 "self" 307
def o108:=H10 6 3 "End.every_read"
def o109:=H4 "every_read" 304 "End.every_read" 37 1 104 308 309
def o110:=H11 6 3 "End.every_read" 109
def o112(P:Params):=H18 P 4 277 26 "edges" 288 89 "with_edges" 296 96 "reads" 303 103 "every_read" 310 110 "__static_attributes__" 311 111 "__dict__" 313 114 "__weakref__" 315
noncomputable def o113:Obj:=⟨(.type "type"),none,(.cls ⟨"End",[(.type "object")],[(.ref 113),(.type "object")],112,"End",true,[],[(.ref 162),(.ref 216),(.ref 249),(.ref 299)],false,none,false⟩),⟨[none,none,(some (.str "End" 270)),(some (.str "End" 278)),(some (.builtin "object.__new__")),(some (.bool true))]⟩⟩
def o114:=H14 312 113
def o115:=H15 314 113
def o116:=H16 113
def o117:=H17 113
def o118:=tu [(.ref 113)]
def o120(P:Params):=dc 9 [(ds P "__module__" 326 "eachstepsame.blocks" 194),(ds P "__qualname__" 328 "Jump" 327),(de P "__firstlineno__" 330 (.int 39 329)),(dr P "__init__" 338 131),(dr P "told" 345 138),(dr P "moved" 354 145),(dr P "edges" 361 152),(dr P "with_edges" 369 159),(dr P "__static_attributes__" 371 160)]
def o122:=ob .none (.fields ⟨[(.int 41 0),(.int 4 0),(.ref 130),(.int 44 0),(.int 4 0),(.ref 137),(.int 47 0),(.int 4 0),(.ref 144),(.int 50 0),(.int 4 0),(.ref 151),(.int 53 0),(.int 4 0),(.ref 158)]⟩)
def o123:=H0 "Jump" 321 39 121 324
def o124:=H1 123 120 "eachstepsame.blocks" 194
def o127:=H6 "self" 334 "edge"
def o129:=H10 7 0 "Jump.__init__"
def o130:=H4 "__init__" 331 "Jump.__init__" 41 2 125 336 337
def o131:=H11 7 0 "Jump.__init__" 130
def o134:=H2 "self" 342
def o136:=H10 7 1 "Jump.told"
def o137:=H4 "told" 339 "Jump.told" 44 1 132 343 344
def o138:=H11 7 1 "Jump.told" 137
def o141:=H8 "self" 349 "names" "blocks"
def o143:=H10 7 2 "Jump.moved"
def o144:=H4 "moved" 346 "Jump.moved" 47 3 139 352 353
def o145:=H11 7 2 "Jump.moved" 144
def o148:=H2 "self" 358
def o150:=H10 7 3 "Jump.edges"
def o151:=H4 "edges" 355 "Jump.edges" 50 1 146 359 360
def o152:=H11 7 3 "Jump.edges" 151
def o155:=H6 "self" 365 "edges"
def o157:=H10 7 4 "Jump.with_edges"
def o158:=H4 "with_edges" 362 "Jump.with_edges" 53 2 153 367 368
def o159:=H11 7 4 "Jump.with_edges" 158
def o160:=H2 "edge" 370
def o161(P:Params):=dc 2 [(ds P "__module__" 326 "eachstepsame.blocks" 194),(de P "__firstlineno__" 330 (.int 39 329)),(dr P "__init__" 338 131),(dr P "told" 345 138),(dr P "moved" 354 145),(dr P "edges" 361 152),(dr P "with_edges" 369 159),(dr P "__static_attributes__" 371 160),(de P "__doc__" 372 .none)]
def o162:=H19 "Jump" 162 161 118 319
def o163:=H16 162
def o164:=H17 162
def o167(P:Params):=H20 P 382 "Branch" 55 396 178 403 185 "moved" 413 192 "edges" 420 199 "with_edges" 428 "reads" 435 213 439
def o169:=H21 57 177 62 184 65 191 69 198 72 75 212
def o170:=H0 "Branch" 377 55 168 380
def o171:=H1 170 167 "eachstepsame.blocks" 194
def o174:=H12 "self" 390 "test" "yes" "no"
def o176:=H10 8 0 "Branch.__init__"
def o177:=H4 "__init__" 387 "Branch.__init__" 57 4 172 394 395
def o178:=H11 8 0 "Branch.__init__" 177
def o181:=H2 "self" 400
def o183:=H10 8 1 "Branch.told"
def o184:=H4 "told" 397 "Branch.told" 62 1 179 401 402
def o185:=H11 8 1 "Branch.told" 184
def o188:=H12 "self" 407 "names" "blocks" "yes"
def o190:=H10 8 2 "Branch.moved"
def o191:=H4 "moved" 404 "Branch.moved" 65 3 186 411 412
def o192:=H11 8 2 "Branch.moved" 191
def o195:=H2 "self" 417
def o197:=H10 8 3 "Branch.edges"
def o198:=H4 "edges" 414 "Branch.edges" 69 1 193 418 419
def o199:=H11 8 3 "Branch.edges" 198
def o202:=H6 "self" 424 "edges"
def o204:=H10 8 4 "Branch.with_edges"
def o205:=H4 "with_edges" 421 "Branch.with_edges" 72 2 200 426 427
def o206:=H11 8 4 "Branch.with_edges" 205
def o209:=H2 "self" 432
def o211:=H10 8 5 "Branch.reads"
def o212:=H4 "reads" 429 "Branch.reads" 75 1 207 433 434
def o213:=H11 8 5 "Branch.reads" 212
def o214:=H8 "no" 436 "test" "yes"
def o215(P:Params):=H18 P 2 382 55 "__init__" 396 178 "told" 403 185 "moved" 413 192 "edges" 420 199 "with_edges" 428 206 "reads" 435 213 "__static_attributes__" 439
def o216:=H19 "Branch" 216 215 165 375
def o217:=H16 216
def o218:=H17 216
def o221(P:Params):=dc 7 [(ds P "__module__" 450 "eachstepsame.blocks" 194),(ds P "__qualname__" 452 "Raise" 451),(de P "__firstlineno__" 454 (.int 77 453)),(dr P "__init__" 462 232),(dr P "told" 469 239),(dr P "moved" 478 246),(dr P "__static_attributes__" 480 247)]
def o223:=ob .none (.fields ⟨[(.int 79 0),(.int 4 0),(.ref 231),(.int 82 0),(.int 4 0),(.ref 238),(.int 85 0),(.int 4 0),(.ref 245)]⟩)
def o224:=H0 "Raise" 445 77 222 448
def o225:=H1 224 221 "eachstepsame.blocks" 194
def o228:=H6 "self" 458 "fault"
def o230:=H10 9 0 "Raise.__init__"
def o231:=H4 "__init__" 455 "Raise.__init__" 79 2 226 460 461
def o232:=H11 9 0 "Raise.__init__" 231
def o235:=H2 "self" 466
def o237:=H10 9 1 "Raise.told"
def o238:=H4 "told" 463 "Raise.told" 82 1 233 467 468
def o239:=H11 9 1 "Raise.told" 238
def o242:=H8 "self" 473 "names" "blocks"
def o244:=H10 9 2 "Raise.moved"
def o245:=H4 "moved" 470 "Raise.moved" 85 3 240 476 477
def o246:=H11 9 2 "Raise.moved" 245
def o247:=H2 "fault" 479
def o248(P:Params):=dc 2 [(ds P "__module__" 450 "eachstepsame.blocks" 194),(de P "__firstlineno__" 454 (.int 77 453)),(dr P "__init__" 462 232),(dr P "told" 469 239),(dr P "moved" 478 246),(dr P "__static_attributes__" 480 247),(de P "__doc__" 481 .none)]
def o249:=H19 "Raise" 249 248 219 443
def o250:=H16 249
def o251:=H17 249
def o254(P:Params):=H20 P 491 "Risk" 87 507 265 514 272 "moved" 520 277 "edges" 526 282 "with_edges" 534 "reads" 541 296 547
def o256:=H21 89 264 96 271 99 276 104 281 107 110 295
def o257:=H0 "Risk" 486 87 255 489
def o258:=H1 257 254 "eachstepsame.blocks" 194
def o261:=H22 "self" 499 "op" "extra" "asked" "edge" "catches"
def o263:=H10 10 0 "Risk.__init__"
def o264:=H4 "__init__" 496 "Risk.__init__" 89 6 259 505 506
def o265:=H11 10 0 "Risk.__init__" 264
def o268:=H2 "self" 511
def o270:=H10 10 1 "Risk.told"
def o271:=H4 "told" 508 "Risk.told" 96 1 266 512 513
def o272:=H11 10 1 "Risk.told" 271
def o275:=H10 10 2 "Risk.moved"
def o276:=H7 "moved" 515 "Risk.moved" 99 3 273 518
def o277:=H11 10 2 "Risk.moved" 276
def o280:=H10 10 3 "Risk.edges"
def o281:=H7 "edges" 521 "Risk.edges" 104 1 278 524
def o282:=H11 10 3 "Risk.edges" 281
def o285:=H6 "self" 530 "edges"
def o287:=H10 10 4 "Risk.with_edges"
def o288:=H4 "with_edges" 527 "Risk.with_edges" 107 2 283 532 533
def o289:=H11 10 4 "Risk.with_edges" 288
def o292:=H2 "self" 538
def o294:=H10 10 5 "Risk.reads"
def o295:=H4 "reads" 535 "Risk.reads" 110 1 290 539 540
def o296:=H11 10 5 "Risk.reads" 295
def o297:=H9 "asked" 542 "catches" "edge" "extra" "op"
def o298(P:Params):=H18 P 2 491 87 "__init__" 507 265 "told" 514 272 "moved" 520 277 "edges" 526 282 "with_edges" 534 289 "reads" 541 296 "__static_attributes__" 547
def o299:=H19 "Risk" 299 298 252 484
def o300:=H16 299
def o301:=H17 299
def o304(P:Params):=dc 8 [(ds P "__module__" 558 "eachstepsame.blocks" 194),(ds P "__qualname__" 560 "Block" 559),(de P "__firstlineno__" 562 (.int 112 561)),(dr P "__init__" 572 315),(dr P "told" 578 320),(dr P "given" 584 325),(dr P "ticks" 591 332),(dr P "__static_attributes__" 595 333)]
def o306:=ob .none (.fields ⟨[(.int 114 0),(.int 4 0),(.ref 314),(.int 119 0),(.int 4 0),(.ref 319),(.int 122 0),(.int 4 0),(.ref 324),(.int 125 0),(.int 4 0),(.ref 331)]⟩)
def o307:=H0 "Block" 553 112 305 556
def o308:=H1 307 304 "eachstepsame.blocks" 194
def o311:=H12 "self" 566 "params" "rows" "end"
def o313:=H10 11 0 "Block.__init__"
def o314:=H4 "__init__" 563 "Block.__init__" 114 4 309 570 571
def o315:=H11 11 0 "Block.__init__" 314
def o318:=H10 11 1 "Block.told"
def o319:=H7 "told" 573 "Block.told" 119 1 316 576
def o320:=H11 11 1 "Block.told" 319
def o323:=H10 11 2 "Block.given"
def o324:=H7 "given" 579 "Block.given" 122 1 321 582
def o325:=H11 11 2 "Block.given" 324
def o328:=H2 "self" 588
def o330:=H10 11 3 "Block.ticks"
def o331:=H4 "ticks" 585 "Block.ticks" 125 1 326 589 590
def o332:=H11 11 3 "Block.ticks" 331
def o333:=H8 "end" 592 "params" "rows"
def o334(P:Params):=H18 P 4 558 112 "__init__" 572 315 "told" 578 320 "given" 584 325 "ticks" 591 332 "__static_attributes__" 595 333 "__dict__" 597 336 "__weakref__" 599
def o335:=H13 "Block" 335 334 551
def o336:=H14 596 335
def o337:=H15 598 335
def o338:=H16 335
def o339:=H17 335
def o342(P:Params):=H20 P 610 "Function" 127 625 353 631 358 "width" 638 365 "kind_of" 646 372 "with_blocks" 656 "kinds_of" 662 384 668
def o344:=H21 129 352 136 357 140 364 143 371 146 152 383
def o345:=H0 "Function" 605 127 343 608
def o346:=H1 345 342 "eachstepsame.blocks" 194
def o349:=H9 "self" 618 "takes" "gives" "kinds" "blocks"
def o351:=H10 12 0 "Function.__init__"
def o352:=H4 "__init__" 615 "Function.__init__" 129 5 347 623 624
def o353:=H11 12 0 "Function.__init__" 352
def o356:=H10 12 1 "Function.told"
def o357:=H7 "told" 626 "Function.told" 136 1 354 629
def o358:=H11 12 1 "Function.told" 357
def o361:=H2 "self" 635
def o363:=H10 12 2 "Function.width"
def o364:=H4 "width" 632 "Function.width" 140 1 359 636 637
def o365:=H11 12 2 "Function.width" 364
def o368:=H6 "self" 642 "name"
def o370:=H10 12 3 "Function.kind_of"
def o371:=H4 "kind_of" 639 "Function.kind_of" 143 2 366 644 645
def o372:=H11 12 3 "Function.kind_of" 371
def o375:=H12 "self" 650 "blocks" "names" "block"
def o377:=H10 12 4 "Function.with_blocks"
def o378:=H4 "with_blocks" 647 "Function.with_blocks" 146 2 373 654 655
def o379:=H11 12 4 "Function.with_blocks" 378
def o382:=H10 12 5 "Function.kinds_of"
def o383:=H7 "kinds_of" 657 "Function.kinds_of" 152 2 380 660
def o384:=H11 12 5 "Function.kinds_of" 383
def o385:=H9 "blocks" 663 "gives" "kept_kinds" "kinds" "takes"
def o386(P:Params):=dc 4 [(ds P "__module__" 610 "eachstepsame.blocks" 194),(de P "__firstlineno__" 614 (.int 127 613)),(dr P "__init__" 625 353),(dr P "told" 631 358),(dr P "width" 638 365),(dr P "kind_of" 646 372),(dr P "with_blocks" 656 379),(dr P "kinds_of" 662 384),(dr P "__static_attributes__" 668 385),(dr P "__dict__" 670 388),(dr P "__weakref__" 672 389),(de P "__doc__" 673 .none)]
def o387:=H13 "Function" 387 386 603
def o388:=H14 669 387
def o389:=H15 671 387
def o390:=H16 387
def o391:=H17 387
def o394:=tu [(.str "ways" 681),(.str "begin" 682),(.str "done" 683),(.str "order" 684),(.str "pile" 685),(.str "top" 686),(.str "number" 687),(.str "follower" 688)]
def o396:=H3 14 "gone_through"
def o397:=H4 "gone_through" 678 "gone_through" 155 3 392 689 690
def o398:=H5 14 "gone_through" "eachstepsame.ways" 676 397
def o401:=H3 15 "turned"
def o402:=H7 "turned" 692 "turned" 171 1 399 695
def o403:=H5 15 "turned" "eachstepsame.ways" 676 402
def o406:=H3 16 "nearest_rulers"
def o407:=H7 "nearest_rulers" 698 "nearest_rulers" 177 1 404 701
def o408:=H5 16 "nearest_rulers" "eachstepsame.ways" 676 407
def o411:=H22 "numbers" 707 "nearest" "rank" "ruler" "number" "climbing"
def o413:=H3 17 "common_ruler"
def o414:=H4 "common_ruler" 704 "common_ruler" 192 3 409 713 714
def o415:=H5 17 "common_ruler" "eachstepsame.ways" 676 414
def o418:=H3 19 "followers"
def o419:=H7 "followers" 718 "followers" 203 2 416 721
def o420:=H5 19 "followers" "eachstepsame.fits" 716 419
def o423:=H3 20 "ways_of"
def o424:=H7 "ways_of" 724 "ways_of" 205 1 421 727
def o425:=H5 20 "ways_of" "eachstepsame.fits" 716 424
def o428:=H2 "function" 733
def o430:=H3 21 "reached"
def o431:=H4 "reached" 730 "reached" 207 1 426 734 735
def o432:=H5 21 "reached" "eachstepsame.fits" 716 431
def o435:=H3 22 "rulers"
def o436:=H7 "rulers" 737 "rulers" 211 1 433 740
def o437:=H5 22 "rulers" "eachstepsame.fits" 716 436
def o440:=H9 "function" 746 "found" "number" "block" "name"
def o442:=H3 23 "given_in"
def o443:=H4 "given_in" 743 "given_in" 221 1 438 751 752
def o444:=H5 23 "given_in" "eachstepsame.fits" 716 443
def o447:=H3 24 "closed_up"
def o448:=H7 "closed_up" 754 "closed_up" 227 1 445 757
def o449:=H5 24 "closed_up" "eachstepsame.fits" 716 448
def o452:=H6 "_law_script" 765 "_law_k"
def o454:=H3 26 "_law_cell_at"
def o455:=H4 "_law_cell_at" 762 "_law_cell_at" 234 2 450 767 768
def o456:=H5 26 "_law_cell_at" "law_eachstepsame_k23_rulers_and_ways" 760 455
def o459:=H8 "_law_cell" 773 "_law_k" "_law_number"
def o461:=H3 27 "_law_mixed"
def o462:=H4 "_law_mixed" 770 "_law_mixed" 238 2 457 776 777
def o463:=H5 27 "_law_mixed" "law_eachstepsame_k23_rulers_and_ways" 760 462
def o466:=H22 "_law_cells" 782 "_law_many" "_law_found" "_law_cell" "_law_left" "_law_k"
def o468:=H3 28 "_law_numbers"
def o469:=H4 "_law_numbers" 779 "_law_numbers" 242 2 464 788 789
def o470:=H5 28 "_law_numbers" "law_eachstepsame_k23_rulers_and_ways" 760 469
def o473:=H2 "_law_left" 794
def o475:=H3 29 "_law_take"
def o476:=H4 "_law_take" 791 "_law_take" 255 1 471 795 796
def o477:=H5 29 "_law_take" "law_eachstepsame_k23_rulers_and_ways" 760 476
def o480:=tu [(.str "_law_left" 801),(.str "_law_many" 802),(.str "_law_ends_here" 803),(.str "_law_number" 804),(.str "_law_way" 805),(.str "_law_one" 806),(.str "_law_other" 807)]
def o482:=H3 30 "_law_ends"
def o483:=H4 "_law_ends" 798 "_law_ends" 259 2 478 808 809
def o484:=H5 30 "_law_ends" "law_eachstepsame_k23_rulers_and_ways" 760 483
def o487:=H2 "_law_end" 814
def o489:=H3 31 "_law_made_end"
def o490:=H4 "_law_made_end" 811 "_law_made_end" 276 1 485 815 816
def o491:=H5 31 "_law_made_end" "law_eachstepsame_k23_rulers_and_ways" 760 490
def o494:=H22 "_law_ends_here" 821 "_law_blocks" "_law_kinds" "_law_number" "_law_end" "_law_rows"
def o496:=H3 32 "_law_made"
def o497:=H4 "_law_made" 818 "_law_made" 284 1 492 827 828
def o498:=H5 32 "_law_made" "law_eachstepsame_k23_rulers_and_ways" 760 497
def o501:=H9 "_law_ends_here" 833 "_law_out" "_law_found" "_law_left" "_law_here"
def o503:=H3 33 "_law_come"
def o504:=H4 "_law_come" 830 "_law_come" 293 2 499 838 839
def o505:=H5 33 "_law_come" "law_eachstepsame_k23_rulers_and_ways" 760 504
def o508:=H3 34 "_law_told_end"
def o509:=H7 "_law_told_end" 841 "_law_told_end" 302 2 506 844
def o510:=H5 34 "_law_told_end" "law_eachstepsame_k23_rulers_and_ways" 760 509
def o513:=tu [(.str "_law_function" 850),(.str "_law_ends_here" 851),(.str "_law_here" 852),(.str "_law_numbers_here" 853),(.str "_law_number" 854),(.str "_law_found" 855),(.str "_law_kinds" 856),(.str "_law_block" 857),(.str "_law_old" 858)]
def o515:=H3 35 "_law_closed_right"
def o516:=H4 "_law_closed_right" 847 "_law_closed_right" 305 3 511 859 860
def o517:=H5 35 "_law_closed_right" "law_eachstepsame_k23_rulers_and_ways" 760 516
def o520:=H3 36 "law"
def o521:=H7 "law" 862 "law" 320 1 518 865
def o522:=H5 36 "law" "law_eachstepsame_k23_rulers_and_ways" 760 521
def ha(P:Params):Heap:=⟨⟨[(boot_o_0 P),(boot_o_1 P),(boot_o_2 P),(boot_o_3 P),(boot_o_4 P),(boot_o_5 P),(boot_o_6 P),(boot_o_7 P),(boot_o_8 P),(boot_o_9 P),(boot_o_10 P),t0,o12a,o13a,o14a]⟩,{}⟩
def tb1(P:Params):BT:=n7 (boot_o_1 P) (boot_o_3 P) (boot_o_7 P) t0 (boot_o_5 P) (boot_o_9 P) o13a
def tb2(P:Params):BT:=n7 (boot_o_2 P) (boot_o_4 P) (boot_o_8 P) o12a (boot_o_6 P) (boot_o_10 P) o14a
def tb(P:Params):BT:=(.node (boot_o_0 P) (tb1 P) (tb2 P))
def h0(P:Params)(r:List Obj):List Obj:=(boot_o_0 P)::(boot_o_1 P)::(boot_o_2 P)::(o3 P)::(boot_o_4 P)::(boot_o_5 P)::(boot_o_6 P)::(boot_o_7 P)::(boot_o_8 P)::(boot_o_9 P)::(boot_o_10 P)::t0::o12::o13a::o14a::t0::o12a::o17::t0::o19::o20::o21::t0::o12a::r
def h1(P:Params)(r:List Obj):List Obj:=o24::t0::o26::o27::o28::t0::o12a::o31::o32::o33::t0::o12a::o36::t0::o38::o39::o40::t0::o42::(o43 P)::t0::o45::o46::o47::r
def h2(P:Params)(r:List Obj):List Obj:=t0::o12a::o50::t0::o52::o53::o54::t0::o12a::o57::t0::o59::o60::o61::t0::o12a::o64::t0::o66::o67::o68::o69::(o70 P)::o71::r
def h3(P:Params)(r:List Obj):List Obj:=o72::o73::o74::o75::t0::o42::(o78 P)::t0::o80::o81::o82::t0::o12a::o85::t0::o87::o88::o89::t0::o12a::o92::t0::o94::o95::r
def h4(P:Params)(r:List Obj):List Obj:=o96::t0::o12a::o99::t0::o101::o102::o103::t0::o12a::o106::t0::o108::o109::o110::t0::(o112 P)::o113::o114::o115::o116::o117::o118::o42::r
def h5(P:Params)(r:List Obj):List Obj:=(o120 P)::t0::o122::o123::o124::t0::o12a::o127::t0::o129::o130::o131::t0::o12a::o134::t0::o136::o137::o138::t0::o12a::o141::t0::o143::r
def h6(P:Params)(r:List Obj):List Obj:=o144::o145::t0::o12a::o148::t0::o150::o151::o152::t0::o12a::o155::t0::o157::o158::o159::o160::(o161 P)::o162::o163::o164::o118::o42::(o167 P)::r
def h7(P:Params)(r:List Obj):List Obj:=t0::o169::o170::o171::t0::o12a::o174::t0::o176::o177::o178::t0::o12a::o181::t0::o183::o184::o185::t0::o12a::o188::t0::o190::o191::r
def h8(P:Params)(r:List Obj):List Obj:=o192::t0::o12a::o195::t0::o197::o198::o199::t0::o12a::o202::t0::o204::o205::o206::t0::o12a::o209::t0::o211::o212::o213::o214::(o215 P)::r
def h9(P:Params)(r:List Obj):List Obj:=o216::o217::o218::o118::o42::(o221 P)::t0::o223::o224::o225::t0::o12a::o228::t0::o230::o231::o232::t0::o12a::o235::t0::o237::o238::o239::r
def h10(P:Params)(r:List Obj):List Obj:=t0::o12a::o242::t0::o244::o245::o246::o247::(o248 P)::o249::o250::o251::o118::o42::(o254 P)::t0::o256::o257::o258::t0::o12a::o261::t0::o263::r
def h11(P:Params)(r:List Obj):List Obj:=o264::o265::t0::o12a::o268::t0::o270::o271::o272::t0::o12a::o275::o276::o277::t0::o12a::o280::o281::o282::t0::o12a::o285::t0::o287::r
def h12(P:Params)(r:List Obj):List Obj:=o288::o289::t0::o12a::o292::t0::o294::o295::o296::o297::(o298 P)::o299::o300::o301::t0::o42::(o304 P)::t0::o306::o307::o308::t0::o12a::o311::r
def h13(P:Params)(r:List Obj):List Obj:=t0::o313::o314::o315::t0::o12a::o318::o319::o320::t0::o12a::o323::o324::o325::t0::o12a::o328::t0::o330::o331::o332::o333::(o334 P)::o335::r
def h14(P:Params)(r:List Obj):List Obj:=o336::o337::o338::o339::t0::o42::(o342 P)::t0::o344::o345::o346::t0::o12a::o349::t0::o351::o352::o353::t0::o12a::o356::o357::o358::t0::r
def h15(P:Params)(r:List Obj):List Obj:=o12a::o361::t0::o363::o364::o365::t0::o12a::o368::t0::o370::o371::o372::t0::o12a::o375::t0::o377::o378::o379::t0::o12a::o382::o383::r
def h16(P:Params)(r:List Obj):List Obj:=o384::o385::(o386 P)::o387::o388::o389::o390::o391::t0::o12a::o394::t0::o396::o397::o398::t0::o12a::o401::o402::o403::t0::o12a::o406::o407::r
def h17(P:Params)(r:List Obj):List Obj:=o408::t0::o12a::o411::t0::o413::o414::o415::t0::o12a::o418::o419::o420::t0::o12a::o423::o424::o425::t0::o12a::o428::t0::o430::o431::r
def h18(P:Params)(r:List Obj):List Obj:=o432::t0::o12a::o435::o436::o437::t0::o12a::o440::t0::o442::o443::o444::t0::o12a::o447::o448::o449::t0::o12a::o452::t0::o454::o455::r
def h19(P:Params)(r:List Obj):List Obj:=o456::t0::o12a::o459::t0::o461::o462::o463::t0::o12a::o466::t0::o468::o469::o470::t0::o12a::o473::t0::o475::o476::o477::t0::o12a::r
def h20(P:Params)(r:List Obj):List Obj:=o480::t0::o482::o483::o484::t0::o12a::o487::t0::o489::o490::o491::t0::o12a::o494::t0::o496::o497::o498::t0::o12a::o501::t0::o503::r
def h21(P:Params)(r:List Obj):List Obj:=o504::o505::t0::o12a::o508::o509::o510::t0::o12a::o513::t0::o515::o516::o517::t0::o12a::o520::o521::o522::r
def hl(P:Params):List Obj:=h0 P (h1 P (h2 P (h3 P (h4 P (h5 P (h6 P (h7 P (h8 P (h9 P (h10 P (h11 P (h12 P (h13 P (h14 P (h15 P (h16 P (h17 P (h18 P (h19 P (h20 P (h21 P ([]))))))))))))))))))))))
def hf(P:Params):Heap:=⟨⟨hl P⟩,{}⟩
noncomputable def ev:List Obj->List Obj
 |a::_::l=>a::ev l
 |l=>l
noncomputable def od:List Obj->List Obj
 |_::b::l=>b::od l
 |_=>[]
def mT:Nat->List Obj->BT
 |n+1,a::l=> .node a (mT n (ev l)) (mT n (od l))
 |_,_=> .nil
def tl(P:Params):BT:=mT 11 (hl P)
noncomputable def pk:Nat->List Addr->List Obj->Frag
 |n,a::r,o::l=>if Nat.beq n a then(a,o)::pk (n+1) r l else pk (n+1) (a::r) l
 |_,_,_=>[]
noncomputable def as:List Addr:=[2,3,15,17,18,20,21,22,24,25,27,28,29,32,33,34,36,37,39,40,48,50,51,53,54,55,57,58,60,61,62,64,65,67,68,69,70,71,72,73,83,85,86,88,89,90,92,93,95,96,97,99,100,102,103,104,106,107,109,110,111,112,113,114,115,118,125,127,128,130,131,132,134,135,137,138,139,141,142,144,145,146,148,149,151,152,153,155,156,158,159,160,161,162,165,172,174,175,177,178,179,181,182,184,185,186,188,189,191,192,193,195,196,198,199,200,202,203,205,206,207,209,210,212,213,214,215,216,219,226,228,229,231,232,233,235,236,238,239,240,242,243,245,246,247,248,249,252,259,261,262,264,265,266,268,269,271,272,273,276,277,278,281,282,283,285,286,288,289,290,292,293,295,296,297,298,299,309,311,312,314,315,316,319,320,321,324,325,326,328,329,331,332,333,334,335,336,337,347,349,350,352,353,354,357,358,359,361,362,364,365,366,368,369,371,372,373,375,376,378,379,380,383,384,385,386,387,388,389,392,394,395,397,398,399,402,403,404,407,408,409,411,412,414,415,416,419,420,421,424,425,426,428,429,431,432,433,436,437,438,440,441,443,444,445,448,449,457,459,460,462,463,464,466,467,469,470,471,473,474,476,477,478,480,481,483,484,485,487,488,490,491,492,494,495,497,498,499,501,502,504,505,506,509,510,511,513,514,516,517,518,521,522]
def K(P:Params):Frag:=pk 0 as (hl P)
def kc(P:Params):Frag:=K P
noncomputable def env:Env:={scope:=PySem.Challenge.pw_eachstepsame_k23_rulers_and_ways.main.scope,locals:=mainNs,globals:=mainNs,cells:=[],code:=(.ref 13),frame:=some 14}
def cE:Code:= .body (behindTheImports PySem.Challenge.pw_eachstepsame_k23_rulers_and_ways) env
theorem tws:((λ(_:Params->BT) (_:Params->BT) (_:Params->Heap) (_:Params->Heap) (_:Params->Frag) (_:Program) (_:Code)=>true) tb tl ha hf kc q cE)=true:=by k_qdec
theorem pre(w:World):(λos:OsState=>topGo treeTable PySem.Challenge.pw_eachstepsame_k23_rulers_and_ways w 11 (some (.ref 6)) 12 ⟨boot_heap w.params,⟨[]⟩,boot_drawn,boot_toks,os⟩ (topStub PySem.Challenge.pw_eachstepsame_k23_rulers_and_ways))=λos=>some (⟨ha w.params,⟨[]⟩,{},187,os⟩,⟨denote treeTable cE,cE,⟨0,0,0,0⟩,[topFrame ⟨0,0,0,0⟩]⟩):=by
 rewrite[PySem.W.Fast.te15667345088766844465,PySem.W.Fast.te14364793385576792824,PySem.W.Fast.te6374624017468441819,PySem.W.Fast.te12167769141508308155,PySem.W.Fast.te11892475500146522536,PySem.W.Fast.te2343313782933208130]
 kernel_rfl
theorem block(w:World):(λos:OsState=>segRun treeTable PySem.Challenge.pw_eachstepsame_k23_rulers_and_ways w 11 (some (.ref 6)) 1 1 ⟨ha w.params,⟨[]⟩,{},187,os⟩ (blockOf (behindTheImports PySem.Challenge.pw_eachstepsame_k23_rulers_and_ways) env cE ⟨0,0,0,0⟩ [topFrame ⟨0,0,0,0⟩]))=λos=>some (Flow.next,(⟨tb w.params,15,{},⟨[]⟩,{},187,os⟩:SharedT).abs,cE,⟨0,0,0,0⟩):=by
 rewrite[PySem.W.Fast.te14374325043358763698,PySem.W.Fast.te14364793385576792824,PySem.W.Fast.te6374624017468441819,PySem.W.Fast.te12167769141508308155,PySem.W.Fast.te17306263501064129316,PySem.W.Fast.te17150320874572105945,PySem.W.Fast.te2343313782933208130]
 kernel_rfl
theorem seg(w:World):(λos:OsState=>segRunT treeTable PySem.Challenge.pw_eachstepsame_k23_rulers_and_ways w 11 (some (.ref 6)) 1 3578 (⟨tb w.params,15,{},⟨[]⟩,{},187,os⟩:SharedT) (piecesOf (behindTheImports PySem.Challenge.pw_eachstepsame_k23_rulers_and_ways) env cE ⟨0,0,0,0⟩ [topFrame ⟨0,0,0,0⟩]))=λos=>some (Flow.next,(⟨tl w.params,523,{},⟨[]⟩,{},868,os⟩:SharedT),cE,⟨320,0,345,154⟩):=by
 rewrite[PySem.W.Fast.te10110043849684766642,PySem.W.Fast.te14364793385576792824,PySem.W.Fast.te6374624017468441819,PySem.W.Fast.te17306263501064129316,PySem.W.Fast.te7101502176447651324,PySem.W.Fast.te17150320874572105945,PySem.W.Fast.te2343313782933208130]
 kernel_rfl
theorem fin(w:World):(λos:OsState=>topRun treeTable PySem.Challenge.pw_eachstepsame_k23_rulers_and_ways w 11 (some (.ref 6)) 2 (⟨tl w.params,523,{},⟨[]⟩,{},868,os⟩:SharedT).abs ⟨doneF .next,cE,⟨320,0,345,154⟩,[topFrame ⟨0,0,0,0⟩]⟩)=λos=>some (⟨hf w.params,⟨[]⟩,{},868,os⟩:Shared):=by
 rewrite[PySem.W.Fast.te14082659384304107361,PySem.W.Fast.te14364793385576792824,PySem.W.Fast.te6374624017468441819,PySem.W.Fast.te7101502176447651324,PySem.W.Fast.te10544986032919753165,PySem.W.Fast.te2343313782933208130]
 kernel_rfl
theorem run(w:World)(os:OsState):topRun treeTable PySem.Challenge.pw_eachstepsame_k23_rulers_and_ways w 11 (some (.ref 6)) (12+(1+(3578+2))) ⟨boot_heap w.params,⟨[]⟩,boot_drawn,boot_toks,os⟩ (topStub PySem.Challenge.pw_eachstepsame_k23_rulers_and_ways)=some (⟨hf w.params,⟨[]⟩,{},868,os⟩:Shared):=by have a:=piece_app (rest:=[]) (segRun_of (congrFun (seg w) os)) (piece_nil (congrFun (fin w) os));rw[List.append_nil] at a;exact go_top (congrFun (pre w) os) (piece_block (congrFun (block w) os) a)
def Xt(s:Shared):Bool:=xlAt q [] s&&recOk [] s
theorem keys(P:Params):as=(K P).map (·.1):=by kernel_rfl
def hk:Hook:=kHook K as keys
theorem lk1(w:World):(λos:OsState=>staticsOk (importedModules PySem.Challenge.pw_eachstepsame_k23_rulers_and_ways.main.body) (boot_heap w.params) (hf w.params)&&namesBound PySem.Challenge.pw_eachstepsame_k23_rulers_and_ways (hf w.params)&&gensDone (⟨hf w.params,⟨[]⟩,{},868,os⟩:Shared)&&laidKept (boot_heap w.params) (hf w.params))=λos=>true:=by
 rewrite[PySem.W.Fast.te5923862056798008813,PySem.W.Fast.te6374624017468441819,PySem.W.Fast.te10544986032919753165]
 kernel_rfl
theorem lk2(w:World):(λos:OsState=>seen ((recsOf q).map (·.name)) (ownsOf q) [] {(⟨hf w.params,⟨[]⟩,{},868,os⟩:Shared) with gens:= #[]})=λos=>expectedOf q:=by
 rewrite[PySem.W.Fast.te5160383126252970620,PySem.W.Fast.te3399658132070893891,PySem.W.Fast.te5991557255702980513,PySem.W.Fast.te1768822226353211369,PySem.W.Fast.te10544986032919753165]
 kernel_rfl
theorem lk3(w:World):(λos:OsState=>(⟨hf w.params,⟨[]⟩,{},868,os⟩:Shared).heap.bltView)=λos=>bltViewBooted:=by
 rewrite[PySem.W.Fast.te10544986032919753165]
 kernel_rfl
theorem lk4(w:World):(λos:OsState=>(⟨hf w.params,⟨[]⟩,{},868,os⟩:Shared).heap.keysOk (looseW q []) ((recsOf q).map (·.name)) ((litsOf q).map (·.1)) ((clssOf q (looseW q [])).map (·.name))&&(⟨hf w.params,⟨[]⟩,{},868,os⟩:Shared).heap.accountedOkI (importedModules PySem.Challenge.pw_eachstepsame_k23_rulers_and_ways.main.body)&&(⟨hf w.params,⟨[]⟩,{},868,os⟩:Shared).heap.isNs mainGlobals&&(⟨hf w.params,⟨[]⟩,{},868,os⟩:Shared).heap.isNs builtinsNs&&tablesOk q (⟨hf w.params,⟨[]⟩,{},868,os⟩:Shared).heap&&Xt (⟨hf w.params,⟨[]⟩,{},868,os⟩:Shared)&&(if true then(⟨hf w.params,⟨[]⟩,{},868,os⟩:Shared).gens.size==0 else !leftWithCleanup (⟨hf w.params,⟨[]⟩,{},868,os⟩:Shared).gens))=λos=>true:=by
 rewrite[PySem.W.Fast.te821141287760084731,PySem.W.Fast.te3399658132070893891,PySem.W.Fast.te7409074990110511671,PySem.W.Fast.te13664370479719496447,PySem.W.Fast.te5923862056798008813,PySem.W.Fast.te10994771534591457954,PySem.W.Fast.te6374624017468441819,PySem.W.Fast.te1768822226353211369,PySem.W.Fast.te10544986032919753165]
 kernel_rfl
theorem lk5(w:World):(λos:OsState=>tabsOk q (⟨hf w.params,⟨[]⟩,{},868,os⟩:Shared))=λos=>true:=by
 rewrite[PySem.W.Fast.te479339242167458305,PySem.W.Fast.te1768822226353211369,PySem.W.Fast.te10544986032919753165]
 kernel_rfl
theorem lk6(w:World):(λos:OsState=>pinSeenD q (drecsOf q) (⟨hf w.params,⟨[]⟩,{},868,os⟩:Shared))=λos=>pinGoodD (drecsOf q):=by
 rewrite[PySem.W.Fast.te16090120013241838585,PySem.W.Fast.te3247288618530077131,PySem.W.Fast.te1768822226353211369,PySem.W.Fast.te10544986032919753165]
 kernel_rfl
theorem lk7(w:World):(λos:OsState=>plainSeenE q (looseW q []) (⟨hf w.params,⟨[]⟩,{},868,os⟩:Shared))=λos=>plainGoodE q (looseW q []):=by
 rewrite[PySem.W.Fast.te2386780881361962483,PySem.W.Fast.te821141287760084731,PySem.W.Fast.te1768822226353211369,PySem.W.Fast.te10544986032919753165]
 kernel_rfl
theorem lk8(w:World):(λos:OsState=>plainSeenD q [] (⟨hf w.params,⟨[]⟩,{},868,os⟩:Shared))=λos=>plainGoodD q []:=by
 rewrite[PySem.W.Fast.te11698064438423848299,PySem.W.Fast.te1768822226353211369,PySem.W.Fast.te10544986032919753165]
 kernel_rfl
theorem lk9(w:World):(λos:OsState=>wideSeen q (⟨hf w.params,⟨[]⟩,{},868,os⟩:Shared))=λos=>wideGood q:=by
 rewrite[PySem.W.Fast.te7317090234206586261,PySem.W.Fast.te1768822226353211369,PySem.W.Fast.te10544986032919753165]
 kernel_rfl
theorem lk10(w:World):(λos:OsState=>clsSeenW q [] (⟨hf w.params,⟨[]⟩,{},868,os⟩:Shared))=λos=>clsGoodW q []:=by
 rewrite[PySem.W.Fast.te7369524293546568484,PySem.W.Fast.te1768822226353211369,PySem.W.Fast.te10544986032919753165]
 kernel_rfl
theorem kkc:K=kc:=by kernel_rfl
theorem lk11(w:World):(λos:OsState=>hk.obs (⟨hf w.params,⟨[]⟩,{},868,os⟩:Shared))=λos=>hk.val w:=by
 show(λos:OsState=>as.map (⟨hf w.params,⟨[]⟩,{},868,os⟩:Shared).heap.get?)=λos=>(K w.params).map λp=>some p.2
 rewrite[kkc,PySem.W.Fast.te10544986032919753165,PySem.W.Fast.te11339538413228328203]
 kernel_rfl
theorem looks(w:World):(λos:OsState=>((staticsOk (importedModules PySem.Challenge.pw_eachstepsame_k23_rulers_and_ways.main.body) (boot_heap w.params) (hf w.params)&&namesBound PySem.Challenge.pw_eachstepsame_k23_rulers_and_ways (hf w.params)&&gensDone (⟨hf w.params,⟨[]⟩,{},868,os⟩:Shared)&&laidKept (boot_heap w.params) (hf w.params)),
  openSeen q [] (importedModules PySem.Challenge.pw_eachstepsame_k23_rulers_and_ways.main.body) Xt true (⟨hf w.params,⟨[]⟩,{},868,os⟩:Shared),hk.obs (⟨hf w.params,⟨[]⟩,{},868,os⟩:Shared)))=λ_=>(true,openGood q [],hk.val w):=by
 funext os;refine looks_pair (congrFun (lk1 w) os) (looks_pair ?_ (congrFun (lk11 w) os));exact looks_pair (congrFun (lk2 w) os) (looks_pair (congrFun (lk3 w) os) (looks_pair (congrFun (lk4 w) os) (looks_pair (congrFun (lk5 w) os) (looks_pair (congrFun (lk6 w) os) (looks_pair (congrFun (lk7 w) os) (looks_pair (congrFun (lk8 w) os) (looks_pair (congrFun (lk9 w) os) (congrFun (lk10 w) os))))))))
theorem left:LeftO PySem.Challenge.pw_eachstepsame_k23_rulers_and_ways q [] Xt hk.obs hk.val 7280 true:=
 LeftO.of_pieces (boot_open (by kernel_rfl) (by kernel_rfl) (λs=>by kernel_rfl)) (λw=>by kernel_rfl) run (by kernel_rfl) looks
end
end Op
noncomputable section
section
open PySem PySem.Spec PyProof.Rows
noncomputable def aa:= @wpAny_bind
noncomputable def ae:= @Heap.get?_push_of_some
noncomputable def aM:= @List.getElem?_set_ne
noncomputable def aH:= @Bool.false_ne_true
noncomputable def ah:= @wpAny_pure
noncomputable def ai:= @Option.some.inj
noncomputable def ac:= @Nat.le_refl
noncomputable def am:= @Heap.lt_size
noncomputable def au:= @Nat.ne_of_lt
noncomputable def ak:= @List.mem_of_getElem?
noncomputable def az:= @Nat.lt_of_lt_of_le
noncomputable def aq:= @Heap.get?_push_size
noncomputable def ag:= @List.getElem?_eq_getElem
noncomputable def aQ:= @PySem.mem_of_lookup
noncomputable def aF:= @List.length_set
noncomputable def aI:= @Nat.lt_succ_self
noncomputable def aj:= @List.getElem?_map
noncomputable def aK:= @List.mem_append_right
noncomputable def aC:= @List.getElem?_append_left
noncomputable def aE:= @List.getElem?_append_right
noncomputable def aB:= @List.length_append
noncomputable def aO:= @List.getElem?_set_self
noncomputable def aR:= @Nat.le_trans
noncomputable def bp:= @Nat.ne_of_gt
noncomputable def bB:= @wpAny_setField_rec
noncomputable def aS:= @List.mem_append_left
noncomputable def aZ:= @List.getElem?_eq_none
noncomputable def be:= @Nat.lt_irrefl
noncomputable def aW:= @wpAny_mono
noncomputable def a8:= @wpAny_field
noncomputable def aX:= @PyProof.Rows.callWith_type1
theorem aw{α:Type _}{l:List α}{i:Nat}{a:α}(h:l[i]? =some a):∃h:i<l.length,l[i]=a:=List.getElem?_eq_some_iff.mp h
noncomputable abbrev aA:=PySem.W.Frag
end
theorem kK{P:Prop}(h:false=true):P:=absurd h aH
namespace L2
open PySem PySem.Spec PyProof.Rows
variable{us:List Value}{u:Value}{C a b dx it:Addr}{base h:Heap}{w:World}{P:Program}{o:Obj}{ch fp:List Addr}{i j n t':Nat}{qual x:Str}{E Q:Value->Shared->Prop}{A:Around}{c e tg:Expr}{s:Shared}{pos:Pos}{pins:List (Addr×Obj)}{f:Value->Value->Sem Value}{mA mg:Str->Option Value}{kw:List (Str×Value)}
noncomputable abbrev Key:=Sum Int Str
noncomputable def ga:Key->Value->Bool
 | .inl k,v=>Value.isInt k v
 | .inr x,v=>Value.isStrOf x v
noncomputable def C9(w:World):Key->Int
 | .inl k=>hashInt k
 | .inr x=>hashStr w x
theorem bE:∀{k:Key}{v:Value},ga k v=true->(∃i t,k=Sum.inl i/\v=Value.int i t)∨(∃x t,k=Sum.inr x/\v=Value.str x t)
 | .inl i,v,h=>by obtain⟨t,e⟩:=Value.isInt_shape (k:=i) (v:=v) h;exact .inl ⟨i,t,rfl,e⟩
 | .inr x,v,h=>by obtain⟨t,e⟩:=Value.isStrOf_shape (x:=x) (v:=v) h;exact .inr ⟨x,t,rfl,e⟩
theorem tq(i:Int)(t:Tok):ga (.inl i) (.int i t)=true:=by simp[ga,Value.isInt]
theorem tm(x:Str)(t:Tok):ga (.inr x) (.str x t)=true:=by simp[ga,Value.isStrOf]
theorem Bf(a b:Int):decide ((Sum.inl a:Key)=Sum.inl b)=(a==b):=by
 by_cases e:a=b
 ·subst e;simp
 ·have h:¬(Sum.inl a:Key)=Sum.inl b:=λq=>e (Sum.inl.inj q);rw[decide_eq_false h];exact(beq_eq_false_iff_ne.mpr e).symm
theorem Bc(a b:Str):decide ((Sum.inr a:Key)=Sum.inr b)=decide (a=b):=by
 by_cases e:a=b
 ·subst e;simp
 ·have h:¬(Sum.inr a:Key)=Sum.inr b:=λq=>e (Sum.inr.inj q);rw[decide_eq_false h,decide_eq_false e]
theorem Be(a:Int)(b:Str):decide ((Sum.inl a:Key)=Sum.inr b)=false:=decide_eq_false (λq=>nomatch q)
theorem Bd(a:Str)(b:Int):decide ((Sum.inr a:Key)=Sum.inl b)=false:=decide_eq_false (λq=>nomatch q)
noncomputable def bg(prog:Program)(w:World):PySem.KeyKind prog w Key where
 is:=ga
 hash:=C9 w
 inj:=λv a b ha hb=>by
  rcases bE ha with⟨i,t,rfl,rfl⟩|⟨x,t,rfl,rfl⟩
  ·rcases bE hb with⟨j,u,rfl,e⟩|⟨y,u,rfl,e⟩
   ·injection e with e1 _;rw[e1]
   ·exact nomatch e
  ·rcases bE hb with⟨j,u,rfl,e⟩|⟨y,u,rfl,e⟩
   ·exact nomatch e
   ·injection e with e1 _;rw[e1]
 byValue:=λk v h=>by rcases bE h with⟨i,t,rfl,rfl⟩|⟨x,t,rfl,rfl⟩<;>rfl
 pyHash:=λhv h=>by
  rcases bE hv with⟨i,t,rfl,rfl⟩|⟨x,t,rfl,rfl⟩
  ·exact wpAny_pyHash_int h
  ·exact wpAny_pyHash_str h
 eqBool:=λhu hv h=>by
  rcases bE hu with⟨i,t,rfl,rfl⟩|⟨x,t,rfl,rfl⟩
  ·rcases bE hv with⟨j,u,rfl,rfl⟩|⟨y,u,rfl,rfl⟩
   ·rw[Bf] at h;exact wpAny_eqBool_int h
   ·rw[Be] at h;exact SeqAt.EqAt.int_str i t y u _ _ _ _ h
  ·rcases bE hv with⟨j,u,rfl,rfl⟩|⟨y,u,rfl,rfl⟩
   ·rw[Bd] at h;exact SeqAt.EqAt.str_int x t j u _ _ _ _ h
   ·rw[Bc] at h;exact wpAny_eqBool_str h
 «strs»:=λk x t v h=>by
  rcases bE h with⟨i,u,rfl,e⟩|⟨y,u,rfl,e⟩
  ·exact nomatch e
  ·injection e with e1 _;subst e1;cases v<;>rfl
theorem oB(prog:Program)(w:World)(i:Int)(t:Tok):(bg prog w).is (.inl i) (.int i t)=true:=tq i t
theorem oA(prog:Program)(w:World)(x:Str)(t:Tok):(bg prog w).is (.inr x) (.str x t)=true:=tm x t
inductive V where
 |non|bl (b:Bool)|int (i:Int)|str (x:Str)|byt (b:Array UInt8)|flt (b:UInt64)|ref (a:Addr)|ty (n:String)
 deriving DecidableEq
noncomputable def RelV:V->Value->Prop
 | .non,u=>u=Value.none
 | .bl b,u=>u=Value.bool b
 | .int i,u=>∃t,u=Value.int i t
 | .str x,u=>∃t,u=Value.str x t
 | .byt b,u=>∃t,u=Value.bytes b t
 | .flt b,u=>∃t,u=Value.float b t
 | .ref a,u=>u=Value.ref a
 | .ty n,u=>u=Value.type n
abbrev bn:List V->List Value->Prop:=Paired RelV
theorem bn.length{xs:List V}(r:bn xs us):xs.length=us.length:=Paired.length r
theorem bn.get:∀{xs:List V}{us:List Value}{i:Nat}{x:V},bn xs us->xs[i]? =some x->∃u,us[i]? =some u/\RelV x u
 |_,_,_,_,.nil,e=>by simp at e
 |_,_,0,_,.cons r _,e=>by simp at e;subst e;exact⟨_,rfl,r⟩
 |_,_,i+1,x,.cons _ t,e=>by
  obtain⟨u,h1,c⟩:=bn.get (i:=i) (x:=x) t (by simpa using e)
  exact⟨u,by simpa using h1,c⟩
theorem bn.set{x:V}(r:RelV x u):∀{xs:List V}{us:List Value}(i:Nat),bn xs us->bn (xs.set i x) (us.set i u)
 |_,_,_,.nil=>.nil
 |_,_,0,.cons _ t=>.cons r t
 |_,_,i+1,.cons q t=>.cons q (bn.set r i t)
theorem bn.append:∀{xs ys:List V}{us ws:List Value},bn xs us->bn ys ws->bn (xs++ys) (us++ws)
 |_,_,_,_,.nil,s=>s
 |_,_,_,_,.cons r t,s=>.cons r (bn.append t s)
theorem bn.take:∀{xs:List V}{us:List Value}(n:Nat),bn xs us->bn (xs.take n) (us.take n)
 |_,_,0,_=>.nil
 |_,_,_+1,.nil=>.nil
 |_,_,n+1,.cons r t=>.cons r (bn.take n t)
theorem bn.drop:∀{xs:List V}{us:List Value}(n:Nat),bn xs us->bn (xs.drop n) (us.drop n)
 |_,_,0,r=>r
 |_,_,_+1,.nil=>.nil
 |_,_,n+1,.cons _ t=>bn.drop n t
def fQ:Option V->Option Value->Prop
 |some v,some u=>RelV v u
 |none,none=>True
 |_,_=>False
def KV{κ:Type}:List (κ×V)->List (κ×Value)->Prop:=Paired λ(p:κ×V)(q:κ×Value)=>p.1=q.1/\RelV p.2 q.2
noncomputable def kV:Key->V
 | .inl i=>.int i
 | .inr x=>.str x
inductive HO where
 |lst (xs:List V)
 |tup (xs:List V)
 |dK (kvs:List (Key×V))|dT (kvs:List (List Key×V))
 |set (S:Int->Bool)(n:Nat)
 |ins (C dx:Addr)(fs:List (Str×V))
 |own (x:Addr)
 |xd (fs:List (Str×V))
 |met (f x:Addr)
 |rng (lo hi:Int)
 |frz (o:Obj)(u:HO)
 |tbl (ps:Array Value)
 |ext (φ:Heap->Prop)
noncomputable abbrev Hp:=Addr->Option HO
noncomputable def upd(H:Hp)(a:Addr)(o:HO):Hp:=λb=>if b=a then some o else H b
theorem bF{H:Hp}{o:HO}:upd H a o a=some o:=by unfold upd;rw[if_pos rfl]
theorem aL{H:Hp}{o:HO}(h:b≠a):upd H a o b=H b:=by unfold upd;rw[if_neg h]
theorem fc{H:Hp}{o u:HO}(h:H a=some o)(h':H b=some u)(d:o≠u):a≠b:=by intro e;subst e;rw[h] at h';exact d (ai h')
theorem aJ{H:Hp}{o:HO}(h:H a=some o)(h':H b=none):a≠b:=by intro e;subst e;rw[h] at h';cases h'
noncomputable def lG(h:Heap)(a:Addr)(its:Array Value):Prop:=∃o,h.get? a=some o/\(o.cls=.type "tuple" /\o.dict=none)/\∃n,o.data=.seq its n
theorem lG.tup{its:Array Value}(x:lG h a its):IsTup h a its:=let⟨o,e,c,d⟩:=x;⟨o,e,c.1,d⟩
theorem lG.lt{its:Array Value}(x:lG h a its):a<h.objs.size:=x.tup.lt
theorem lG.new(h:Heap)(its:Array Value):lG (h.push {cls:= .type "tuple",data:= .seq its}) h.objs.size its:=⟨_,aq _ rfl,⟨rfl,rfl⟩,0,rfl⟩
section
variable(P:Program)(w:World)
def cj(H:Hp)(h:Heap)(a:Addr):HO->Prop
 | .lst xs=>xs.length<=sizeLine/\∃(its:List Value)(n:Nat),bn xs its/\h.get? a=some {cls:= .type "list",data:= .seq its.toArray n}
 | .tup xs=>xs.length<=sizeLine/\∃its:List Value,bn xs its/\lG h a its.toArray
 | .dK kvs=>kvs.length<=sizeLine/\(a==sysModules)=false/\∃vs,KV kvs vs/\h.DictOf (bg P w) a vs
 | .dT kvs=>kvs.length<=sizeLine/\(a==sysModules)=false/\∃xs:List (List Key×Addr×Value),
   Paired (λ(p:List Key×V)(q:List Key×Addr×Value)=>p.1=q.1/\H q.2.1=some (.tup (p.1.map kV))/\RelV p.2 q.2.2) kvs xs/\
   ∃o es ep,h.get? a=some o/\o.ExactDict/\o.data=.dict es ep/\es.toList=xs.map (entryOfKey (tupleKind (bg P w)))/\(xs.map (·.1)).Nodup
 | .set S n=>h.SetOf (intKind P w) a S n
 | .ins C dx fs=>H dx=some (.own a)/\fs.length<=1000/\dx≠a/\h.get? a=some (PySem.W.instObj C dx)/\
   ∃mA,h.Ns1 dx mA/\(∀f,fQ (fs.lookup f) (mA f))/\PySem.Within mA (fs.map (·.1))
 | .own _=>∃o,h.get? a=some o
 | .xd fs=>∃mA,h.Ns1 a mA/\∀f,fQ (fs.lookup f) (mA f)
 | .rng lo hi=>∃t u v,h.get? a=some {cls:= .type "range",data:= .fields #[.int lo t,.int hi u,.int 1 v]}
 | .frz o u=>h.get? a=some o/\cj H h a u
 | .tbl ps=>h.get? a=some {cls:= .none,data:= .fields ps}
 | .met f x=>h.get? a=some (PySem.W.methodObj (.ref f) (.ref x))
 | .ext φ=>φ h/\(∃o,h.get? a=some o)/\∀h1 h2:Heap,φ h1->(∀o,h1.get? a=some o->h2.get? a=some o)->φ h2
def gX(H:Hp)(h:Heap):Prop:=∀a o,H a=some o->cj P w H h a o
end
section
variable{P:Program}{w:World}{H H':Hp}{h h':Heap}{a:Addr}{o:HO}
theorem cj.lt(x:cj P w H h a o):a<h.objs.size:=by
 cases o with
 |lst xs=>obtain⟨_,_,_,_,e⟩:=x;exact am e
 |tup xs=>obtain⟨_,_,_,p⟩:=x;exact p.lt
 |dK kvs=>obtain⟨_,_,_,_,o,_,_,e,_⟩:=x;exact am e
 |dT kvs=>obtain⟨_,_,_,_,o,_,_,e,_⟩:=x;exact am e
 |set S n=>obtain⟨o,_,_,_,e,_⟩:=x;exact am e
 |ins C dx fs=>obtain⟨_,_,_,e,_⟩:=x;exact am e
 |own y=>obtain⟨_,e⟩:=x;exact am e
 |xd fs=>obtain⟨_,⟨_,_,_,e,_⟩,_⟩:=x;exact am e
 |rng lo hi=>obtain⟨_,_,_,e⟩:=x;exact am e
 |frz ob u=>obtain⟨e,_⟩:=x;exact am e
 |tbl ps=>exact am (show h.get? a=some _ from x)
 |met f y=>exact am (show h.get? a=some _ from x)
 |ext φ=>obtain⟨_,⟨_,e⟩,_⟩:=x;exact am e
theorem Paired.mapP{α β:Type}{F G:α->β->Prop}:∀{l₁:List α}{l₂:List β},Paired F l₁ l₂->(∀a b,F a b->G a b)->Paired G l₁ l₂
 |_,_,.nil,_=>.nil
 |_,_,.cons r t,f=>.cons (f _ _ r) (Paired.mapP t f)
theorem cj.stay(x:cj P w H h a o)(k:∀b u,(b=a∨H b=some (.own a))->h.get? b=some u->h'.get? b=some u)
  (ho:∀b,H b=some (.own a)->H' b=some (.own a))(I:∀b xs,H b=some (.tup xs)->H' b=some (.tup xs)):cj P w H' h' a o:=by
 induction o with
 |lst xs=>obtain⟨z,its,n,r,e⟩:=x;exact⟨z,its,n,r,k _ _ (.inl rfl) e⟩
 |tup xs=>obtain⟨z,its,r,B,e,c⟩:=x;exact⟨z,its,r,B,k _ _ (.inl rfl) e,c⟩
 |dK kvs=>obtain⟨z,y,vs,r,B,es,ep,e,c⟩:=x;exact⟨z,y,vs,r,B,es,ep,k _ _ (.inl rfl) e,c⟩
 |dT kvs=>obtain⟨z,y,xs,r,B,es,ep,e,c⟩:=x;exact⟨z,y,xs,Paired.mapP r λp q z=>⟨z.1,I _ _ z.2.1,z.2.2⟩,B,es,ep,k _ _ (.inl rfl) e,c⟩
 |set S n=>obtain⟨B,es,ep,t,e,c⟩:=x;exact⟨B,es,ep,t,k _ _ (.inl rfl) e,c⟩
 |ins C dx fs=>obtain⟨d,z,ne,e,mA,⟨F,es,ep,J,c⟩,r⟩:=x;exact⟨ho _ d,z,ne,k _ _ (.inl rfl) e,mA,⟨F,es,ep,k _ _ (.inr d) J,c⟩,r⟩
 |own y=>obtain⟨B,e⟩:=x;exact⟨B,k _ _ (.inl rfl) e⟩
 |xd fs=>obtain⟨mA,⟨F,es,ep,e,c⟩,r⟩:=x;exact⟨mA,⟨F,es,ep,k _ _ (.inl rfl) e,c⟩,r⟩
 |rng lo hi=>obtain⟨t,u,v,e⟩:=x;exact⟨t,u,v,k _ _ (.inl rfl) e⟩
 |frz B u ih=>obtain⟨e,q⟩:=x;exact⟨k _ _ (.inl rfl) e,ih q⟩
 |tbl ps=>have e:h.get? a=some {cls:= .none,data:= .fields ps}:=x;show h'.get? a=some {cls:= .none,data:= .fields ps};exact k a _ (.inl rfl) e
 |met f y=>have e:h.get? a=some (PySem.W.methodObj (.ref f) (.ref y)):=x;show h'.get? a=some (PySem.W.methodObj (.ref f) (.ref y));exact k a _ (.inl rfl) e
 |ext φ=>obtain⟨p,⟨o,e⟩,st⟩:=x;exact⟨st _ _ p λo q=>k _ _ (.inl rfl) q,⟨o,k _ _ (.inl rfl) e⟩,st⟩
theorem gX.lt(x:gX P w H h)(e:H a=some o):a<h.objs.size:=(x a o e).lt
theorem gX.fresh(x:gX P w H h)(e:h.objs.size<=a):H a=none:=by
 cases q:H a with
 |none=>rfl
 |some u=>exact absurd (az (x.lt q) e) (be _)
theorem gX.kept(x:gX P w H h)(k:∀b u,h.get? b=some u->h'.get? b=some u):gX P w H h':=λa o e=>
 (x a o e).stay (λb u _ q=>k b u q) (λ_ q=>q) λ_ _ q=>q
theorem gX.laid(x:gX P w H h)(k:∀b u,h.get? b=some u->h'.get? b=some u)(F:h.objs.size<=a)(new:cj P w (upd H a o) h' a o):gX P w (upd H a o) h':=λb u e=>by
 have B:=x.fresh F;by_cases hb:b=a
 ·subst hb;rw[bF] at e;cases e;exact new
 ·rw[aL hb] at e;exact(x b u e).stay (λc v _ q=>k c v q) (λc q=>by rw[aL (aJ q B)];exact q) λc xs q=>by rw[aL (aJ q B)];exact q
end
def Rd(H:Hp)(a:Addr)(u:HO):Prop:=H a=some u∨∃o,H a=some (.frz o u)
theorem Rd.ok{H:Hp}{u:HO}(r:Rd H a u)(x:gX P w H h):cj P w H h a u:=by
 rcases r with r|⟨o,r⟩
 ·exact x a u r
 ·obtain⟨_,q⟩:=x a _ r;exact q
noncomputable def DN:Option HO->Prop
 |some (.lst _)=>True
 |some (.dK _)=>True
 |some (.dT _)=>True
 |some (.set _ _)=>True
 |some (.ins _ _ _)=>True
 |some (.ext _)=>True
 |_=>False
section
variable{P:Program}{w:World}{H:Hp}{h h':Heap}{x e:Addr}{o':HO}
theorem gX.write(ok:gX P w H h)(B:DN (H x))(U:e=x∨H e=some (.own x))(k:∀b u,b≠e->h.get? b=some u->h'.get? b=some u)(I:∃u,h'.get? e=some u)
  (new:cj P w (upd H x o') h' x o'):gX P w (upd H x o') h':=λb u q=>by
 have nown:∀c y,H c=some (.own y)->c≠x:=λc y r z=>by subst z;rw[r] at B;exact B
 have ntup:∀c xs,H c=some (.tup xs)->c≠x:=λc xs r z=>by subst z;rw[r] at B;exact B
 by_cases hb:b=x
 ·subst hb;rw[bF] at q;cases q;exact new
 ·rw[aL hb] at q;by_cases hbe:b=e
  ·have J:H b=some (.own x):=by
    rcases U with z|z
    ·exact absurd (hbe.trans z) hb
    ·rw[hbe];exact z
   rw[q] at J;cases J;obtain⟨v,Y⟩:=I;exact⟨v,by rw[hbe];exact Y⟩
  ·refine(ok b u q).stay (λc v F r=>k c v ?_ r) (λc r=>by rw[aL (nown c b r)];exact r) λc xs r=>by rw[aL (ntup c xs r)];exact r
   rcases F with rfl|F
   ·exact hbe
   ·rintro rfl;rcases U with z|z
    ·exact nown c b F z
    ·rw[F] at z;cases z;exact hb rfl
end
structure Un(fs ex:List Addr)(H H':Hp)(h h':Heap):Prop where
 keep:∀b o,h.get? b=some o->H b=none->b∉fs->b∉ex->h'.get? b=some o
 slot:∀b o,h.get? b=some o->H b=none->b∈fs->b∉ex->∃sl,h'.get? b=some {o with slots:=sl}
 free:∀b o,h.get? b=some o->H b=none->b∉ex->H' b=none
 there:∀b o,h.get? b=some o->b∉ex->∃o',h'.get? b=some o'
 tups:∀b xs,H b=some (.tup xs)->H' b=some (.tup xs)
 frzs:∀b o u,H b=some (.frz o u)->H' b=some (.frz o u)
 tbls:∀b ps,H b=some (.tbl ps)->∃more,H' b=some (.tbl (ps++more))
section
variable{fs ex:List Addr}{H H1:Hp}{h h1 h':Heap}{a x e:Addr}{o:HO}
theorem Un.any(u:Un fs ex H H1 h h1){c:Obj}(q:h.get? b=some c)(n:H b=none)(B:b∉ex):∃sl,h1.get? b=some {c with slots:=sl}:=by
 by_cases hb:b∈fs
 ·exact u.slot b c q n hb B
 ·exact⟨c.slots,u.keep b c q n hb B⟩
theorem Un.kept(k:∀b u,h.get? b=some u->h'.get? b=some u):Un fs ex H H h h':=
 ⟨λb c q _ _ _=>k b c q,λb c q _ _ _=>⟨c.slots,k b c q⟩,λ_ _ _ n _=>n,λb c q _=>⟨c,k b c q⟩,λ_ _ q=>q,λ_ _ _ q=>q,λ_ ps q=>⟨#[],by rw[q];simp⟩⟩
theorem Un.refl:Un fs ex H H h h:=Un.kept λ_ _ q=>q
theorem Un.laid(k:∀b u,h.get? b=some u->h'.get? b=some u)(B:h.objs.size<=a)(c:H a=none):Un fs ex H (upd H a o) h h' where
 keep:=λb u q _ _ _=>k b u q
 slot:=λb u q _ _ _=>⟨u.slots,k b u q⟩
 free:=λb u q n _=>by rw[aL (au (az (am q) B))];exact n
 there:=λb u q _=>⟨u,k b u q⟩
 tups:=λb xs q=>by rw[aL (aJ q c)];exact q
 frzs:=λb u xs q=>by rw[aL (aJ q c)];exact q
 tbls:=λb ps q=>⟨#[],by rw[aL (aJ q c),q];simp⟩
theorem Un.write(c:DN (H x))(U:e=x∨H e=some (.own x))(k:∀b u,b≠e->h.get? b=some u->h'.get? b=some u)(F:∃u,h'.get? e=some u):Un fs ex H (upd H x o) h h':=by
 have I:∀b,H b=none->b≠x:=λb n z=>by subst z;rw[n] at c;exact c
 have J:∀b,H b=none->b≠e:=λb n z=>by
  subst z;rcases U with r|r
  ·exact I b n r
  ·rw[n] at r;cases r
 have B:∀b u,H b=some u->¬DN (some u)->b≠x:=λb u q nm z=>by subst z;rw[q] at c;exact nm c
 refine⟨λb u q n _ _=>k b u (J b n) q,λb u q n _ _=>⟨u.slots,k b u (J b n) q⟩,λb u q n _=>by rw[aL (I b n)];exact n,λb u q _=>?_,
  λb xs q=>by rw[aL (B b _ q λz=>z)];exact q,λb u xs q=>by rw[aL (B b _ q λz=>z)];exact q,λb ps q=>⟨#[],by rw[aL (B b _ q λz=>z),q];simp⟩⟩
 by_cases hbe:b=e
 ·subst hbe;exact F
 ·exact⟨u,k b u hbe q⟩
end
noncomputable def DS(h:Heap)(H:Hp):List Addr:=(List.range h.objs.size).filter λa=>(H a).isSome
noncomputable def nh(h:Heap)(H:Hp):Heap:=PySem.W.hideAll h (DS h H)
theorem tD(h:Heap)(H:Hp):(nh h H).objs.size=h.objs.size:=PySem.W.hideAll_size _ _
theorem wu{H:Hp}(e:h.get? b=some o)(n:H b=none):(nh h H).get? b=some o:=
 PySem.W.hideAll_get _ e λc=>by have q:(H b).isSome=true:=(List.mem_filter.mp c).2;rw[n] at q;simp at q
theorem yf{H:Hp}(e:(nh h H).get? b=some o):h.get? b=some o/\H b=none:=by
 have e':h.get? b=some o:=PySem.W.of_hideAll (DS h H) e;refine⟨e',?_⟩;cases q:H b with
 |none=>rfl
 |some x=>
  have c:b∈DS h H:=List.mem_filter.mpr ⟨List.mem_range.mpr (am e'),by simp[q]⟩
  have z:(nh h H).get? b=none:=PySem.W.hideAll_none (DS h H) c;rw[z] at e;cases e
noncomputable def yT(g h:Heap)(L:Addr):List (Addr×Obj):=(List.range h.objs.size).filterMap λa=>if a=L∨(g.get? a).isSome=true then none else(h.get? a).map λo=>(a,o)
def rest(g h:Heap)(L d:Addr):List (Addr×Obj):=(yT g h L).filter λp=>decide (p.1≠d)
structure Mod(K:aA)(mg:Str->Option Value)(base:Heap):Prop where
 kin:K.In base
 glob:base.Ns mainGlobals mg
 blt:∃mb,base.Ns builtinsNs mb/\∀x:Str,x≠ "__name__" ->mb x=bootBuiltins x
 nolimit:base.NoLimit
structure Cx where
 prog:Program
 w:World
 K:aA
 mg:Str->Option Value
 base:Heap
 A:Around
 N:List Str
 s₀:Shared
 H₀:Hp
 env:Env
 outer:List Env
 stack:List Env
 ex:List Addr
 fn:Str->Bool
 calm:Bool
 pn:List (Addr×Obj)
 xe:Value->Shared->Prop
noncomputable def tH(l:List Env):List Addr:=l.filterMap (·.frame)
abbrev Cx.fs(X:Cx):List Addr:=tH X.outer
noncomputable def DY(sc:Scope)(x:Str):Prop:=sc.names.lookup x=some .local∨sc.names.lookup x=some .cell∨sc.names.lookup x=some .free
noncomputable def Loc(sc:Scope)(x:Str):Prop:=sc.names.lookup x=some .local∨sc.names.lookup x=some .cell
noncomputable def Look(env:Env)(h:Heap)(m:Str->Option Value)(x:Str)(u:Value):Prop:=
 (env.kindOf x=some .local/\m x=some u)∨((env.kindOf x=some .cell∨env.kindOf x=some .free)/\∃c,env.cells.lookup x=some c/\h.IsCell c (some u))
structure Cx.Ok(X:Cx):Prop where
 mod:Mod X.K X.mg X.base
 kind:X.env.scope.kind=.function
 glob:X.env.globals=mainGlobals
 blt:X.env.builtins=builtinsNs
 above:X.s₀.heap.objs.size<=X.env.locals
 inj:∀x y c,X.env.cells.lookup x=some c->X.env.cells.lookup y=some c->x=y
 has:∀x,(X.env.kindOf x=some .cell∨X.env.kindOf x=some .free)->∃c,X.env.cells.lookup x=some c
 cab:∀x c,X.fn x=true->X.env.cells.lookup x=some c->X.s₀.heap.objs.size<=c
 hd:X.calm=true->X.A.handled=none
 frames:X.A.frames=some X.stack
 stk:X.stack=X.outer∨(X.stack=X.env::X.outer/\X.env.frame=some X.env.locals)
 exf:∀b∈X.ex,b≠X.env.locals/\∀x c,X.env.cells.lookup x=some c->c≠b
 bs:∀b o,X.base.get? b=some o->X.s₀.heap.get? b=some o/\X.H₀ b=none
 bsz:X.base.objs.size<=X.s₀.heap.objs.size
 noex:∀b o,X.base.get? b=some o->b∉X.ex
 exfs:∀b∈X.ex,b∉X.fs
 funs:X.s₀.heap.FunFrames X.base X.outer
 frf:∀b∈X.fs,X.H₀ b=none
structure Inv(X:Cx)(pins:List (Addr×Obj))(σ:List (Option V))(H:Hp)(s:Shared):Prop where
 ok:X.Ok
 os:s.os=X.s₀.os
 bare:AllBare s.gens
 base:Un X.fs X.ex X.H₀ H X.s₀.heap s.heap
 loc:∃m,s.heap.Ns X.env.locals m/\∀(i:Nat)(x:Str)(v:V),X.N[i]? =some x->σ[i]? =some (some v)->DY X.env.scope x->∃u,RelV v u/\Look X.env s.heap m x u
 cell:∀x c,X.env.cells.lookup x=some c->∃v,s.heap.IsCell c v
 free:H X.env.locals=none
 freeC:∀x c,X.env.cells.lookup x=some c->H c=none
 pin:∀p∈X.pn++pins,s.heap.get? p.1=some p.2/\H p.1=none/\p.1≠X.env.locals/\p.1∉X.fs/\∀v,p.2.data≠ .cell v
 hok:gX X.prog X.w H s.heap
 len:σ.length=X.N.length
section
variable{X:Cx}{pins:List (Addr×Obj)}{σ:List (Option V)}{H H':Hp}{s:Shared}{h':Heap}
theorem Cx.Ok.nofr(ok:X.Ok)(e:X.base.get? b=some o):b∉X.fs:=λc=>by have:=(ok.funs.mem c).1;rw[e] at this;cases this
theorem Inv.bs(I:Inv X pins σ H s):∀b o,X.base.get? b=some o->s.heap.get? b=some o/\H b=none:=λb o e=>
 ⟨I.base.keep b o (I.ok.bs b o e).1 (I.ok.bs b o e).2 (I.ok.nofr e) (I.ok.noex b o e),I.base.free b o (I.ok.bs b o e).1 (I.ok.bs b o e).2 (I.ok.noex b o e)⟩
theorem Inv.bk(I:Inv X pins σ H s):∀b o,X.base.get? b=some o->s.heap.get? b=some o:=λb o e=>(I.bs b o e).1
theorem Inv.mod(I:Inv X pins σ H s):Mod X.K X.mg X.base:=I.ok.mod
theorem Inv.kIn(I:Inv X pins σ H s):X.K.In s.heap:=I.ok.mod.kin.keeps I.bk
theorem Inv.lt(I:Inv X pins σ H s):X.env.locals<s.heap.objs.size:=let⟨_,hn,_⟩:=I.loc;hn.lt
theorem Inv.sz(I:Inv X pins σ H s):X.s₀.heap.objs.size<=s.heap.objs.size:=aR I.ok.above (Nat.le_of_lt I.lt)
theorem Inv.nofs(I:Inv X pins σ H s)(h:s.heap.objs.size<=a):a∉X.fs:=λc=>by obtain⟨_,o,ho,_⟩:=I.ok.funs.mem c;exact absurd (az (am ho) (aR I.sz h)) (be _)
theorem Inv.cne(I:Inv X pins σ H s):∀x c,X.env.cells.lookup x=some c->c≠X.env.locals:=λx c e z=>by obtain⟨v,o,ho,hd⟩:=I.cell x c e;obtain⟨m,⟨o',es,ep,B,F,_⟩,_⟩:=I.loc;rw[z,B] at ho;cases ho;rw[F] at hd;cases hd
theorem Inv.funs(I:Inv X pins σ H s):s.heap.FunFrames X.base X.outer:=by
 have all:∀(l:List Env),(∀b∈tH l,b∈X.fs)->X.s₀.heap.FunFrames X.base l->s.heap.FunFrames X.base l:=by
  intro l
  induction l with
  |nil=>intro _ _;trivial
  |cons env r ih=>
   intro hs U;obtain⟨hk,⟨L,o,c,J,ho,hd⟩,hr⟩:=U;have F:L∈X.fs:=hs L (by unfold tH;rw[List.filterMap_cons,c];exact List.mem_cons_self)
   obtain⟨sl,e⟩:=I.base.slot L o ho (I.ok.frf L F) F λz=>I.ok.exfs L z F;exact⟨hk,⟨L,_,c,J,e,hd⟩,ih (λb B=>hs b (by unfold tH;rw[List.filterMap_cons,c];exact List.mem_cons_of_mem _ B)) hr⟩
 exact all X.outer (λ_ B=>B) I.ok.funs
theorem Inv.stack(I:Inv X pins σ H s):s.heap.FunFrames X.base X.stack:=by
 rcases I.ok.stk with e|⟨e,hf⟩
 ·rw[e];exact I.funs
 ·rw[e];obtain⟨m,c,_⟩:=I.loc;refine .cons (by rw[I.ok.kind];decide) hf c ?_ I.funs
  exact Heap.get?_none_of_le (aR I.ok.bsz I.ok.above)
theorem Inv.stkSub(I:Inv X pins σ H s):∀b∈tH X.stack,b∈X.env.locals::X.fs:=λb c=>by
 rcases I.ok.stk with e|⟨e,hf⟩
 ·rw[e] at c;exact List.mem_cons_of_mem _ c
 ·rw[e] at c;unfold tH at c;rw[List.filterMap_cons,hf] at c;exact c
theorem Inv.stkFree(I:Inv X pins σ H s):∀b∈tH X.stack,H b=none:=λb c=>by
 rcases List.mem_cons.mp (I.stkSub b c) with e|c
 ·rw[e];exact I.free
 ·obtain⟨_,o,ho,_⟩:=I.ok.funs.mem c;exact I.base.free b o ho (I.ok.frf b c) λz=>I.ok.exfs b z c
theorem Inv.step{g':Array GenState}{d':Drawn}(I:Inv X pins σ H s)
  (J:∀b∈ch,(b∈X.ex∨X.s₀.heap.objs.size<=b)/\b≠X.env.locals/\(∀x c,X.env.cells.lookup x=some c->c≠b)/\∀p∈X.pn++pins,p.1≠b)
  (keep:∀b o,b≠X.env.locals->b∉X.fs->b∉ch->s.heap.get? b=some o->H b=none->h'.get? b=some o)
  (slot:∀b o,b≠X.env.locals->b∈X.fs->b∉ch->s.heap.get? b=some o->H b=none->∃sl,h'.get? b=some {o with slots:=sl})(free:∀b o,b∉ch->s.heap.get? b=some o->H b=none->H' b=none)
  (there:∀b o,b∉ch->s.heap.get? b=some o->∃o',h'.get? b=some o')
  (tups:∀b xs,H b=some (.tup xs)->H' b=some (.tup xs))(frzs:∀b o u,H b=some (.frz o u)->H' b=some (.frz o u))(tbls:∀b ps,H b=some (.tbl ps)->∃more,H' b=some (.tbl (ps++more)))
  (ns:∀m,s.heap.Ns X.env.locals m->h'.Ns X.env.locals m)(hok:gX X.prog X.w H' h')(hg:AllBare g'):
  Inv X pins σ H' {s with heap:=h',gens:=g',drawn:=d',toks:=t'}:=by
 have neL:∀b o,X.s₀.heap.get? b=some o->b≠X.env.locals:=λb o e=>au (az (am e) I.ok.above)
 have U:∀b o,X.s₀.heap.get? b=some o->b∉X.ex->b∉ch:=λb o e B Z=>by
  rcases(J b Z).1 with z|z
  ·exact B z
  ·exact absurd (az (am e) z) (be _)
 have cellK:∀x c,X.env.cells.lookup x=some c->∀v,s.heap.IsCell c v->h'.IsCell c v:=λx c e v hp=>by
  obtain⟨o,ho,hd⟩:=hp;have F:c∉ch:=λz=>(J c z).2.2.1 x c e rfl;by_cases hc:c∈X.fs
  ·obtain⟨sl,q⟩:=slot c o (I.cne x c e) hc F ho (I.freeC x c e);exact⟨_,q,hd⟩
  ·exact⟨o,keep c o (I.cne x c e) hc F ho (I.freeC x c e),hd⟩
 refine⟨I.ok,I.os,hg,⟨λb o e n Z B=>?_,λb o e n Z B=>?_,λb o e n B=>?_,λb o e B=>?_,λb xs e=>tups b xs (I.base.tups b xs e),λb o xs e=>frzs b o xs (I.base.frzs b o xs e),λb ps e=>?_⟩,?_,λx c e=>?_,?_,λx c e=>?_,λp hp=>?_,hok,I.len⟩
 ·exact keep b o (neL b o e) Z (U b o e B) (I.base.keep b o e n Z B) (I.base.free b o e n B)
 ·obtain⟨sl,Y⟩:=I.base.slot b o e n Z B;obtain⟨sl',e2⟩:=slot b _ (neL b o e) Z (U b o e B) Y (I.base.free b o e n B);exact⟨sl',e2⟩
 ·obtain⟨o',Y⟩:=I.base.there b o e B;exact free b o' (U b o e B) Y (I.base.free b o e n B)
 ·obtain⟨o',Y⟩:=I.base.there b o e B;exact there b o' (U b o e B) Y
 ·obtain⟨m1,Y⟩:=I.base.tbls b ps e;obtain⟨m2,e2⟩:=tbls b _ Y;exact⟨m1++m2,by rw[e2,Array.append_assoc]⟩
 ·obtain⟨m,hn,hl⟩:=I.loc;refine⟨m,ns m hn,λi x v Y e2 e3=>?_⟩;obtain⟨u,r,l⟩:=hl i x v Y e2 e3;refine⟨u,r,?_⟩;rcases l with l|⟨k,c,e,z⟩
  ·exact .inl l
  ·exact .inr ⟨k,c,e,cellK x c e _ z⟩
 ·obtain⟨v,z⟩:=I.cell x c e;exact⟨v,cellK x c e v z⟩
 ·obtain⟨m,⟨o,_,_,ho,_⟩,_⟩:=I.loc;exact free _ o (λz=>(J _ z).2.1 rfl) ho I.free
 ·obtain⟨v,o,ho,hd⟩:=I.cell x c e;exact free c o (λz=>(J c z).2.2.1 x c e rfl) ho (I.freeC x c e)
 ·obtain⟨e,n,ne,nf,d⟩:=I.pin p hp;have F:p.1∉ch:=λz=>(J p.1 z).2.2.2 p hp rfl;exact⟨keep p.1 p.2 ne nf F e n,free p.1 p.2 F e n,ne,nf,d⟩
theorem Inv.un(I:Inv X pins σ H s)(u:Un X.fs [] H H' s.heap h')(B:gX X.prog X.w H' h'):Inv X pins σ H' {s with heap:=h',toks:=t'}:=by
 obtain⟨m,⟨o,es,ep,ho,r⟩,_⟩:=id I.loc;obtain⟨sl,hL⟩:=u.any ho I.free (by simp)
 exact I.step (g':=s.gens) (d':=s.drawn) (ch:=[]) (λ_ z=>nomatch z) (λb o _ F _ e n=>u.keep b o e n F (by simp)) (λb o _ F _ e n=>u.slot b o e n F (by simp)) (λb o _ e n=>u.free b o e n (by simp)) (λb o _ e=>u.there b o e (by simp)) u.tups u.frzs u.tbls (λm' Z=>by obtain⟨o',J,U,c,Y⟩:=Z;rw[ho] at c;cases c;exact⟨_,J,U,hL,Y⟩) B I.bare
theorem Inv.call{g':Array GenState}{d':Drawn}(I:Inv X pins σ H s)(u:Un (tH X.stack) ch H H' s.heap h')(U:gX X.prog X.w H' h')(hg:AllBare g')
  (J:∀b∈ch,(b∈X.ex∨X.s₀.heap.objs.size<=b)/\b≠X.env.locals/\(∀x c,X.env.cells.lookup x=some c->c≠b)/\∀p∈X.pn++pins,p.1≠b):
  Inv X pins σ H' {s with heap:=h',gens:=g',drawn:=d',toks:=t'}:=by
 obtain⟨m,⟨o,es,ep,ho,r⟩,_⟩:=id I.loc;obtain⟨sl,Y⟩:=u.any ho I.free λz=>(J _ z).2.1 rfl
 exact I.step (ch:=ch) J (λb o Y hb B e n=>u.keep b o e n (λz=>(List.mem_cons.mp (I.stkSub b z)).elim Y hb) B) (λb o _ _ B e n=>u.any e n B) (λb o B e n=>u.free b o e n B) (λb o B e=>u.there b o e B) u.tups u.frzs u.tbls (λm' hm=>by obtain⟨o',Z,ep',F,r'⟩:=hm;rw[ho] at F;cases F;exact⟨_,Z,ep',Y,r'⟩) U hg
theorem Inv.turned(I:Inv X pins σ H s)(k:∀b o,b≠it->s.heap.get? b=some o->h'.get? b=some o)(U:H it=none)(J:it≠X.env.locals)
  (h1:it∈X.ex∨X.s₀.heap.objs.size<=it)(h2:∀x c,X.env.cells.lookup x=some c->c≠it)(h3:∀p∈X.pn++pins,p.1≠it):Inv X pins σ H {s with heap:=h',toks:=t'}:=by
 have F:∀b u,H b=some u->b≠it:=λb u e z=>by rw[z,U] at e;cases e
 refine I.step (g':=s.gens) (d':=s.drawn) (ch:=[it]) (λb Z=>?_) (λb o _ _ B e _=>k b o (λz=>B (by simp[z])) e) (λb o _ _ B e _=>⟨o.slots,k b o (λz=>B (by simp[z])) e⟩) (λ_ _ _ _ n=>n)
  (λb o B e=>⟨o,k b o (λz=>B (by simp[z])) e⟩) (λ_ _ e=>e) (λ_ _ _ e=>e) (λb ps e=>⟨#[],by rw[e];simp⟩) (λm Y=>?_) (λb u e=>?_) I.bare
 ·have e:b=it:=by simpa using Z
  subst e;exact⟨h1,J,h2,h3⟩
 ·obtain⟨o,es,ep,ho,r⟩:=Y;exact⟨o,es,ep,k _ o (Ne.symm J) ho,r⟩
 ·refine(I.hok b u e).stay (λc v B q=>k c v ?_ q) (λ_ q=>q) λ_ _ q=>q;rcases B with z|z
  ·rw[z];exact F b u e
  ·exact F c _ z
theorem Inv.tok(I:Inv X pins σ H s)(t:Nat):Inv X pins σ H {s with toks:=t}:=I.un (h':=s.heap) (t':=t) Un.refl I.hok
theorem Inv.kept(I:Inv X pins σ H s)(k:∀b u,s.heap.get? b=some u->h'.get? b=some u):Inv X pins σ H {s with heap:=h',toks:=t'}:=I.un (Un.kept k) (I.hok.kept k)
theorem Inv.laid{o:HO}(I:Inv X pins σ H s)(k:∀b u,s.heap.get? b=some u->h'.get? b=some u)(c:s.heap.objs.size<=a)(new:cj X.prog X.w (upd H a o) h' a o):
  Inv X pins σ (upd H a o) {s with heap:=h',toks:=t'}:=I.un (Un.laid k c (I.hok.fresh c)) (I.hok.laid k c new)
theorem Inv.write{x e:Addr}{o:HO}(I:Inv X pins σ H s)(B:DN (H x))(F:e=x∨H e=some (.own x))(k:∀b u,b≠e->s.heap.get? b=some u->h'.get? b=some u)(c:∃u,h'.get? e=some u)
  (new:cj X.prog X.w (upd H x o) h' x o):Inv X pins σ (upd H x o) {s with heap:=h',toks:=t'}:=I.un (Un.write B F k c) (I.hok.write B F k c new)
theorem Inv.pins_of{pins':List (Addr×Obj)}(I:Inv X pins σ H s)(h:∀p∈pins',s.heap.get? p.1=some p.2/\H p.1=none/\p.1≠X.env.locals/\p.1∉X.fs/\∀v,p.2.data≠ .cell v):Inv X pins' σ H s:=
 ⟨I.ok,I.os,I.bare,I.base,I.loc,I.cell,I.free,I.freeC,λp c=>(List.mem_append.mp c).elim (λz=>I.pin p (aS _ z)) (h p),I.hok,I.len⟩
theorem oo{N:List Str}(c:N.Nodup)(a:N[i]? =some x)(b:N[j]? =some x):i=j:=by obtain⟨h1,F⟩:=aw a;obtain⟨I,B⟩:=aw b;exact(List.getElem_inj c).mp (F.trans B.symm)
theorem iS{M:Model}{v:V}{Q:Unit->Shared->Prop}(I:Inv X pins σ H s)(hN:X.N.Nodup)(hi:X.N[i]? =some x)(J:Loc X.env.scope x)(r:RelV v u)
  (h:∀s',Inv X pins (σ.set i (some v)) H s'->(∃a,Heap.SameBut a s.heap s'.heap/\(a=X.env.locals∨X.env.cells.lookup x=some a))->Q () s')(hf:X.fn x=true∨X.env.scope.names.lookup x=some .local:=by first|exact .inl rfl|exact .inr rfl|assumption):wpAny M A (storeName X.env x u) Q E s:=by
 obtain⟨m,hn,hl⟩:=id I.loc;have hcls:(X.env.scope.kind== .class||(X.env.scope.kind== .module&&X.env.locals !=X.env.globals))=false:=by rw[I.ok.kind];rfl
 have hiσ:i<σ.length:=by rw[I.len];exact(aw hi).1
 have cne:=I.cne
 have tracked:∀{a:Addr}{h':Heap},(∃o,s.heap.get? a=some o/\H a=none)->Heap.SameBut a s.heap h'->gX X.prog X.w H h':=λ{a h'} ha hs b ob e=>by
  obtain⟨_,_,U⟩:=ha;refine(I.hok b ob e).stay (λc w' F q=>(hs.2 c ?_).trans q) (λ_ q=>q) λ_ _ q=>q;rintro rfl;rcases F with rfl|F
  ·rw[U] at e;cases e
  ·rw[U] at F;cases F
 rcases J with hk|hk
 ·refine wpAny_storeName_local hk hn (λh' hn' hs=>?_) hcls;obtain⟨oL,_,_,hoL,_⟩:=id hn;refine h _ ⟨I.ok,I.os,I.bare,⟨λb o e n hb J=>?_,λb o e n hb J=>?_,I.base.free,λb o e J=>?_,I.base.tups,I.base.frzs,I.base.tbls⟩,⟨_,hn',λj y v' B Y e3=>?_⟩,λy c e=>?_,I.free,I.freeC,λp hp=>?_,tracked ⟨oL,hoL,I.free⟩ hs,by simpa using I.len⟩ ⟨_,hs,.inl rfl⟩
  ·exact(hs.2 b (au (az (am e) I.ok.above))).trans (I.base.keep b o e n hb J)
  ·obtain⟨sl,B⟩:=I.base.slot b o e n hb J;exact⟨sl,(hs.2 b (au (az (am e) I.ok.above))).trans B⟩
  ·obtain⟨o',B⟩:=I.base.there b o e J;exact⟨o',(hs.2 b (au (az (am e) I.ok.above))).trans B⟩
  ·by_cases hj:j=i
   ·subst hj;rw[hi] at B;cases B;rw[aO hiσ] at Y;cases Y;exact⟨u,r,.inl ⟨hk,by simp⟩⟩
   ·rw[aM (Ne.symm hj)] at Y;obtain⟨u',r',q⟩:=hl j y v' B Y e3;refine⟨u',r',?_⟩;rcases q with⟨k,e⟩|⟨k,c,e,z⟩
    ·refine .inl ⟨k,?_⟩;have:y≠x:=λe=>hj (oo hN B (e▸hi));simp[this,e]
    ·exact .inr ⟨k,c,e,z.sameBut hs (cne y c e)⟩
  ·obtain⟨w',z⟩:=I.cell y c e;exact⟨w',z.sameBut hs (cne y c e)⟩
  ·obtain⟨e,n,ne,nf,d⟩:=I.pin p hp;exact⟨(hs.2 p.1 ne).trans e,n,ne,nf,d⟩
 ·have Z:X.fn x=true:=by
   rcases hf with z|z
   ·exact z
   ·rw[z] at hk;cases hk
  obtain⟨c,F⟩:=I.ok.has x (.inl hk);obtain⟨w',z⟩:=I.cell x c F;refine wpAny_storeName_cell I.ok.kind hk F z (λh' hc' hs=>?_);obtain⟨oc,hoc,hocd⟩:=id z;refine h {s with heap:=h'} ⟨I.ok,I.os,I.bare,⟨λb o e n hb J=>?_,λb o e n hb J=>?_,I.base.free,λb o e J=>?_,I.base.tups,I.base.frzs,I.base.tbls⟩,⟨m,hn.sameBut hs (Ne.symm (cne x c F)),λj y v' B Y e3=>?_⟩,λy c' e=>?_,I.free,I.freeC,λp hp=>?_,tracked ⟨oc,hoc,I.freeC x c F⟩ hs,by simpa using I.len⟩ ⟨c,hs,.inr F⟩
  ·exact(hs.2 b (au (az (am e) (I.ok.cab x c Z F)))).trans (I.base.keep b o e n hb J)
  ·obtain⟨sl,B⟩:=I.base.slot b o e n hb J;exact⟨sl,(hs.2 b (au (az (am e) (I.ok.cab x c Z F)))).trans B⟩
  ·obtain⟨o',B⟩:=I.base.there b o e J;exact⟨o',(hs.2 b (au (az (am e) (I.ok.cab x c Z F)))).trans B⟩
  ·by_cases hj:j=i
   ·subst hj;rw[hi] at B;cases B;rw[aO hiσ] at Y;cases Y;exact⟨u,r,.inr ⟨.inl hk,c,F,hc'⟩⟩
   ·rw[aM (Ne.symm hj)] at Y;obtain⟨u',r',q⟩:=hl j y v' B Y e3;refine⟨u',r',?_⟩;rcases q with q|⟨k,c',e,z'⟩
    ·exact .inl q
    ·refine .inr ⟨k,c',e,z'.sameBut hs ?_⟩;rintro rfl;exact hj (oo hN B (I.ok.inj _ _ _ e F▸hi))
  ·by_cases hcc:c'=c
   ·subst hcc;exact⟨_,hc'⟩
   ·obtain⟨w2,z2⟩:=I.cell y c' e;exact⟨w2,z2.sameBut hs hcc⟩
  ·obtain⟨e,n,ne,nf,d⟩:=I.pin p hp;refine⟨(hs.2 p.1 ?_).trans e,n,ne,nf,d⟩;intro q;rw[q,hoc] at e;have q':oc=p.2:=ai e;exact d w' (by rw[<-q'];exact hocd)
theorem j8{M:Model}{v:V}{Q:Unit->Shared->Prop}(I:Inv X pins σ H s)(F:X.N.Nodup)(hi:X.N[i]? =some x)(c:Loc X.env.scope x)(r:RelV v u)
  (h:∀s',Inv X pins (σ.set i (some v)) H s'->Q () s')(B:X.fn x=true∨X.env.scope.names.lookup x=some .local:=by first|exact .inl rfl|exact .inr rfl|assumption):wpAny M A (storeName X.env x u) Q E s:=
 iS I F hi c r (λs' J _=>h s' J) B
theorem Inv.call'{s':Shared}(I:Inv X pins σ H s)(ho:s'.os=s.os)(u:Un (tH X.stack) ch H H' s.heap s'.heap)(B:gX X.prog X.w H' s'.heap)(J:AllBare s'.gens)
  (F:∀b∈ch,(b∈X.ex∨X.s₀.heap.objs.size<=b)/\b≠X.env.locals/\(∀x c,X.env.cells.lookup x=some c->c≠b)/\∀p∈X.pn++pins,p.1≠b):Inv X pins σ H' s':=by
 obtain⟨h',g',d',t',o'⟩:=s';have e:o'=s.os:=ho;subst e;exact I.call (g':=g') (t':=t') (d':=d') u B J F
end
abbrev XK:=Value->Option Addr->Hp->Prop
noncomputable abbrev St:=List (Option V)
abbrev VK:=V->Hp->Prop
abbrev TE:=St->Hp->VK->Prop
abbrev TT:=St->Hp->(Bool->Hp->Prop)->Prop
abbrev TA:=St->Hp->(List V->Hp->Prop)->Prop
structure Ends where
 nx:St->Hp->Prop
 rt:VK
 bk:St->Hp->Prop:=λ_ _=>False
 ct:St->Hp->Prop:=λ_ _=>False
abbrev TS:=Ends->St->Hp->Prop
def EP(X:Cx)(pins:List (Addr×Obj))(σ:St)(Q:VK)(u:Value)(s':Shared):Prop:=∃v H',Inv X pins σ H' s'/\RelV v u/\Q v H'
def TP(X:Cx)(pins:List (Addr×Obj))(σ:St)(Q:Bool->Hp->Prop)(b:Bool)(s':Shared):Prop:=∃H',Inv X pins σ H' s'/\Q b H'
def AP(X:Cx)(pins:List (Addr×Obj))(σ:St)(Q:List V->Hp->Prop)(us:List Value)(s':Shared):Prop:=∃vs H',Inv X pins σ H' s'/\bn vs us/\Q vs H'
def SP(X:Cx)(pins:List (Addr×Obj))(D:Ends)(f:Flow)(s':Shared):Prop:=
 match f with
 | .next=>∃σ' H',Inv X pins σ' H' s'/\D.nx σ' H'
 | .brk=>∃σ' H',Inv X pins σ' H' s'/\D.bk σ' H'
 | .cont=>∃σ' H',Inv X pins σ' H' s'/\D.ct σ' H'
 | .ret u=>∃v σ' H',Inv X pins σ' H' s'/\RelV v u/\D.rt v H'
def PE(X:Cx)(e:Expr)(t:TE):Prop:=
 ∀(pins:List (Addr×Obj))(s:Shared)(σ:St)(H:Hp)(Q:VK),Inv X pins σ H s->t σ H Q->wpAny (model X.prog X.w) X.A (eval e X.env) (EP X pins σ Q) X.xe s
def PT(X:Cx)(e:Expr)(t:TT):Prop:=
 ∀(pins:List (Addr×Obj))(s:Shared)(σ:St)(H:Hp)(Q:Bool->Hp->Prop),Inv X pins σ H s->t σ H Q->wpAny (model X.prog X.w) X.A (isTrue e X.env (eval e X.env)) (TP X pins σ Q) X.xe s
def PW(X:Cx)(e:Expr)(t:TT):Prop:=
 ∀(whole:Sem Value)(pins:List (Addr×Obj))(s:Shared)(σ:St)(H:Hp)(Q:Bool->Hp->Prop),Inv X pins σ H s->t σ H Q->wpAny (model X.prog X.w) X.A (isTrue e X.env whole) (TP X pins σ Q) X.xe s
theorem PW.pt{X:Cx}{t:TT}(h:PW X e t):PT X e t:=h _
def PA(X:Cx)(es:List Expr)(t:TA):Prop:=
 ∀(pos:Pos)(pins:List (Addr×Obj))(s:Shared)(σ:St)(H:Hp)(Q:List V->Hp->Prop),Inv X pins σ H s->t σ H Q->wpAny (model X.prog X.w) X.A (spliced (backTo pos (starEach es X.env))) (AP X pins σ Q) X.xe s
def PS(X:Cx)(st:Stmt)(t:TS):Prop:=
 ∀(pins:List (Addr×Obj))(s:Shared)(σ:St)(H:Hp)(D:Ends),Inv X pins σ H s->t D σ H->wpAny (model X.prog X.w) X.A (exec st X.env) (SP X pins D) X.xe s
def PSs(X:Cx)(st:List Stmt)(t:TS):Prop:=
 ∀(pins:List (Addr×Obj))(s:Shared)(σ:St)(H:Hp)(D:Ends),Inv X pins σ H s->t D σ H->wpAny (model X.prog X.w) X.A (execs st X.env) (SP X pins D) X.xe s
theorem bW{α:Type}{t:Sem α}{Q c:α->Shared->Prop}{M:Model}(h:wpAny M A t Q E s)(B:∀a s,Q a s->c a s):wpAny M A t c E s:=aW h B λ_ _ x=>x
section
variable{X:Cx}
def D8(i:Nat):TE:=λσ H Q=>∃v,σ[i]? =some (some v)/\Q v H
def tC(v:V):TE:=λ_ H Q=>Q v H
theorem AJ(U:X.N[i]? =some x)(B:DY X.env.scope x)(hd:(x==("__debug__":Str))=false:=by decide)(hcd:(x==("__classdict__":Str))=false:=by decide):PE X (.Name x pos) (D8 i):=by
 intro pins s σ H Q I h;obtain⟨v,e,h⟩:=h;obtain⟨m,F,J⟩:=I.loc;obtain⟨u,r,l⟩:=J i x v U e B;have fin:EP X pins σ Q u s:=⟨v,H,I,r,h⟩;rcases l with⟨hk,hm⟩|⟨hk,c,hc,hcell⟩
 ·exact wpAny_Name (wpAny_loadName_local I.ok.kind hk F hm fin) hd
 ·rcases hk with hk|hk
  ·exact wpAny_Name (wpAny_loadName_cell I.ok.kind hk hc hcell fin) hd
  ·exact wpAny_Name (wpAny_loadName_free I.ok.kind hk hc hcell fin hcd) hd
theorem kj{i j pos}:PE X (.Constant (.int i) j pos) (tC (.int i)):=λ_ _ _ H _ I h=>wpAny_Constant_int ⟨.int i,H,I.tok _,⟨_,rfl⟩,h⟩
theorem CV{b j pos}:PE X (.Constant (.bool b) j pos) (tC (.bl b)):=λ_ _ _ H _ I h=>Constant_bool ⟨.bl b,H,I,rfl,h⟩
theorem AO{j pos}:PE X (.Constant .none j pos) (tC .non):=λ_ _ _ H _ I h=>Constant_none ⟨.non,H,I,rfl,h⟩
theorem vI{x j pos}:PE X (.Constant (.str x) j pos) (tC (.str x)):=λ_ _ _ H _ I h=>Calls.Constant_str ⟨.str x,H,I.tok _,⟨_,rfl⟩,h⟩
noncomputable def Gl(X:Cx)(x:Str):Prop:=X.env.kindOf x=some .globalImplicit
theorem m6{σ:St}{H:Hp}(I:Inv X pins σ H s)(B:Gl X x)(c:X.mg x=some u)(h:Q u s)
  (hd:(x==("__debug__":Str))=false:=by decide):wpAny (model X.prog X.w) X.A (eval (.Name x pos) X.env) Q E s:=
 Calls.Name_function_global I.ok.kind B (Calls.loadGlobal_global (by rw[I.ok.glob];exact I.mod.glob.keeps I.bk) c h) hd
theorem et{σ:St}{H:Hp}(I:Inv X pins σ H s)(J:Gl X x)(F:X.mg x=none)(c:bootBuiltins x=some u)(h:Q u s)
  (B:x≠ "__name__":=by decide) (hd:(x==("__debug__":Str))=false:=by decide):wpAny (model X.prog X.w) X.A (eval (.Name x pos) X.env) Q E s:=by
 obtain⟨Y,h1,U⟩:=I.mod.blt;exact Calls.Name_function_global I.ok.kind J (Calls.loadGlobal_builtin (by rw[I.ok.glob];exact I.mod.glob.keeps I.bk) F (by rw[I.ok.blt];exact h1.keeps I.bk) ((U x B).trans c) h) hd
theorem x3{v:V}(B:Gl X x)(c:X.mg x=some u)(r:RelV v u)(hd:(x==("__debug__":Str))=false:=by decide):PE X (.Name x pos) (tC v):=
 λ_ _ _ H _ I h=>m6 I B c ⟨v,H,I,r,h⟩ hd
theorem x8{v:V}(J:Gl X x)(F:X.mg x=none)(c:bootBuiltins x=some u)(r:RelV v u)(B:x≠ "__name__":=by decide)(hd:(x==("__debug__":Str))=false:=by decide):PE X (.Name x pos) (tC v):=
 λ_ _ _ H _ I h=>et I J F c ⟨v,H,I,r,h⟩ B hd
variable{a b:Expr}{ta tb:TE}{pos:Pos}
def tB(t:TE):TT:=λσ H Q=>t σ H λx H1=>∃c,x=.bl c/\Q c H1
theorem AA{t:TE}(h:PE X e t)(B:∀whole,isTrue e X.env whole=(do let v <-whole;standAt e.pos;holding [v] (truthy v)):=by intro _;rfl):PT X e (tB t):=by intro pins s σ H Q I c;refine isTrue_plain (bW (h pins s σ H _ I c) λv F ⟨x,H1,I1,r1,q1⟩=>?_) (B _);obtain⟨d,rfl,q⟩:=q1;cases r1;exact wpAny_truthy_bool ⟨H1,I1,q⟩
variable{tA tB':TT}{rest:List Expr}
def Em(t u:TT):TT:=λσ H Q=>t σ H λc H1=>if c=true then u σ H1 Q else Q false H1
def Fp(t u:TT):TT:=λσ H Q=>t σ H λc H1=>if c=true then Q true H1 else u σ H1 Q
def Ee(t:TT):TT:=λσ H Q=>t σ H λc H1=>Q (!c) H1
theorem xS(B:PT X a tA):PW X (.BoolOp .And [a] pos) tA:=by
 intro F pins s σ H Q I h;refine isTrue_and (bW (B pins s σ H Q I h) λc J e=>?_);cases c with
 |true=>exact isTrue_and_nil e
 |false=>exact e
theorem Ax(B:PT X a tA):PW X (.BoolOp .Or [a] pos) tA:=by
 intro F pins s σ H Q I h;refine isTrue_or (bW (B pins s σ H Q I h) λc J e=>?_);cases c with
 |false=>exact isTrue_or_nil e
 |true=>exact e
theorem Ay(U:PT X a tA)(J:PW X (.BoolOp .And (b::rest) pos) tB'):PW X (.BoolOp .And (a::b::rest) pos) (Em tA tB'):=by
 intro B pins s σ H Q I h;refine isTrue_and (bW (U pins s σ H _ I h) λc F ⟨H1,I1,q1⟩=>?_);cases c with
 |true=>exact J B pins F σ H1 Q I1 q1
 |false=>exact⟨H1,I1,q1⟩
theorem CP(U:PT X a tA)(J:PW X (.BoolOp .Or (b::rest) pos) tB'):PW X (.BoolOp .Or (a::b::rest) pos) (Fp tA tB'):=by
 intro B pins s σ H Q I h;refine isTrue_or (bW (U pins s σ H _ I h) λc F ⟨H1,I1,q1⟩=>?_);cases c with
 |true=>exact⟨H1,I1,q1⟩
 |false=>exact J B pins F σ H1 Q I1 q1
theorem AB(B:PT X a tA):PT X (.UnaryOp .Not a pos) (Ee tA):=by intro pins s σ H Q I h;exact isTrue_not (B pins s σ H (λc H1=>Q (!c) H1) I h)
def Ct(ta tb:TE):TE:=λσ H Q=>ta σ H λx H1=>∃c,x=.bl c/\if c=true then tb σ H1 Q else Q (.bl false) H1
def Ec(ta tb:TE):TE:=λσ H Q=>ta σ H λx H1=>∃c,x=.bl c/\if c=true then Q (.bl true) H1 else tb σ H1 Q
def Cm(ta:TE):TE:=λσ H Q=>ta σ H λx H1=>∃c,x=.bl c/\Q (.bl (!c)) H1
theorem AM{op}{t:TE}(h:PE X a t):PE X (.BoolOp op [a] pos) t:=λpins s σ H Q I c=>BoolOp_one (h pins s σ H Q I c)
theorem AT(Z:PE X a ta)(Y:PE X (.BoolOp .And (b::rest) pos) tb):PE X (.BoolOp .And (a::b::rest) pos) (Ct ta tb):=by
 intro pins s σ H Q I h;refine BoolOp_and (bW (Z pins s σ H _ I h) λv F U=>?_);obtain⟨x,H1,B,J,q1⟩:=U;obtain⟨c,rfl,q1⟩:=q1;cases J;refine wpAny_truthy_bool ?_;cases c with
 |true=>exact Y pins F σ H1 Q B q1
 |false=>exact⟨.bl false,H1,B,rfl,q1⟩
theorem CS(Z:PE X a ta)(Y:PE X (.BoolOp .Or (b::rest) pos) tb):PE X (.BoolOp .Or (a::b::rest) pos) (Ec ta tb):=by
 intro pins s σ H Q I h;refine BoolOp_or (bW (Z pins s σ H _ I h) λv F U=>?_);obtain⟨x,H1,B,J,q1⟩:=U;obtain⟨c,rfl,q1⟩:=q1;cases J;refine wpAny_truthy_bool ?_;cases c with
 |false=>exact Y pins F σ H1 Q B q1
 |true=>exact⟨.bl true,H1,B,rfl,q1⟩
theorem AN(J:PE X a ta):PE X (.UnaryOp .Not a pos) (Cm ta):=by intro pins s σ H Q I h;refine UnaryOp_ (bW (J pins s σ H _ I h) λv Y F=>?_);obtain⟨x,H1,U,B,q1⟩:=F;obtain⟨c,rfl,q1⟩:=q1;cases B;exact not_of (wpAny_truthy_bool ⟨.bl (!c),H1,U,rfl,q1⟩)
def Fq(t:TT)(ta tb:TE):TE:=λσ H Q=>t σ H λc H1=>if c=true then ta σ H1 Q else tb σ H1 Q
theorem vL(F:PT X c tA)(U:PE X a ta)(J:PE X b tb):PE X (.IfExp c a b pos) (Fq tA ta tb):=by
 intro pins s σ H Q I h;refine wpAny_IfExp (bW (F pins s σ H _ I h) λd B ⟨H1,I1,q1⟩=>?_);cases d with
 |true=>exact U pins B σ H1 Q I1 q1
 |false=>exact J pins B σ H1 Q I1 q1
end
def dD(K:aA)(H:Hp)(a:Addr)(xs:List V):Prop:=
 Rd H a (.lst xs)∨
  ∃(o:Obj)(its:Array Value)(n:Nat),K.lookup a=some o/\o.cls=.type "list" /\o.dict=none/\o.data=.seq its n/\its.size<=sizeLine/\bn xs its.toList
def fP(K:aA)(H:Hp)(a:Addr)(xs:List V):Prop:=
 Rd H a (.tup xs)∨
  ∃(o:Obj)(its:Array Value)(n:Nat),K.lookup a=some o/\(o.cls=.type "tuple" /\o.dict=none)/\o.data=.seq its n/\its.size<=sizeLine/\bn xs its.toList
noncomputable def EV:Value->Option V
 | .none=>some .non
 | .bool b=>some (.bl b)
 | .int i _=>some (.int i)
 | .str x _=>some (.str x)
 | .bytes b _=>some (.byt b)
 | .float b _=>some (.flt b)
 | .ref a=>some (.ref a)
 | .type n=>some (.ty n)
 |_=>none
theorem RelV.abs{x:V}(r:RelV x u):EV u=some x:=by
 cases x with
 |non=>cases r;rfl
 |bl _=>cases r;rfl
 |int _=>obtain⟨t,rfl⟩:=r;rfl
 |str _=>obtain⟨t,rfl⟩:=r;rfl
 |byt _=>obtain⟨t,rfl⟩:=r;rfl
 |flt _=>obtain⟨t,rfl⟩:=r;rfl
 |ref _=>cases r;rfl
 |ty _=>cases r;rfl
theorem RelV.inj{x y:V}(r:RelV x u)(q:RelV y u):x=y:=ai (r.abs.symm.trans q.abs)
theorem bn.inj:∀{xs ys:List V}{us:List Value},bn xs us->bn ys us->xs=ys
 |_,_,_,.nil,.nil=>rfl
 |_,_,_,.cons r t,.cons r' t'=>by rw[r.inj r',bn.inj t t']
section
variable{X:Cx}{pins:List (Addr×Obj)}{σ:St}{H:Hp}{s:Shared}{a:Addr}{xs ys:List V}
theorem dD.of{K:aA}(h:H a=some (.lst xs)):dD K H a xs:= .inl (.inl h)
theorem fP.of{K:aA}(h:H a=some (.tup xs)):fP K H a xs:= .inl (.inl h)
theorem Inv.list(I:Inv X pins σ H s)(h:dD X.K H a xs):∃its:List Value,bn xs its/\PlainL s.heap a its.toArray/\xs.length<=sizeLine:=by
 rcases h with h|⟨o,its,n,hk,hc,hd,hs,hz,r⟩
 ·obtain⟨z,its,n,r,e⟩:=h.ok I.hok;exact⟨its,r,⟨_,n,e,rfl,rfl,rfl⟩,z⟩
 ·refine⟨its.toList,r,⟨o,n,I.kIn a o hk,hc,hd,by simpa using hs⟩,?_⟩
  have e:=r.length;simp only[Array.length_toList] at e;omega
theorem Inv.tuple(I:Inv X pins σ H s)(h:fP X.K H a xs):∃its:List Value,bn xs its/\IsTup s.heap a its.toArray/\xs.length<=sizeLine:=by
 rcases h with h|⟨o,its,n,hk,hc,hs,hz,r⟩
 ·obtain⟨z,its,r,p⟩:=h.ok I.hok;exact⟨its,r,p.tup,z⟩
 ·refine⟨its.toList,r,⟨o,I.kIn a o hk,hc.1,n,by simpa using hs⟩,?_⟩
  have e:=r.length;simp only[Array.length_toList] at e;omega
theorem Inv.list_inj(I:Inv X pins σ H s)(h:dD X.K H a xs)(h':dD X.K H a ys):xs=ys:=by
 obtain⟨its,r,⟨o,n,e,_,_,d⟩,_⟩:=I.list h;obtain⟨its',c,⟨o',B,e',_,_,d'⟩,_⟩:=I.list h';rw[e] at e';cases e';rw[d] at d';injection d' with d1 _;have:its=its':=by simpa using congrArg Array.toList d1
 subst this;exact r.inj c
theorem Inv.tuple_inj(I:Inv X pins σ H s)(h:fP X.K H a xs)(h':fP X.K H a ys):xs=ys:=by
 obtain⟨its,r,⟨o,e,_,n,d⟩,_⟩:=I.tuple h;obtain⟨its',c,⟨o',e',_,B,d'⟩,_⟩:=I.tuple h';rw[e] at e';cases e';rw[d] at d';injection d' with d1 _;have:its=its':=by simpa using congrArg Array.toList d1
 subst this;exact r.inj c
end
section
end
section
variable{X:Cx}{st:Stmt}{rest:List Stmt}{t u:TS}{e:Expr}{te:TE}{pos:Pos}
def Cn:TS:=λD σ H=>D.nx σ H
def Ea(t u:TS):TS:=λD σ H=>t {D with nx:=u D} σ H
theorem xV:PSs X [] Cn:=λ_ _ σ H _ I h=>wpAny_execs_nil ⟨σ,H,I,h⟩
theorem vB(h1:PS X st t)(B:PSs X rest u):PSs X (st::rest) (Ea t u):=by
 intro pins s σ H D I h;refine wpAny_execs_cons (bW (h1 pins s σ H {D with nx:=u D} I h) λf c q=>?_);cases f with
 |next=>obtain⟨σ',H',F,q⟩:=q;exact B pins c σ' H' D F q
 |ret v=>exact q
 |brk=>exact q
 |cont=>exact q
def Cr:TS:=λD σ H=>D.ct σ H
theorem n9:PS X (.Continue pos) Cr:=λ_ _ σ H _ I h=>wpAny_Continue ⟨σ,H,I,h⟩
theorem Inv.quiet{σ:St}{H:Hp}(I:Inv X pins σ H s):interactive X.env=false:=by simp[interactive,I.ok.kind]
def Cp(te:TE):TS:=λD σ H=>te σ H λ_ H1=>D.nx σ H1
theorem jN(c:PE X e te)(hs:swapsWith e none pos.line X.env=pure false:=by rfl):PS X (.Expr e pos) (Cp te):=by intro pins s σ H D I h;exact wpAny_Expr_any (bW (c pins s σ H _ I h) λv B ⟨x,H1,I1,r1,q1⟩=>⟨σ,H1,I1,q1⟩) I.quiet hs
def Eb(te:TE):TS:=λD σ H=>te σ H D.rt
theorem AC(c:PE X e te):PS X (.Return (some e) pos) (Eb te):=by intro pins s σ H D I h;exact wpAny_Return_some (bW (c pins s σ H _ I h) λv B ⟨x,H1,I1,r1,q1⟩=>⟨x,σ,H1,I1,r1,q1⟩)
def Eg(c:TT)(t u:TS):TS:=λD σ H=>c σ H λb H1=>if b=true then t D σ H1 else u D σ H1
theorem CQ{a b:List Stmt}{B:TT}(J:PT X c B)(Y:PSs X a t)(U:PSs X b u):PS X (.If c a b pos) (Eg B t u):=by
 intro pins s σ H D I h;refine wpAny_If (bW (J pins s σ H _ I h) λd F ⟨H1,I1,q1⟩=>?_);cases d with
 |true=>exact Y pins F σ H1 D I1 q1
 |false=>exact U pins F σ H1 D I1 q1
end
abbrev TG:=V->St->Hp->(St->Hp->Prop)->Prop
abbrev xh:=List V->St->Hp->(St->Hp->Prop)->Prop
def PG(X:Cx)(target:Expr)(t:TG):Prop:=
 ∀(pins:List (Addr×Obj))(s:Shared)(σ:St)(H:Hp)(v:V)(u:Value)(Q:St->Hp->Prop),Inv X pins σ H s->RelV v u->t v σ H Q->
  wpAny (model X.prog X.w) X.A (assign target X.env u) (λ_ s'=>∃σ' H',Inv X pins σ' H' s'/\Q σ' H') X.xe s
def BX(X:Cx)(ts:List Expr)(t:xh):Prop:=
 ∀(pins:List (Addr×Obj))(s:Shared)(σ:St)(H:Hp)(vs:List V) (us:List Value)(Q:St->Hp->Prop),Inv X pins σ H s->bn vs us->t vs σ H Q->
  wpAny (model X.prog X.w) X.A (assignInOrder ((assignEach ts X.env).map (·.2)) us) (λ_ s'=>∃σ' H',Inv X pins σ' H' s'/\Q σ' H') X.xe s
abbrev BP:=V->V->V->Hp->(Hp->Prop)->Prop
def DL(X:Cx)(t:BP):Prop:=
 ∀(pins:List (Addr×Obj))(s:Shared)(σ:St)(H:Hp)(o i v:V)(ov iv u:Value)(Q:Hp->Prop),Inv X pins σ H s->RelV o ov->RelV i iv->RelV v u->t o i v H Q->
  wpAny (model X.prog X.w) X.A (setItem ov iv u) (λ_ s'=>∃H',Inv X pins σ H' s'/\Q H') X.xe s
section
variable{X:Cx}{pos:Pos}
def fe(i:Nat):TG:=λv σ H Q=>Q (σ.set i (some v)) H
theorem fo(F:X.N.Nodup)(hi:X.N[i]? =some x)(c:Loc X.env.scope x)(B:X.fn x=true∨X.env.scope.names.lookup x=some .local:=by first|exact .inl rfl|exact .inr rfl|assumption):PG X (.Name x pos) (fe i):=by intro pins s σ H v u Q I r h;exact wpAny_assign_Name (j8 I F hi c r (λs' J=>⟨_,H,J,h⟩) B)
def yC:xh:=λvs σ H Q=>vs=[]/\Q σ H
def l8(t:TG)(u:xh):xh:=λvs σ H Q=>∃v r,vs=v::r/\t v σ H λσ' H'=>u r σ' H' Q
theorem rJ:BX X [] yC:=by intro pins s σ H vs us Q I r h;obtain⟨e,h⟩:=h;subst e;cases r;exact assignInOrder_nil ⟨σ,H,I,h⟩
theorem kg{es:List Expr}{t:TG}{u:xh}(h1:PG X e t)(F:BX X es u)
  (hs:(assignEach (e::es) X.env).map (·.2)=assign e X.env::(assignEach es X.env).map (·.2):=by rfl):BX X (e::es) (l8 t u):=by
 intro pins s σ H vs us Q I r h;obtain⟨v,Y,J,h⟩:=h;subst J;cases r with
 |cons r rr=>rw[hs];refine assignInOrder_cons (bW (h1 pins s σ H _ _ _ I r h) λ_ c B=>?_);obtain⟨σ1,H1,U,q1⟩:=B;exact F pins c σ1 H1 _ _ Q U rr q1
def Bk(K:aA)(n:Nat)(t:xh):TG:=λv σ H Q=>∃a xs,v=.ref a/\fP K H a xs/\xs.length=n/\t xs σ H Q
theorem AH{es:List Expr}{k:Nat}{t:xh}(Z:X.calm=true)(h:BX X es t)
  (U:(assignEach es X.env).length=n:=by rfl)(hst:(assignEach es X.env).findIdx? (·.1)=none:=by rfl):PG X (.Tuple es k pos) (Bk X.K n t):=by
 intro pins s σ H v u Q I r c;obtain⟨a,xs,e1,J,Y,c⟩:=c;subst e1;cases r;obtain⟨its,rv,F,hz⟩:=I.tuple J;refine assign_Tuple_tuple (I.ok.hd Z) F (by simp[U,<-Y,rv.length]) hst λh' B=>?_
 have I1:Inv X pins σ H {s with heap:=h'}:=I.kept (t':=s.toks) λb o e=>B b o (au (am e)) e;exact h pins _ σ H xs _ Q I1 (by simpa using rv) c
def EK(to ti:TE)(t:BP):TG:=λv σ H Q=>to σ H λo H1=>ti σ H1 λi H2=>t o i v H2 λH3=>Q σ H3
theorem AI{o i:Expr}{to J:TE}{t:BP}(ho:PE X o to)(hi:PE X i J)(hs:DL X t)
  (ha:∀v,assign (.Subscript o i pos) X.env v=(do
   let c <-holding [v] (eval o X.env)
   let B <-holding [v,c] (eval i X.env)
   standAt pos
   holding [v,c,B] (setItem c B v)
   release [v,c,B] []):=by intro _;rfl):PG X (.Subscript o i pos) (EK to J t):=by
 intro pins s σ H v u Q I r h;rw[ha];refine aa (wpAny_holding (bW (ho pins s σ H _ I h) λc Y F=>?_));obtain⟨x,H1,I1,r1,q1⟩:=F;refine aa (wpAny_holding (bW (hi pins Y σ H1 _ I1 q1) λB U F=>?_));obtain⟨y,H2,I2,Z,q2⟩:=F;refine aa (wpAny_standAt (aa (wpAny_holding (bW (hs pins U σ H2 x y v c B u _ I2 r1 Z r q2) λ_ s3 F=>?_))));obtain⟨H3,I3,q3⟩:=F;exact wpAny_release ⟨σ,H3,I3,q3⟩
def pT(te:TE)(g:TG):TS:=λD σ H=>te σ H λx H1=>g x σ H1 D.nx
theorem AE{te:TE}{g:TG}(F:PE X e te)(B:PG X tg g)(hs:swapsWithSole [tg] e pos.line X.env=pure false:=by rfl)(hw:swappedStores [tg] e X.env=pure none:=by rfl)
  (h1:(assignEach [tg] X.env).map (·.2)=[assign tg X.env]:=by rfl):PS X (.Assign [tg] e pos) (pT te g):=by
 intro pins s σ H D I h;refine wpAny_Assign_stores (bW (F pins s σ H _ I h) λv c ⟨x,H1,I1,r1,q1⟩=>?_) hs hw;rw[h1];exact bW (B pins c σ H1 x v _ I1 r1 q1) λ_ J q=>q
theorem qe{te:TE}{pos':Pos}(F:X.N.Nodup)(hi:X.N[i]? =some x)(c:Loc X.env.scope x)(B:PE X e te)(hs:swapsWith e (some (.Name x pos')) pos.line X.env=pure false:=by rfl)(hf:X.fn x=true∨X.env.scope.names.lookup x=some .local:=by first|exact .inl rfl|exact .inr rfl|assumption):
  PS X (.Assign [.Name x pos'] e pos) (pT te (fe i)):=by
 intro pins s σ H D I h;refine wpAny_Assign_Name (bW (B pins s σ H _ I h) λv Y ⟨y,H1,I1,r1,q1⟩=>?_) hs;exact j8 I1 F hi c r1 (λU J=>⟨_,H1,J,q1⟩) hf
end
section
variable{X:Cx}{pos:Pos}
def zV(c:TT)(tb:TS):TS:=λD σ H=>∃W:Nat->St->Hp->Prop,(∃m,W m σ H)/\∀m σ H,W m σ H->
 c σ H λb H1=>if b=true then ∃N:St->Hp->Prop,(∀σ' H',N σ' H'->∃m',m'<m/\W m' σ' H')/\tb {D with nx:=N,ct:=N,bk:=D.nx} σ H1 else D.nx σ H1
theorem vC{body:List Stmt}{tc:TT}{tb:TS}(hp:PassesOwn (model X.prog X.w) X.A X.env X.xe)(hc:PT X c tc)(hb:PSs X body tb):PS X (.While c body [] pos) (zV tc tb):=by
 intro pins s σ H D I h;obtain⟨W,⟨m0,w0⟩,turn⟩:=h;refine wpAny_While (codeAny_whileLoop (λn s'=>∃σ' H',Inv X pins σ' H' s'/\W n σ' H') ?_ m0 ⟨σ,H,I,w0⟩);rintro n s1 ⟨σ1,H1,I1,w1⟩;refine wpAny_passesOwn hp (bW (hc pins s1 σ1 H1 _ I1 (turn n σ1 H1 w1)) λb s2 ⟨H2,I2,q2⟩=>?_);cases b with
 |true=>
  obtain⟨N,hN,q2⟩:=q2;rw[if_pos rfl];refine wpAny_passesOwn hp (bW (hb pins s2 σ1 H2 _ I2 q2) λf s3 F=>?_);cases f with
  |next=>obtain⟨σ3,B,Z,U⟩:=F;obtain⟨m',Y,J⟩:=hN σ3 B U;exact⟨m',Y,σ3,B,Z,J⟩
  |cont=>obtain⟨σ3,B,Z,U⟩:=F;obtain⟨m',Y,J⟩:=hN σ3 B U;exact⟨m',Y,σ3,B,Z,J⟩
  |brk=>exact F
  |ret v=>exact F
 |false=>rw[if_neg aH];exact wpAny_execs_nil ⟨σ1,H2,I2,q2⟩
end
structure It where
 go:Nat->Hp->Prop
 yld:Nat->Hp->V->Hp->Prop
 stop:Nat->Hp->Prop
def eZ(X:Cx)(pins:List (Addr×Obj))(H:Hp)(b:Addr):Prop:=
 H b=none/\b≠X.env.locals/\b∉X.fs/\(b∈X.ex∨X.s₀.heap.objs.size<=b)/\(∀x c,X.env.cells.lookup x=some c->c≠b)/\∀p∈X.pn++pins,p.1≠b
theorem Inv.fpOk{X:Cx}{σ:St}{H H':Hp}(I:Inv X pins σ H s)(B:s.heap.objs.size<=b)(J:H' b=none):eZ X pins H' b:=by
 refine⟨J,bp (az I.lt B),I.nofs B,.inr (aR I.sz B),λx c e z=>?_,λp F z=>?_⟩
 ·obtain⟨v,q⟩:=I.cell x c e;exact absurd (az q.lt (by rw[z];exact B)) (be _)
 ·exact absurd (az (am (I.pin p F).1) (by rw[z];exact B)) (be _)
structure Turn(P:Program)(w:World)(K:aA)(tg:Expr)(J:It)(fp:List Addr)(it:Addr)(tn:Nat->Heap->Prop):Prop where
 mem:it∈fp
 obj:∀i h,tn i h->∀b∈fp,∃o,h.get? b=some o/\∀v,o.data≠ .cell v
 keep:∀i h h',tn i h->(∀b∈fp,∀o,h.get? b=some o->h'.get? b=some o)->tn i h'
 item:∀(X:Cx),X.prog=P->X.w=w->X.K=K->X.calm=true->∀(i:Nat)(pins:List (Addr×Obj))(s:Shared)(σ:St)(H:Hp)(E:Value->Shared->Prop),Inv X pins σ H s->(∀b∈fp,eZ X pins H b)->tn i s.heap->J.go i H->
  wpAny (model P w) X.A (pyNext (.ref it)) (λr s1=>∃u,r=some u/\
   wpAny (model P w) X.A (letOwnedTupleGo tg (.ref it) u) (λ_ s2=>∃x H',Inv X pins σ H' s2/\RelV x u/\J.yld i H x H'/\tn (i+1) s2.heap/\∀b∈fp,H' b=none) E s1) E s
 done:∀(X:Cx),X.prog=P->X.w=w->X.K=K->X.calm=true->∀(i:Nat)(pins:List (Addr×Obj))(s:Shared)(σ:St)(H:Hp)(E:Value->Shared->Prop),Inv X pins σ H s->(∀b∈fp,eZ X pins H b)->tn i s.heap->J.stop i H->
  wpAny (model P w) X.A (pyNext (.ref it)) (λr s1=>r=none/\Inv X pins σ H s1) E s
 self:∀(A:Around)(i:Nat)(s:Shared)(Q:Value->Shared->Prop)(E:Value->Shared->Prop),tn i s.heap->Q (.ref it) s->wpAny (model P w) A (pyIter (.ref it)) Q E s
abbrev TI:=St->Hp->(It->Hp->Prop)->Prop
def Fi(X:Cx)(pins:List (Addr×Obj))(σ:St)(tg:Expr)(R:It->Hp->Prop)(itv:Value)(s2:Shared):Prop:=
 ∃(it:Addr)(fp:List Addr)(tn:Nat->Heap->Prop)(J:It)(H':Hp),itv=.ref it/\Inv X pins σ H' s2/\Turn X.prog X.w X.K tg J fp it tn/\tn 0 s2.heap/\(∀b∈fp,eZ X pins H' b)/\R J H'
def PI(X:Cx)(tg iter:Expr)(wi:TI):Prop:=
 ∀(pins:List (Addr×Obj))(s:Shared)(σ:St)(H:Hp)(R:It->Hp->Prop),Inv X pins σ H s->wi σ H R->
  wpAny (model X.prog X.w) X.A (eval iter X.env) (λv s1=>wpAny (model X.prog X.w) X.A (pyIter v) (Fi X pins σ tg R) X.xe s1) X.xe s
theorem o7{M:Model}{n:String}{vs:Array Value}{Q:Unit->Shared->Prop}(ho:s.heap.get? it=some o)(F:o.cls=.type n)(hd:o.data=.fields vs)
  (B:["enumerate","zip","dict_itemiterator","dict_reverseitemiterator","odict_iterator","itertools.zip_longest","itertools.pairwise"].contains n=false) (c:Q () s):wpAny M A (letOwnedTupleGo tg (.ref it) u) Q E s:=by
 unfold letOwnedTupleGo
 cases tg<;>first
  |exact ah c
  |(cases u<;>first
    |exact ah c
    |(refine aa (wpAny_load ho ?_)
      rw[F,hd];show wpAny M A (if(["enumerate","zip","dict_itemiterator","dict_reverseitemiterator","odict_iterator","itertools.zip_longest","itertools.pairwise"].contains n&&vs[0]? ==some (rawInt _))=true then _ else _) Q E s
      rw[if_neg (by intro h;rw[B,Bool.false_and] at h;cases h)]
      exact ah c))
noncomputable def D3(K:aA)(a:Addr):It:=
 ⟨λi H=>∃xs x,dD K H a xs/\xs[i]? =some x,λi H x H'=>H'=H/\∀xs,dD K H a xs->xs[i]? =some x,λi H=>∃xs,dD K H a xs/\xs.length<=i⟩
noncomputable def E8(K:aA)(a:Addr):It:=
 ⟨λi H=>∃xs x,fP K H a xs/\xs[i]? =some x,λi H x H'=>H'=H/\∀xs,fP K H a xs->xs[i]? =some x,λi H=>∃xs,fP K H a xs/\xs.length<=i⟩
noncomputable def D2(lo:Int)(n:Nat):It:=⟨λi _=>i<n,λi H x H'=>H'=H/\x=.int (lo+i),λi _=>n<=i⟩
theorem sE{K:aA}(a it:Addr):Turn P w K tg (D3 K a) [it] it (λi h=>h.IsListIter it a i) where
 mem:=by simp
 obj:=λi h st b B=>by
  have e:b=it:=by simpa using B
  subst e;obtain⟨o,e,c,d⟩:=st;exact⟨o,e,λv z=>by rw[d] at z;cases z⟩
 keep:=λi h h' st k=>st.at λo e=>k it (by simp) o e
 item:=by
  intro X hP Y hK hc i pins s σ H E I J st Z;subst hP Y hK;obtain⟨xs,x,F,U⟩:=Z;obtain⟨its,rv,p,hz⟩:=I.list F;obtain⟨u,hu,ru⟩:=rv.get U;obtain⟨f0,f1,f2,f3,f4,f5⟩:=J it (by simp)
  refine wpAny_pyNext_list_item st p.isList (x:=u) (by simpa using hu) λh' st' sb=>?_
  have I1:Inv X pins σ H {s with heap:=h'}:=I.turned (t':=s.toks) (λb o B e=>(sb.2 b B).trans e) f0 f1 f3 f4 f5;obtain⟨o,e,c,d⟩:=id st';exact⟨u,rfl,o7 (s:={s with heap:=h'}) e c d (by decide) ⟨x,H,I1,ru,⟨rfl,λys hy=>by rw[I.list_inj hy F];exact U⟩,st',λb B=>(J b B).1⟩⟩
 done:=by
  intro X hP Y hK hc i pins s σ H E I J st Z;subst hP Y hK;obtain⟨xs,F,U⟩:=Z;obtain⟨its,rv,p,hz⟩:=I.list F;obtain⟨f0,f1,f2,f3,f4,f5⟩:=J it (by simp)
  have hl:=rv.length;exact wpAny_pyNext_list_end (I.ok.hd hc) st p.isList (by simp;omega) λh' eb=>⟨rfl,I.turned (t':=s.toks) (λb o B e=>eb b o B e) f0 f1 f3 f4 f5⟩
 self:=λ_ _ _ _ _ st h=>wpAny_pyIter_listiter st h
theorem pQ{K:aA}(a it:Addr):Turn P w K tg (E8 K a) [it] it (λi h=>h.IsTupleIter it a i) where
 mem:=by simp
 obj:=λi h st b B=>by
  have e:b=it:=by simpa using B
  subst e;obtain⟨o,e,c,d⟩:=st;exact⟨o,e,λv z=>by rw[d] at z;cases z⟩
 keep:=λi h h' st k=>st.at λo e=>k it (by simp) o e
 item:=by
  intro X hP Y hK hc i pins s σ H E I J st Z;subst hP Y hK;obtain⟨xs,x,F,U⟩:=Z;obtain⟨its,rv,p,hz⟩:=I.tuple F;obtain⟨u,hu,ru⟩:=rv.get U;obtain⟨f0,f1,f2,f3,f4,f5⟩:=J it (by simp)
  refine wpAny_pyNext_tuple_item st (show s.heap.IsTuple a its.toArray from p) (x:=u) (by simpa using hu) λh' st' sb=>?_
  have I1:Inv X pins σ H {s with heap:=h'}:=I.turned (t':=s.toks) (λb o B e=>(sb.2 b B).trans e) f0 f1 f3 f4 f5;obtain⟨o,e,c,d⟩:=id st';exact⟨u,rfl,o7 (s:={s with heap:=h'}) e c d (by decide) ⟨x,H,I1,ru,⟨rfl,λys hy=>by rw[I.tuple_inj hy F];exact U⟩,st',λb B=>(J b B).1⟩⟩
 done:=by
  intro X hP Y hK hc i pins s σ H E I J st Z;subst hP Y hK;obtain⟨xs,F,U⟩:=Z;obtain⟨its,rv,p,hz⟩:=I.tuple F;obtain⟨f0,f1,f2,f3,f4,f5⟩:=J it (by simp)
  have hl:=rv.length;exact wpAny_pyNext_tuple_end (I.ok.hd hc) st (show s.heap.IsTuple a its.toArray from p) (by simp;omega) λh' eb=>⟨rfl,I.turned (t':=s.toks) (λb o B e=>eb b o B e) f0 f1 f3 f4 f5⟩
 self:=λ_ _ _ _ _ st h=>wpAny_pyIter_tupleiter st h
theorem pR{K:aA}(it:Addr)(lo:Int)(n:Nat):Turn P w K tg (D2 lo n) [it] it (λi h=>IsRangeIter h it (lo+(i:Nat)*1) ((n:Int) - (i:Nat)) 1) where
 mem:=by simp
 obj:=λi h st b c=>by
  have e:b=it:=by simpa using c
  subst e
  exact⟨_,st,λv z=>by have z':Data.fields _=Data.cell v:=z;cases z'⟩
 keep:=λi h h' st k=>k it (by simp) _ st
 item:=by
  intro X Y F Z U i pins s σ H E I B st J;subst Y F Z;obtain⟨f0,f1,f2,f3,f4,f5⟩:=B it (by simp)
  have W:=Walks.range (prog:=X.prog) (w:=X.w) (I.ok.hd U) it lo 1 n;refine W.item i s _ _ J st λv h' tk hv st' kk=>?_;obtain⟨t,rfl⟩:=hv;have I1:Inv X pins σ H {s with heap:=h',toks:=tk}:=I.turned (λb o c e=>kk b o (by simpa using c) e) f0 f1 f3 f4 f5
  refine⟨_,rfl,o7 (s:={s with heap:=h',toks:=tk}) (n:= "range_iterator") st' rfl rfl (by decide) ⟨.int (lo+i),H,I1,⟨t,?_⟩,⟨rfl,rfl⟩,st',λb c=>(B b c).1⟩⟩
  rw[Int.mul_one]
 done:=by
  intro X Y F Z U i pins s σ H E I B st J;subst Y F Z;obtain⟨f0,f1,f2,f3,f4,f5⟩:=B it (by simp)
  exact wpAny_pyNext_range_end (I.ok.hd U) st (by have:n<=i:=J;omega) λh' eb=>⟨rfl,I.turned (t':=s.toks) (λb o c e=>eb b o c e) f0 f1 f3 f4 f5⟩
 self:=λ_ _ _ _ _ st h=>wpAny_pyIter_rangeiter st h
section
variable{X:Cx}{tg:Expr}
theorem vw{σ:St}{H:Hp}{R:It->Hp->Prop}{lo hi:Int}{t u v:Tok}{tk:Nat}(I:Inv X pins σ H s)(h1: -(2^62)<=lo)(U:lo<2^62)(J: -(2^62)<=hi)(F:hi<2^62)
  (q:R (D2 lo (hi - lo).toNat) H):wpAny (model X.prog X.w) X.A (pyIter (.ref s.heap.objs.size)) (Fi X pins σ tg R) E {s with heap:=s.heap.push {cls:= .type "range",data:= .fields #[.int lo t,.int hi u,.int 1 v]},toks:=tk}:=by
 refine wpAny_pyIter_range (IsRange.new ..) (small_one h1 U J F) ?_;have c:Inv X pins σ H {s with heap:=s.heap.push {cls:= .type "range",data:= .fields #[.int lo t,.int hi u,.int 1 v]},toks:=tk}:=I.kept λb o e=>ae _ e
 refine⟨(s.heap.push {cls:= .type "range",data:= .fields #[.int lo t,.int hi u,.int 1 v]}).objs.size,[(s.heap.push {cls:= .type "range",data:= .fields #[.int lo t,.int hi u,.int 1 v]}).objs.size],_,_,H,rfl,
  c.kept (t':=tk) λb o e=>ae _ e,pR _ lo (hi - lo).toNat,?_,λb B=>?_,q⟩
 ·have Z:lo+((0:Nat):Int)*1=lo:=by simp
  have Y:(((hi - lo).toNat:Nat):Int) - ((0:Nat):Int)=Builtin.Range.rangeSize lo hi 1:=by rw[rangeSize_one];split<;>omega
  show IsRangeIter _ _ (lo+((0:Nat):Int)*1) ((((hi - lo).toNat:Nat):Int) - ((0:Nat):Int)) 1;rw[Z,Y];exact aq _ rfl
 ·have e:b=(s.heap.push {cls:= .type "range",data:= .fields #[.int lo t,.int hi u,.int 1 v]}).objs.size:=by simpa using B
  subst e;exact c.fpOk (ac _) (c.hok.fresh (ac _))
def zu(ta:TA):TI:=λσ H R=>ta σ H λvs H1=>∃j:Int,vs=[.int j]/\ -(2^62)<=j/\j<2^62/\R (D2 0 j.toNat) H1
theorem lO{a:Expr}{ta:TA}{p:Pos}(B:Gl X "range")(c:X.mg "range"=none)(F:PA X [a] ta)(hs:starEach [a] X.env=[(false,eval a X.env)]:=by rfl):PI X tg (.Call (.Name "range" p) [a] [] pos) (zu ta):=by
 intro pins s σ H R I h;refine Call_ (et I B c boot_range (aX (bW (F pos pins s σ H _ I h) λus J ⟨vs,H1,I1,r1,q1⟩=>?_) hs rfl));obtain⟨j,e,q1,q2,q⟩:=q1;subst e;cases r1 with
 |cons r rr=>
  cases rr;obtain⟨t,rfl⟩:=r;exact call_range_1 (vw I1 (by omega) (by omega) q1 q2 (by simpa using q))
def Eh(wi:TI)(g:TG)(tb:TS):TS:=λD σ H=>wi σ H λJ H1=>∃W:Nat->Nat->St->Hp->Prop,(∃m,W 0 m σ H1)/\∀i m σ H,W i m σ H->
 (J.stop i H/\D.nx σ H)∨(J.go i H/\∃N:St->Hp->Prop,(∀σ' H',N σ' H'->∃m',m'<m/\W (i+1) m' σ' H')/\∀x H',J.yld i H x H'->g x σ H' λσ2 H2=>tb {D with nx:=N,ct:=N,bk:=D.nx} σ2 H2)
noncomputable def iY(fp:List Addr)(h:Heap):List (Addr×Obj):=fp.filterMap λb=>(h.get? b).map λo=>(b,o)
theorem dv(c:b∈fp)(e:h.get? b=some o):(b,o)∈iY fp h:=List.mem_filterMap.mpr ⟨b,c,by rw[e];rfl⟩
theorem sU{p:Addr×Obj}(c:p∈iY fp h):p.1∈fp/\h.get? p.1=some p.2:=by
 obtain⟨b,B,e⟩:=List.mem_filterMap.mp c;cases q:h.get? b with
 |none=>rw[q] at e;cases e
 |some o=>rw[q] at e;have e':(b,o)=p:=ai e;subst e';exact⟨B,q⟩
theorem Inv.pinned{σ:St}{H:Hp}(I:Inv X pins σ H s)(F:∀b∈fp,eZ X pins H b)(ho:∀b∈fp,∃o,s.heap.get? b=some o/\∀v,o.data≠ .cell v):Inv X (pins++iY fp s.heap) σ H s:=
 I.pins_of λp B=>(List.mem_append.mp B).elim (λz=>I.pin p (aK _ z)) λz=>by obtain⟨c,e⟩:=sU z;obtain⟨Y,U,J,_⟩:=F p.1 c;obtain⟨o,e',d⟩:=ho p.1 c;rw[e] at e';cases e';exact⟨e,Y,U,J,d⟩
theorem Inv.unpinned{c:List (Addr×Obj)}{σ:St}{H:Hp}(I:Inv X (pins++c) σ H s):Inv X pins σ H s:=I.pins_of λp B=>I.pin p (aK _ (aS _ B))
theorem iX{iter:Expr}{body:List Stmt}{wi:TI}{g:TG}{tb:TS}(c:PassesOwn (model X.prog X.w) X.A X.env X.xe)(hc:X.calm=true)(hi:PI X tg iter wi)(hg:PG X tg g)(B:PSs X body tb)
  (hs:∀x,foldedSetIterable iter X.env x=pure x:=by intro _;rfl):PS X (.For tg iter body [] pos) (Eh wi g tb):=by
 intro pins s σ H D I h;refine wpAny_For (bW (hi pins s σ H _ I h) λv s1 h1=>bW h1 λitv s2 h2=>?_) hs;obtain⟨it,fp,tn,J,H2,e,I2,T,st2,f2,W,⟨m0,w0⟩,turn⟩:=h2;subst e;have stat:∀{H':Hp},(∀b∈fp,H' b=none)->∀b∈fp,eZ X pins H' b:=λhn b B=>⟨hn b B,(f2 b B).2⟩;refine codeAny_forLoop_any (λn s'=>∃i σ' H',Inv X pins σ' H' s'/\tn i s'.heap/\(∀b∈fp,H' b=none)/\W i n σ' H') ?_ m0 ⟨0,σ,H2,I2,st2,λb B=>(f2 b B).1,w0⟩;rintro n s3 ⟨i,σ3,H3,I3,st3,fr3,w3⟩;rcases turn i n σ3 H3 w3 with⟨stop,qn⟩|⟨go,N,hN,step⟩
 ·refine wpAny_passesOwn c (bW (T.done X rfl rfl rfl hc i pins s3 σ3 H3 X.xe I3 (stat fr3) st3 stop) λr s4 ⟨hr,I4⟩=>?_);subst hr;exact wpAny_execs_nil ⟨σ3,H3,I4,qn⟩
 ·refine wpAny_passesOwn c (bW (T.item X rfl rfl rfl hc i pins s3 σ3 H3 X.xe I3 (stat fr3) st3 go) λr s4 c=>?_);obtain⟨u,hr,h4⟩:=c;subst hr;refine wpAny_passesOwn c (bW h4 λ_ s5 c=>?_);obtain⟨x,H5,I5,r5,y5,Z,fr5⟩:=c;have I5':=I5.pinned (stat fr5) (T.obj _ _ Z);refine wpAny_passesOwn c (bW (hg _ s5 σ3 H5 x u _ I5' r5 (step x H5 y5)) λ_ s6 c=>?_);obtain⟨σ6,H6,I6,q6⟩:=c;refine wpAny_passesOwn c (bW (B _ s6 σ6 H6 _ I6 q6) λf s7 Y=>?_)
  have again:∀{σ7:St}{U:Hp},Inv X (pins++iY fp s5.heap) σ7 U s7->N σ7 U->∃m,m<n/\∃i σ' H',Inv X pins σ' H' s7/\tn i s7.heap/\(∀b∈fp,H' b=none)/\W i m σ' H':=λ{σ7 U} F n7=>by obtain⟨m',hm,w7⟩:=hN σ7 U n7;refine⟨m',hm,i+1,σ7,U,F.unpinned,T.keep _ _ _ Z λb B o e=>(F.pin (b,o) (aK _ (aK _ (dv B e)))).1,λb B=>?_,w7⟩;obtain⟨o,e,d⟩:=T.obj _ _ Z b B;exact(F.pin (b,o) (aK _ (aK _ (dv B e)))).2.1
  cases f with
  |next=>obtain⟨σ7,U,F,n7⟩:=Y;exact again F n7
  |cont=>obtain⟨σ7,U,F,n7⟩:=Y;exact again F n7
  |brk=>obtain⟨σ7,U,F,Y⟩:=Y;exact⟨σ7,U,F.unpinned,Y⟩
  |ret v=>obtain⟨x7,σ7,U,F,r7,Y⟩:=Y;exact⟨x7,σ7,U,F.unpinned,r7,Y⟩
end
abbrev R2:=V->V->Hp->VK->Prop
def nJ(X:Cx)(f:Value->Value->Sem Value)(r:R2):Prop:=
 ∀(pins:List (Addr×Obj))(s:Shared)(σ:St)(H:Hp)(x y:V)(v u:Value)(Q:VK),Inv X pins σ H s->RelV x v->RelV y u->r x y H Q->
  wpAny (model X.prog X.w) X.A (f v u) (EP X pins σ Q) X.xe s
def EW(X:Cx)(f:Value->Sem Value)(r:V->Hp->VK->Prop):Prop:=
 ∀(pins:List (Addr×Obj))(s:Shared)(σ:St)(H:Hp)(x:V)(v:Value)(Q:VK),Inv X pins σ H s->RelV x v->r x H Q->
  wpAny (model X.prog X.w) X.A (f v) (EP X pins σ Q) X.xe s
def fO(X:Cx)(f:Value)(r:List V->Hp->VK->Prop):Prop:=
 ∀(pins:List (Addr×Obj))(s:Shared)(σ:St)(H:Hp)(xs:List V) (us:List Value)(Q:VK),Inv X pins σ H s->bn xs us->r xs H Q->
  wpAny (model X.prog X.w) X.A (call f us) (EP X pins σ Q) X.xe s
def Ck(r:R2)(ta tb:TE):TE:=λσ H Q=>ta σ H λx H1=>tb σ H1 λy H2=>r x y H2 Q
def Fm(r:V->Hp->VK->Prop)(ta:TE):TE:=λσ H Q=>ta σ H λx H1=>r x H1 Q
def rI(C:Int->Int->Prop)(g:Int->Int->V):R2:=λx y H Q=>∃i j,x=.int i/\y=.int j/\C i j/\Q (g i j) H
def Au(g:Int->Int->V):R2:=λx y H Q=>∃i j,x=.int i/\y=.int j/\Q (g i j) H
def rU(g:Int->V):V->Hp->VK->Prop:=λx H Q=>∃i,x=.int i/\Q (g i) H
section
variable{X:Cx}{a b:Expr}{ta tb:TE}{pos:Pos}
theorem BK(ha:PE X a ta)(hb:PE X b tb){σ:St}{H:Hp}{R:V->V->Hp->Prop}(I:Inv X pins σ H s)
  (h:ta σ H λx H1=>tb σ H1 λy c=>R x y c)
  (Z:∀v u B x y c,Inv X pins σ c B->RelV x v->RelV y u->R x y c->wpAny (model X.prog X.w) X.A (f v u) Q X.xe B):
  wpAny (model X.prog X.w) X.A (eval a X.env) (λv s₁=>wpAny (model X.prog X.w) X.A (eval b X.env) (λu s₂=>wpAny (model X.prog X.w) X.A (f v u) Q X.xe s₂) X.xe s₁) X.xe s:=by
 refine bW (ha pins s σ H _ I h) λv J F=>?_;obtain⟨x,H1,I1,Y,q1⟩:=F;refine bW (hb pins J σ H1 _ I1 q1) λu B F=>?_;obtain⟨y,c,I2,U,q2⟩:=F;exact Z v u B x y c I2 Y U q2
theorem CT{op:Operator}{r:R2}(ho:nJ X (binaryOp op) r)(U:PE X a ta)(J:PE X b tb):PE X (.BinOp a op b pos) (Ck r ta tb):=by intro pins s σ H Q I h;exact wpAny_BinOp (BK U J I h λv u c x y Z Y F B q=>ho pins c σ Z x y v u Q Y F B q)
theorem ze{op:UnaryOp}{r:V->Hp->VK->Prop}(ho:EW X (unaryOp op) r)(B:PE X a ta):PE X (.UnaryOp op a pos) (Fm r ta):=by intro pins s σ H Q I h;exact UnaryOp_ (bW (B pins s σ H _ I h) λv c ⟨x,H1,I1,r1,q1⟩=>ho pins c σ H1 x v Q I1 r1 q1)
theorem DT{C:Int->Int->Prop}{g:Int->Int->Int}
  (rule:∀(i j:Int)(t u:Tok)(s:Shared)(Q:Value->Shared->Prop)(E:Value->Shared->Prop),C i j->Q (.int (g i j) s.toks) {s with toks:=s.toks+1}->wpAny (model X.prog X.w) X.A (f (.int i t) (.int j u)) Q E s):
  nJ X f (rI C λi j=>.int (g i j)):=by
 intro pins s σ H x y v u Q I B c h;obtain⟨i,j,rfl,rfl,F,q⟩:=h;obtain⟨t,rfl⟩:=B;obtain⟨t',rfl⟩:=c;exact rule i j t t' s _ _ F ⟨.int (g i j),H,I.tok _,⟨_,rfl⟩,q⟩
theorem C2{g:Int->Int->Int}
  (rule:∀(i j:Int)(t u:Tok)(s:Shared)(Q:Value->Shared->Prop)(E:Value->Shared->Prop),Q (.int (g i j) s.toks) {s with toks:=s.toks+1}->wpAny (model X.prog X.w) X.A (f (.int i t) (.int j u)) Q E s):
  nJ X f (Au λi j=>.int (g i j)):=by
 intro pins s σ H x y v u Q I B c h;obtain⟨i,j,rfl,rfl,q⟩:=h;obtain⟨t,rfl⟩:=B;obtain⟨t',rfl⟩:=c;exact rule i j t t' s _ _ ⟨.int (g i j),H,I.tok _,⟨_,rfl⟩,q⟩
theorem A3{g:Int->Int->Bool}
  (rule:∀(i j:Int)(t u:Tok)(s:Shared)(Q:Value->Shared->Prop)(E:Value->Shared->Prop),Q (.bool (g i j)) s->wpAny (model X.prog X.w) X.A (f (.int i t) (.int j u)) Q E s):
  nJ X f (Au λi j=>.bl (g i j)):=by
 intro pins s σ H x y v u Q I B c h;obtain⟨i,j,rfl,rfl,q⟩:=h;obtain⟨t,rfl⟩:=B;obtain⟨t',rfl⟩:=c;exact rule i j t t' s _ _ ⟨.bl (g i j),H,I,rfl,q⟩
noncomputable def Fb(i j:Int):Prop:=0<=j/\j<=1000000/\i.natAbs<2^64
noncomputable def BS(i j:Int):Prop:=(-(2^64)<i/\i<2^64)∨(-(2^64)<j/\j<2^64)
theorem BS.ok{i j:Int}(h:BS i j):IntMulOk i j:=by
 rcases h with⟨h1,h2⟩|⟨h1,h2⟩
 ·exact .of_left (intBits_le_64 h1 h2)
 ·exact .of_right (intBits_le_64 h1 h2)
theorem A2:nJ X (binaryOp .Add) (Au λi j=>.int (i+j)):=C2 λ_ _ _ _ _ _ _ q=>add_int q
theorem AV:nJ X (binaryOp .Sub) (Au λi j=>.int (i - j)):=C2 λ_ _ _ _ _ _ _ q=>sub_int q
theorem yc:nJ X (binaryOp .Mod) (rI (λ_ j=>j≠0) λi j=>.int (i.fmod j)):=DT λ_ _ _ _ _ _ _ c q=>mod_int' c q
theorem AW:nJ X (binaryOp .Pow) (rI Fb λi j=>.int (i^j.toNat)):=DT λ_ _ _ _ _ _ _ c q=>pow_int_small c.1 c.2.1 c.2.2 q
theorem Fk{f:Value->Sem Value}{g:Int->Int}
  (rule:∀(i:Int)(t:Tok)(s:Shared)(Q:Value->Shared->Prop)(E:Value->Shared->Prop),Q (.int (g i) s.toks) {s with toks:=s.toks+1}->wpAny (model X.prog X.w) X.A (f (.int i t)) Q E s):
  EW X f (rU λi=>.int (g i)):=by
 intro pins s σ H x v Q I c h;obtain⟨i,rfl,q⟩:=h;obtain⟨t,rfl⟩:=c;exact rule i t s _ _ ⟨.int (g i),H,I.tok _,⟨_,rfl⟩,q⟩
theorem uz:EW X (unaryOp .USub) (rU λi=>.int (-i)):=Fk λ_ _ _ _ _ q=>neg_int q
end
section
variable{X:Cx}{a b c:Expr}{ta tb:TE}{pos:Pos}
theorem CW:nJ X (compareOp .Lt) (Au λi j=>.bl (decide (i<j))):=A3 λ_ _ _ _ _ _ _ q=>lt_int q
theorem CY:nJ X (compareOp .LtE) (Au λi j=>.bl (decide (i<=j))):=A3 λ_ _ _ _ _ _ _ q=>le_int q
theorem CZ:nJ X (compareOp .Gt) (Au λi j=>.bl (decide (j<i))):=A3 λ_ _ _ _ _ _ _ q=>gt_int q
theorem x5{op:CmpOp}{r:R2}(ho:nJ X (compareOp op) r)(Y:PE X a ta)(U:PE X b tb)(J:behindInMarks op b=false):PE X (.Compare a [op] [b] pos) (Ck r ta tb):=by intro pins s σ H Q I h;exact wpAny_Compare1 (BK Y U I h λv u c x y H2 Z F B q=>ho pins c σ H2 x y v u Q Z F B q) J
def y4(t:TE):TT:=λσ H Q=>t σ H λx H'=>∃k,x=.bl k/\Q k H'
theorem xU{op:CmpOp}{r:R2}(ho:nJ X (compareOp op) r)(Y:PE X a ta)(U:PE X b tb)(J:behindInMarks op b=false):PT X (.Compare a [op] [b] pos) (y4 (Ck r ta tb)):=by
 intro pins s σ H Q I h
 refine wpAny_isTrue_Compare1 (bW (Y pins s σ H _ I h) λv F ⟨x,H1,I1,r1,q1⟩=>bW (U pins F σ H1 _ I1 q1) λu B ⟨y,H2,I2,r2,q2⟩=>
  bW (ho pins B σ H2 x y v u _ I2 r1 r2 q2) λc Z ⟨z,H3,I3,r3,k,e,q3⟩=>?_) J
 subst e;cases r3;exact wpAny_truthy_bool ⟨H3,I3,q3⟩
theorem m4:(sizeLine:Nat)<2^63:=by rw[sizeLine_eq];decide
theorem vals1{x:V}(r:bn [x] us):∃u,us=[u]/\RelV x u:=by
 cases r with
 |cons r1 r2=>cases r2;exact⟨_,rfl,r1⟩
theorem vals2{x y:V}(r:bn [x,y] us):∃u c,us=[u,c]/\RelV x u/\RelV y c:=by
 cases r with
 |cons r1 r2=>
  cases r2 with
  |cons r3 r4=>cases r4;exact⟨_,_,rfl,r1,r3⟩
theorem tR(c:X.calm=true):fO X (.builtin "max") (λxs H Q=>∃i j,xs=[.int i,.int j]/\Q (.int (if j>i then j else i)) H):=by
 intro pins s σ H xs us Q I r h;obtain⟨i,j,rfl,q⟩:=h;obtain⟨u,B,rfl,⟨t,rfl⟩,⟨t',rfl⟩⟩:=vals2 r;refine max_two_ints (I.ok.hd c) λh' tk k=>⟨_,H,I.kept k,?_,q⟩;by_cases hj:j>i
 ·rw[if_pos hj,if_pos hj];exact⟨_,rfl⟩
 ·rw[if_neg hj,if_neg hj];exact⟨_,rfl⟩
theorem tU:fO X (.type "int") (λxs H Q=>(∃i,xs=[.int i]/\Q (.int i) H)∨∃k,xs=[.bl k]/\Q (.int (if k then 1 else 0)) H):=by
 intro pins s σ H xs us Q I r h;rcases h with⟨i,rfl,q⟩|⟨k,rfl,q⟩
 ·obtain⟨u,rfl,t,rfl⟩:=vals1 r;exact call_int_int ⟨.int i,H,I,⟨_,rfl⟩,q⟩
 ·obtain⟨u,rfl,c⟩:=vals1 r;cases c;exact call_int_bool ⟨.int (if k then 1 else 0),H,I.tok _,⟨_,rfl⟩,q⟩
end
structure ObjM(h:Heap)(x dx C:Addr)(mA:Str->Option Value):Prop where
 obj:h.get? x=some (PySem.W.instObj C dx)
 ns:h.Ns1 dx mA
 ne:dx≠x
theorem sZ(n:h.Ns1 dx mA):∃B,h.get? dx=some B/\∀name,PySem.W.lookIn name B=some (mA name):=by
 obtain⟨o,es,ep,ho,hd,hk,_,I⟩:=n;refine⟨o,ho,λname=>?_⟩;have e:=I name;unfold nsFind findBy at e;rw[<-Array.find?_toList] at e;unfold PySem.W.lookIn;rw[hd];dsimp only;split
 ·rename_i y q;rw[q] at e;exact congrArg some e
 ·rename_i q;rw[q] at e
  have a:es.toList.any (·.refKey)=false:=by rw[List.any_eq_false];intro y F;obtain⟨z,t,c⟩:=hk y (Array.mem_toList_iff.mp F);simp[DictEntry.refKey,c]
  have a':¬es.toList.any (·.refKey)=true:=by rw[a];exact aH
  rw[if_neg a'];exact congrArg some e
theorem ObjM.look{x:Addr}(I:ObjM h x dx C mA):∃c,PySem.W.InstAt h x (PySem.W.instObj C dx) C (some c)/\∀name,PySem.W.lookIn name c=some (mA name):=
 let⟨c,ho,hl⟩:=sZ I.ns
 ⟨c,⟨I.obj,rfl,rfl,ho⟩,hl⟩
section
variable{prog:Program}{w:World}{A:Around}{E:Value->Shared->Prop}{s:Shared}{K:aA}{x dx C f:Addr}{mA:Str->Option Value}{name:Str}{v:Value}
theorem yB{expr:Bool}(X:K.In s.heap)(I:ObjM s.heap x dx C mA)(Y:PySem.W.plainGet K C name=true)(U:PySem.W.hasDictIn K C=true)
  (Z:PySem.W.findIn K (.ref C) name=some none)(B:mA name=some v)(c:PySem.W.handedIn v=true)(h:Q v {s with toks:=s.toks+1}):
  wpAny (model prog w) A (getAttr (.ref x) name expr) Q E s:=by
 obtain⟨od,J,F⟩:=I.look;exact PySem.W.get_value X J (PySem.W.plainGet_of Y).1 (PySem.W.findObj_own U Z rfl (by rw[F,B])) c h
theorem wz{B:Sem Bool}{Q:Value×List Value->Shared->Prop}(X:K.In s.heap)(I:ObjM s.heap x dx C mA)(c:PySem.W.plainGet K C name=true)
  (hf:PySem.W.findIn K (.ref C) name=some (some (.ref f)))(Y:PySem.W.isFn K (.ref f)=true)(U:mA name=none)(h:Q (.ref f,[.ref x]) s):
  wpAny (model prog w) A (getMethod (.ref x) name B) Q E s:=by
 obtain⟨F,J,Z⟩:=I.look;exact PySem.W.method_fn X J (PySem.W.plainGet_of c).1 (PySem.W.plainGet_of c).2 hf (beq_iff_eq.mp Y) (by show(PySem.W.lookIn name F).map (·.isSome)=some false;rw[Z,U];rfl) h
theorem xE{ns:List Str}{Q:Unit->Shared->Prop}(X:K.In s.heap)(I:ObjM s.heap x dx C mA)
  (hs:PySem.W.findIn K (.ref C) "__setattr__"=some (some (.builtin "object.__setattr__"))) (hp:PySem.W.plainOver K C=true)(ht:PySem.W.takerIn K C name=some none)(hh:PySem.W.hasDictIn K C=true)
  (hw:PySem.Within mA ns)(hsz:ns.length<=sizeLine)
  (h:∀h',ObjM h' x dx C (λy=>if y=name then some v else mA y)->Heap.SameBut dx s.heap h'->Q () {s with heap:=h',toks:=s.toks+2}):
  wpAny (model prog w) A (setAttr (.ref x) name v) Q E s:=by
 obtain⟨od,J,hl⟩:=I.look;refine PySem.W.set_plain X J hs (PySem.W.osa_open (s:={s with toks:=s.toks+1}) (r:=none) X J hp ht λb=>?_);obtain⟨cd,hc,Y⟩:=PySem.W.any_some hh;have hx:s.heap.get? x=some ⟨.ref C,some dx,.plain,#[]⟩:=I.obj;refine aa (ah (aa (aa (wpAny_loadPart hx (aa (PySem.W.Looks.here (s:={s with toks:=s.toks+1}) (PySem.W.looks_clsIn X hc) ?_))))));rw[Y];refine ah (a:=some dx) (aa (ah (aa ?_)));refine wpAny_nsSet1 (s:={s with toks:=s.toks+1}) I.ns λh' B c=>?_;obtain⟨oD,esD,epD,F,U,Z⟩:=B.count (PySem.Within.cons name v hw);refine aa (wpAny_lookBehind F (by rw[U];exact pastItsLine_dict (aR Z (by rw[List.length_cons];omega))) ?_)
 exact ah (h _ ⟨(c.2 _ (Ne.symm I.ne)).trans I.obj,B,I.ne⟩ c)
theorem v5{R:Result->Shared->Prop}{vs:List Value}(X:K.In s.heap)(c:PySem.W.makesIn K C=true)
  (hi:PySem.W.findIn K (.ref C) "__init__"=some (some (.ref f))) (B:PySem.W.typeIn K (.ref f)=some (.type "function"))
  (h:codeAny (model prog w) (A.under (.builtin "type.__call__" ⟨.ref C::vs,kw⟩)) (.call (.ref f) ⟨.ref (s.heap.objs.size+1)::vs,kw⟩) (PySem.W.InitBack (s.heap.objs.size+1) R)
   {s with heap:=(s.heap.push PySem.W.emptyDict).push (PySem.W.instObj C s.heap.objs.size)}):
  codeAny (model prog w) A (.call (.ref C) ⟨vs,kw⟩) R s:=by
 obtain⟨F,g,d,t,os⟩:=s;exact PySem.W.make_core (PySem.W.makes_of X c) (PySem.W.looks_findIn X hi) (λself=>PySem.W.bind_fn X self B) (.inl rfl) h
end
noncomputable def eh(f:Str)(v:V):List (Str×V)->List (Str×V)
 |[]=>[(f,v)]
 |(g,x)::r=>if g=f then(g,v)::r else(g,x)::eh f v r
theorem jo(f g:Str)(v:V):∀fs:List (Str×V),(eh f v fs).lookup g=if g=f then some v else fs.lookup g
 |[]=>by
  show List.lookup g [(f,v)]=_;by_cases h:g=f
  ·have c:(g==f)=true:=beq_iff_eq.mpr h;simp only[List.lookup,c,if_pos h]
  ·have c:(g==f)=false:=beq_eq_false_iff_ne.mpr h;simp only[List.lookup,c,if_neg h]
 |(k,x)::r=>by
  have B:=jo f g v r;rw[show eh f v ((k,x)::r)=(if k=f then(k,v)::r else(k,x)::eh f v r) from rfl]
  by_cases hk:k=f
  ·rw[if_pos hk];by_cases h:g=k
   ·have c:(g==k)=true:=beq_iff_eq.mpr h;simp only[List.lookup,c,if_pos (h.trans hk)]
   ·have c:(g==k)=false:=beq_eq_false_iff_ne.mpr h;simp only[List.lookup,c,if_neg (λe:g=f=>h (e.trans hk.symm))]
  ·rw[if_neg hk];by_cases h:g=k
   ·have c:(g==k)=true:=beq_iff_eq.mpr h;simp only[List.lookup,c,if_neg (λe:g=f=>hk (h.symm.trans e))]
   ·have c:(g==k)=false:=beq_eq_false_iff_ne.mpr h;simp only[List.lookup,c];exact B
theorem i7(f:Str)(v:V):∀fs:List (Str×V),f∈(eh f v fs).map (·.1)/\∀g,g∈fs.map (·.1)->g∈(eh f v fs).map (·.1)
 |[]=>⟨by simp[eh],λg h=>by simp at h⟩
 |(k,x)::r=>by
  obtain⟨i1,i2⟩:=i7 f v r;rw[show eh f v ((k,x)::r)=(if k=f then(k,v)::r else(k,x)::eh f v r) from rfl]
  by_cases hk:k=f
  ·rw[if_pos hk];subst hk;exact⟨by simp,λg h=>by simpa using h⟩
  ·rw[if_neg hk];refine⟨?_,λg h=>?_⟩
   ·rw[List.map_cons];exact List.mem_cons_of_mem _ i1
   ·rw[List.map_cons] at h ⊢;rcases List.mem_cons.mp h with e|e
    ·exact List.mem_cons.mpr (.inl e)
    ·exact List.mem_cons_of_mem _ (i2 g e)
theorem f_(f:Str)(v:V):∀fs:List (Str×V),(eh f v fs).length<=fs.length+1
 |[]=>by simp[eh]
 |(k,x)::r=>by
  have c:=f_ f v r;rw[show eh f v ((k,x)::r)=(if k=f then(k,v)::r else(k,x)::eh f v r) from rfl]
  by_cases hk:k=f
  ·rw[if_pos hk,List.length_cons,List.length_cons];omega
  ·rw[if_neg hk,List.length_cons,List.length_cons];omega
theorem fQ.some_of{v:V}{o:Option Value}(r:fQ (some v) o):∃u,o=some u/\RelV v u:=by
 cases o with
 |none=>exact(show False from r).elim
 |some u=>exact⟨u,rfl,r⟩
theorem fQ.none_of{o:Option Value}(r:fQ none o):o=none:=by
 cases o with
 |none=>rfl
 |some u=>exact(show False from r).elim
theorem tG{v:V}(r:RelV v u):PySem.W.handedIn u=true:=by
 cases v with
 |non=>cases(show u=Value.none from r);rfl
 |bl b=>cases(show u=Value.bool b from r);rfl
 |int i=>obtain⟨t,e⟩:=(show ∃t,u=Value.int i t from r);cases e;rfl
 |str x=>obtain⟨t,e⟩:=(show ∃t,u=Value.str x t from r);cases e;rfl
 |byt b=>obtain⟨t,e⟩:=(show ∃t,u=Value.bytes b t from r);cases e;rfl
 |flt b=>obtain⟨t,e⟩:=(show ∃t,u=Value.float b t from r);cases e;rfl
 |ref a=>cases(show u=Value.ref a from r);rfl
 |ty n=>cases(show u=Value.type n from r);rfl
section
variable{P:Program}{w:World}{H:Hp}{h:Heap}{a C dx:Addr}{fs:List (Str×V)}
theorem m8(c:gX P w H h)(e:H a=some (.ins C dx fs)):∃mA,ObjM h a dx C mA/\(∀f,fQ (fs.lookup f) (mA f))/\PySem.Within mA (fs.map (·.1))/\fs.length<=1000/\H dx=some (.own a):=by obtain⟨d,z,ne,B,mA,n,r,q⟩:=(show cj P w H h a (.ins C dx fs) from c a _ e);exact⟨mA,⟨B,n,ne⟩,r,q,z,d⟩
end
structure Cls(K:aA)(C:Addr):Prop where
 pg:PySem.W.plainGet K C Str.empty=true
 hd:PySem.W.hasDictIn K C=true
 po:PySem.W.plainOver K C=true
 sa:PySem.W.findIn K (.ref C) "__setattr__"=some (some (.builtin "object.__setattr__"))
theorem Cls.get{K:aA}(c:Cls K C)(f:Str):PySem.W.plainGet K C f=true:=c.pg
def fJ(K:aA)(C:Addr)(f:Str):Prop:=PySem.W.findIn K (.ref C) f=some none
theorem fJ.taker{K:aA}{f:Str}(n:fJ K C f):PySem.W.takerIn K C f=some none:=by unfold PySem.W.takerIn;rw[show PySem.W.findIn K (.ref C) f=some none from n];rfl
structure Meth(K:aA)(C:Addr)(m:Str)(f:Addr):Prop where
 at_:PySem.W.findIn K (.ref C) m=some (some (.ref f))
 fn:PySem.W.isFn K (.ref f)=true
 kp:PySem.W.keepIn K (.ref f)=true
section
variable{X:Cx}{pins:List (Addr×Obj)}{σ:St}{H:Hp}{s:Shared}{a C dx:Addr}{fs:List (Str×V)}{f:Str}{v:V}{A:Around}{E:Value->Shared->Prop}
theorem qw{b:Bool}(I:Inv X pins σ H s)(e:H a=some (.ins C dx fs))(c:Cls X.K C)(n:fJ X.K C f)(l:fs.lookup f=some v)
  (h:∀u s',Inv X pins σ H s'->RelV v u->Q u s'):wpAny (model X.prog X.w) A (getAttr (.ref a) f b) Q E s:=by
 obtain⟨mA,O,r,_,_,_⟩:=m8 I.hok e;obtain⟨u,F,B⟩:=fQ.some_of (v:=v) (o:=mA f) (by rw[<-l];exact r f)
 exact yB I.kIn O (c.get f) c.hd n F (tG B) (h u _ (I.tok _) B)
theorem kF{m:Str}{g:Addr}{B:Sem Bool}{Q:Value×List Value->Shared->Prop}(I:Inv X pins σ H s)(e:H a=some (.ins C dx fs))(c:Cls X.K C)(k:Meth X.K C m g)(l:fs.lookup m=none)
  (h:Q (.ref g,[.ref a]) s):wpAny (model X.prog X.w) A (getMethod (.ref a) m B) Q E s:=by
 obtain⟨mA,O,r,_,_,_⟩:=m8 I.hok e;have F:mA m=none:=fQ.none_of (by rw[<-l];exact r m)
 exact wz I.kIn O (c.get m) k.at_ k.fn F h
theorem pW{y:V}{Q:Unit->Shared->Prop}(I:Inv X pins σ H s)(e:H a=some (.ins C dx fs))(c:Cls X.K C)(n:fJ X.K C f)(hl:fs.length<1000)(U:RelV y u)
  (h:∀s',Inv X pins σ (upd H a (.ins C dx (eh f y fs))) s'->Q () s'):wpAny (model X.prog X.w) A (setAttr (.ref a) f u) Q E s:=by
 obtain⟨mA,O,r,F,_,ho⟩:=m8 I.hok e;have Y:(fs.map (·.1)).length<=sizeLine:=by rw[List.length_map,sizeLine_eq];omega
 refine xE I.kIn O c.sa c.po n.taker c.hd F Y λh' B J=>h _ ?_;have hd:∃o,h'.get? dx=some o:=let⟨o,_,_,e',_⟩:=B.ns;⟨o,e'⟩;refine I.write (x:=a) (e:=dx) (by rw[e];exact True.intro) (.inr ho) (λb q hb z=>(J.2 b hb).trans z) hd ?_
 refine⟨by rw[aL O.ne];exact ho,?_,O.ne,B.obj,_,B.ns,λg=>?_,λg Z=>?_⟩
 ·have:=f_ f y fs;omega
 ·show fQ ((eh f y fs).lookup g) (if g=f then some u else mA g)
  rw[jo];by_cases q:g=f
  ·rw[if_pos q,if_pos q];exact U
  ·rw[if_neg q,if_neg q];exact r g
 ·by_cases q:g=f
  ·rw[q];exact(i7 f y fs).1
  ·refine(i7 f y fs).2 g (F g λz=>Z ?_);show(if g=f then some u else mA g)=none
   rw[if_neg q];exact z
theorem Inv.made(I:Inv X pins σ H s):Inv X pins σ (upd (upd H s.heap.objs.size (.own (s.heap.objs.size+1))) (s.heap.objs.size+1) (.ins C s.heap.objs.size []))
  {s with heap:=(s.heap.push PySem.W.emptyDict).push (PySem.W.instObj C s.heap.objs.size)}:=by
 have c:(s.heap.push PySem.W.emptyDict).get? s.heap.objs.size=some PySem.W.emptyDict:=aq s.heap rfl
 have U:((s.heap.push PySem.W.emptyDict).push (PySem.W.instObj C s.heap.objs.size)).get? (s.heap.objs.size+1)=some (PySem.W.instObj C s.heap.objs.size):=by have:=aq (s.heap.push PySem.W.emptyDict) (o:=PySem.W.instObj C s.heap.objs.size) rfl;rwa [Heap.size_push] at this
 have J:(s.heap.push PySem.W.emptyDict).Ns s.heap.objs.size (λ_=>none):=⟨PySem.W.emptyDict,#[],_,c,rfl,(λe F=>absurd F (by simp)),λ_=>rfl⟩
 have Y:=I.laid (a:=s.heap.objs.size) (o:= .own (s.heap.objs.size+1)) (h':=s.heap.push PySem.W.emptyDict) (t':=s.toks) (λb u q=>ae _ q) (ac _) ⟨_,c⟩;refine Y.laid (a:=s.heap.objs.size+1) (o:= .ins C s.heap.objs.size []) (t':=s.toks) (λb u q=>ae _ q) (Nat.le_of_eq (Heap.size_push _ _)) ?_;have ne:s.heap.objs.size≠s.heap.objs.size+1:=au (aI _);refine⟨by rw[aL ne,bF],Nat.zero_le _,ne,U,λ_=>none,(Heap.Ns1.of_empty J).at λo q=>ae _ q,λ_=>True.intro,λy B=>absurd rfl B⟩
theorem yR{prog:Program}{env:Env}{f:Str}{s:Shared}(c:attributeBase e f env (eval e env)=eval e env)
  (h:wpAny (model prog w) A (eval e env) (λo s₁=>wpAny (model prog w) A (getAttr o f true) Q E s₁) E s):wpAny (model prog w) A (eval (.Attribute e f pos) env) Q E s:=
 Attribute_any_ h (by rw[arm_eval_Attribute,c])
end
def Ei(K:aA)(ta:TE)(f:Str):TE:=λσ H Q=>ta σ H λx H1=>∃a C dx fs v,x=.ref a/\H1 a=some (.ins C dx fs)/\Cls K C/\fJ K C f/\fs.lookup f=some v/\Q v H1
def Et(K:aA)(ta tv:TE)(f:Str):TS:=λD σ H=>tv σ H λy H1=>ta σ H1 λx H2=>∃a C dx fs,x=.ref a/\H2 a=some (.ins C dx fs)/\Cls K C/\fJ K C f/\fs.length<1000/\
 D.nx σ (upd H2 a (.ins C dx (eh f y fs)))
section
variable{X:Cx}{o e value:Expr}{f:Str}{pos pos':Pos}{ta tv:TE}
theorem AR(U:PE X e ta)(Y:attributeBase e f X.env (eval e X.env)=eval e X.env):PE X (.Attribute e f pos) (Ei X.K ta f):=by intro pins s σ H Q I h;refine yR Y (bW (U pins s σ H _ I h) λu s1 J=>?_);obtain⟨x,H1,I1,B,a,C,dx,fs,v,ex,Z,c,n,l,q⟩:=J;subst ex;obtain rfl:u=Value.ref a:=B;exact qw I1 Z c n l λu' s2 I2 F=>⟨v,H1,I2,F,q⟩
theorem AD(U:PE X o ta)(J:PE X value tv)(hs:swapsWith value (some (.Attribute o f pos')) pos.line X.env=pure false):PS X (.Assign [.Attribute o f pos'] value pos) (Et X.K ta tv f):=by intro pins s σ H D I h;refine plainObj_wpAny_Assign_Attribute (bW (J pins s σ H _ I h) λu B ⟨y,H1,I1,ry,q⟩=>bW (U pins B σ H1 _ I1 q) λF s2 ⟨x,H2,I2,rx,a,C,dx,fs,ex,ea,c,n,l,q2⟩=>?_) hs;subst ex;obtain rfl:F=Value.ref a:=rx;exact pW I2 ea c n l ry λZ Y=>⟨σ,_,Y,q2⟩
end
section
end
structure Room(k:Nat)(A:Around):Prop where
 hd:A.handled=none
 dp:A.depth+3*k+5<recursionLimit
 un:A.units+16*k+200<cLine
theorem Room.mono{k:Nat}(r:Room k A)(h:j<=k):Room j A:=⟨r.hd,by have:=r.dp;omega,by have:=r.un;omega⟩
theorem Room.deeper{k:Nat}(r:Room (k+1) A)(env:Env):Room k (A.deeper env):=
 ⟨r.hd,by have:=r.dp;show A.depth+1+3*k+5<_;omega,by have:=r.un;show A.units+3+16*k+200<_;omega⟩
theorem qk:(A.under (.builtin "type.__call__" ⟨.ref C::us,kw⟩)).depth=A.depth+1:=by
 first|rfl|simp[Around.under,Code.weight,Code.isCreation,Code.isGuard,Code.isCaller,Code.frames,Code.isFrame,guardIds]
theorem qj:(A.under (.builtin "type.__call__" ⟨.ref C::us,kw⟩)).units=A.units+1:=by
 first|rfl|simp[Around.under,Code.cUnits,Code.frames,Code.isFrame]
theorem Room.make{k:Nat}(r:Room (k+1) A)(C:Addr)(us:List Value)(kw:List (Str×Value)):Room k (A.under (.builtin "type.__call__" ⟨.ref C::us,kw⟩)):=
 ⟨r.hd,by have:=r.dp;rw[qk];omega,by have:=r.un;rw[qj];omega⟩
theorem Room.depth{k:Nat}(r:Room k A):A.depth<recursionLimit:=by have:=r.dp;omega
def xv:TA:=λ_ H Q=>Q [] H
def uH(ta:TE)(tr:TA):TA:=λσ H Q=>ta σ H λx H1=>tr σ H1 λxs H2=>Q (x::xs) H2
section
variable{X:Cx}{e:Expr}{es:List Expr}{te:TE}{t:TA}{pos:Pos}
theorem dN:PA X [] xv:=λ_ _ _ _ H Q I h=>Calls.spliced_nil ⟨[],H,I,.nil,h⟩
theorem b9(J:PE X e te)(hr:PA X es t)(hs:starEach (e::es) X.env=(false,eval e X.env)::starEach es X.env:=by rfl):PA X (e::es) (uH te t):=by intro pos pins s σ H Q I h;rw[hs];show wpAny _ _ (spliced ((false,eval e X.env)::backTo pos (starEach es X.env))) _ _ s;refine Calls.spliced_cons (bW (J pins s σ H _ I h) λu c F=>?_);obtain⟨x,H1,U,B,q1⟩:=F;exact bW (hr pos pins c σ H1 _ U q1) λus Y ⟨xs,H2,I2,r2,q2⟩=>⟨x::xs,H2,I2,.cons B r2,q2⟩
def D9(t:TA):TE:=λσ H Q=>t σ H λxs H1=>xs.length<=sizeLine/\∀p,H1 p=none->Q (.ref p) (upd H1 p (.tup xs))
def Ef(t:TA):TE:=λσ H Q=>t σ H λxs H1=>xs.length<=sizeLine/\∀p,H1 p=none->Q (.ref p) (upd H1 p (.lst xs))
theorem AK{x1}(h:PA X es t):PE X (.Tuple es x1 pos) (D9 t):=by
 intro pins s σ H Q I B;refine wpAny_Tuple_spliced (bW (h pos pins s σ H _ I B) λus c ⟨xs,H1,I1,r,z,q⟩=>⟨by rw[<-r.length];exact z,?_⟩)
 have F:H1 c.heap.objs.size=none:=I1.hok.fresh (ac _);refine⟨.ref c.heap.objs.size,upd H1 c.heap.objs.size (.tup xs),I1.laid (t':=c.toks) (λb u e=>ae _ e) (ac _) ?_,rfl,q _ F⟩;exact⟨z,us,r,⟨_,aq _ rfl,⟨rfl,rfl⟩,_,rfl⟩⟩
theorem AQ(h:PA X es t):PE X (.List es pos) (Ef t):=by
 intro pins s σ H Q I B;refine wpAny_List_spliced (bW (h pos pins s σ H _ I B) λus c ⟨xs,H1,I1,r,z,q⟩=>⟨by rw[<-r.length];exact z,?_⟩)
 have F:H1 c.heap.objs.size=none:=I1.hok.fresh (ac _);refine⟨.ref c.heap.objs.size,upd H1 c.heap.objs.size (.lst xs),I1.laid (t':=c.toks) (λb u e=>ae _ e) (ac _) ?_,rfl,q _ F⟩;exact⟨z,us,0,r,aq _ rfl⟩
end
abbrev Sp:=List V->Hp->VK->XK->Prop
abbrev xf:=List Env->Hp->Shared->XK->Value->Shared->Prop
structure Env0(P:Program)(w:World)(K:aA)(mg:Str->Option Value)(base:Heap)(A:Around)(outer:List Env)(s:Shared)(H:Hp):Prop where
 frames:A.frames=some outer
 mod:Mod K mg base
 bs:∀b o,base.get? b=some o->s.heap.get? b=some o/\H b=none
 bsz:base.objs.size<=s.heap.objs.size
 funs:s.heap.FunFrames base outer
 frf:∀b∈tH outer,H b=none
 hok:gX P w H s.heap
 bare:AllBare s.gens
def CE(outer:List Env)(P:Program)(w:World)(H:Hp)(s:Shared)(Q:VK)(u:Value)(s':Shared):Prop:=
 ∃v H',s'.os=s.os/\AllBare s'.gens/\Un (tH outer) [] H H' s.heap s'.heap/\gX P w H' s'.heap/\RelV v u/\Q v H'
def CR(CX:xf)(outer:List Env)(P:Program)(w:World)(H:Hp)(s:Shared)(Q:VK)(E:XK)(r:Result)(s':Shared):Prop:=
 match r with
 | .ok (.ret u)=>CE outer P w H s Q u s'
 | .ok _=>False
 | .error e=>CX outer H s E e s'
structure FnOk(P:Program)(w:World)(K:aA)(mg:Str->Option Value)(base:Heap)(CX:xf)(k:Nat)(f:Addr)(fd:FuncData)(ps:List Str)(sp:Sp):Prop where
 len:∀vs H Q E,sp vs H Q E->vs.length=ps.length
 run:∀(A:Around)(outer:List Env)(s:Shared)(H:Hp)(args:Args)(us:List Value) (vs:List V)(Q:VK)(E:XK),Room k A->Env0 P w K mg base A outer s H->BindsTo s fd args (ps.zip us)->bn vs us->sp vs H Q E->
  codeAny (model P w) A (.call (.ref f) args) (CR CX outer P w H s Q E) s
theorem FnOk.imp{K:aA}{CX:xf}{k:Nat}{f:Addr}{fd:FuncData}{ps:List Str}{sp c:Sp}(F:FnOk P w K mg base CX k f fd ps sp)
  (h:∀vs H Q E,c vs H Q E->sp vs H Q E):FnOk P w K mg base CX k f fd ps c:=
 ⟨λvs H Q E q=>F.len vs H Q E (h _ _ _ _ q),λA outer s H args us vs Q E hr I J B hs=>F.run A outer s H args us vs Q E hr I J B (h _ _ _ _ hs)⟩
theorem Env0.make{K:aA}{outer:List Env}{H:Hp}(e:Env0 P w K mg base A outer s H)(C:Addr)(us:List Value)(kw:List (Str×Value)):
  Env0 P w K mg base (A.under (.builtin "type.__call__" ⟨.ref C::us,kw⟩)) outer s H:=⟨by first|exact e.frames|(simpa[Around.under,Code.envs,Code.isFrame,pushEnvs] using e.frames),e.mod,e.bs,e.bsz,e.funs,e.frf,e.hok,e.bare⟩
section
variable{X:Cx}{pins:List (Addr×Obj)}{σ:St}{H:Hp}{s s':Shared}
theorem Inv.env0(I:Inv X pins σ H s):Env0 X.prog X.w X.K X.mg X.base X.A X.stack s H:=
 ⟨I.ok.frames,I.ok.mod,I.bs,aR I.ok.bsz I.sz,I.stack,I.stkFree,I.hok,I.bare⟩
theorem Inv.after{Q:VK}(I:Inv X pins σ H s)(h:CE X.stack X.prog X.w H s Q u s'):EP X pins σ Q u s':=by
 obtain⟨v,H',os,bare,un,B,r,q⟩:=h;obtain⟨F,g,d,t,c⟩:=s';obtain rfl:c=s.os:=os;exact⟨v,H',I.call (h':=F) (g':=g) (d':=d) (t':=t) (ch:=[]) un B bare (λb z=>absurd z (by simp)),r,q⟩
end
def Cs(sp:Sp)(dvs:List V)(E:XK)(t:TA):TE:=λσ H Q=>t σ H λvs H1=>sp (vs++dvs) H1 Q E
def Co(C:Addr)(sp:Sp)(dvs:List V)(E:XK)(t:TA):TE:=λσ H Q=>t σ H λvs H1=>∀x dx,H1 x=none->H1 dx=none->dx≠x->
 sp (.ref x::(vs++dvs)) (upd (upd H1 dx (.own x)) x (.ins C dx [])) (λv H2=>v=.non/\Q (.ref x) H2) E
def Binds(K:aA)(fd:FuncData)(ps:List Str)(ds:List Value):Prop:=
 ∀(s:Shared)(us:List Value),K.In s.heap->(us++ds).length=ps.length->BindsTo s fd ⟨us,[]⟩ (ps.zip (us++ds))
theorem Binds.all{K:aA}{fd:FuncData}{ps:List Str}(h:∀us:List Value,us.length=ps.length->bindArgs fd ⟨us,[]⟩=pure (ps.zip us)):Binds K fd ps []:=λs us _ c=>by rw[List.append_nil] at c ⊢;exact .of_eq (h us c)
def lc(CX:xf)(X:Cx)(E:XK):Prop:=∀(pins:List (Addr×Obj))(σ:St)(H:Hp)(s:Shared)(e:Value)(s':Shared),Inv X pins σ H s->CX X.stack H s E e s'->X.xe e s'
section
variable{X:Cx}{CX:xf}{k:Nat}{f C:Addr}{fd:FuncData}{ps:List Str}{sp:Sp}{dvs:List V}{ds:List Value}{E:XK}{x:Str}{p pos:Pos}{e:Expr}{es:List Expr}{t:TA}
theorem Ao{σ:St}{H:Hp}{Q:VK}{vs:List V}(F:FnOk X.prog X.w X.K X.mg X.base CX k f fd ps sp)(hr:Room k X.A)(Y:Binds X.K fd ps ds)(hd:bn dvs ds)(J:lc CX X E)
  (I:Inv X pins σ H s)(r:bn vs us)(h:sp (vs++dvs) H Q E):wpAny (model X.prog X.w) X.A (call (.ref f) us) (EP X pins σ Q) X.xe s:=by
 have B:bn (vs++dvs) (us++ds):=r.append hd;have U:(us++ds).length=ps.length:=by rw[<-B.length];exact F.len _ _ _ _ h
 refine wpAny_call (codeAny_mono (F.run X.A X.stack s H ⟨us,[]⟩ (us++ds) (vs++dvs) Q E hr I.env0 (Y s us I.kIn U) B h) λr s' c=>?_);cases r with
 |error e=>exact J pins σ H s e s' I c
 |ok fl=>
  cases fl with
  |ret u=>exact I.after c
  |next=>exact False.elim c
  |brk=>exact False.elim c
  |cont=>exact False.elim c
theorem x6(F:FnOk X.prog X.w X.K X.mg X.base CX k f fd ps sp)(hr:Room k X.A)(U:Gl X x)(J:X.mg x=some (.ref f))(hk:PySem.W.keepIn X.K (.ref f)=true)(Y:Binds X.K fd ps ds)(hd:bn dvs ds)(B:lc CX X E)
  (Z:PA X (e::es) t)(c:(x==("__debug__":Str))=false:=by decide) (he:starEach (e::es) X.env=(false,eval e X.env)::starEach es X.env:=by rfl)(hpl:(backTo pos (starEach es X.env)).any (·.1)=false:=by rfl):
  PE X (.Call (.Name x p) (e::es) [] pos) (Cs sp dvs E t):=by
 intro pins s σ H Q I h;refine wpAny_Call_Name_kw (m6 I U J ?_ c);refine PySem.W.callWith_K (h₀:=X.base) I.ok.mod.kin hk (bW (Z pos pins s σ H _ I h) λus s1 ⟨vs,H1,I1,r,q⟩=>⟨I1.kIn,?_⟩) he hpl;exact Ao F hr Y hd B I1 r q
structure Mk(K:aA)(C f:Addr):Prop where
 makes:PySem.W.makesIn K C=true
 init:PySem.W.findIn K (.ref C) "__init__"=some (some (.ref f))
 fn:PySem.W.isFn K (.ref f)=true
 kp:PySem.W.keepIn K (.ref C)=true
theorem vd{σ:St}{H:Hp}{Q:VK}{vs:List V}(M:Mk X.K C f)(F:FnOk X.prog X.w X.K X.mg X.base CX k f fd ps sp)(hr:Room (k+1) X.A)(hb:Binds X.K fd ps ds)(hd:bn dvs ds)
  (Z:lc CX X E)(I:Inv X pins σ H s)(r:bn vs us)
  (h:∀x dx,H x=none->H dx=none->dx≠x->sp (.ref x::(vs++dvs)) (upd (upd H dx (.own x)) x (.ins C dx [])) (λv H2=>v=.non/\Q (.ref x) H2) E):
  wpAny (model X.prog X.w) X.A (call (.ref C) us) (EP X pins σ Q) X.xe s:=by
 have U:=h (s.heap.objs.size+1) s.heap.objs.size (I.hok.fresh (Nat.le_succ _)) (I.hok.fresh (ac _)) (au (aI _));have B:=Inv.made (C:=C) I;have J:bn (V.ref (s.heap.objs.size+1)::(vs++dvs)) (Value.ref (s.heap.objs.size+1)::(us++ds)):= .cons rfl (r.append hd)
 have hl:(Value.ref (s.heap.objs.size+1)::us++ds).length=ps.length:=by have e:=J.length;rw[F.len _ _ _ _ U] at e;exact e.symm
 refine wpAny_call (v5 (f:=f) I.kIn M.makes M.init (beq_iff_eq.mp M.fn) (codeAny_mono (F.run _ X.stack _ _ ⟨Value.ref (s.heap.objs.size+1)::us,[]⟩ (Value.ref (s.heap.objs.size+1)::(us++ds)) _ _ E (hr.make C us [])
  (B.env0.make C us []) (hb _ (Value.ref (s.heap.objs.size+1)::us) B.kIn hl) J U) λr s' c=>?_))
 cases r with
 |error e=>exact Z pins σ _ _ e s' B c
 |ok fl=>
  cases fl with
  |ret u=>obtain⟨v,H',I3,rv,ev,Y⟩:=B.after c;subst ev;exact⟨rv,⟨V.ref (s.heap.objs.size+1),H',I3,rfl,Y⟩⟩
  |next=>exact False.elim c
  |brk=>exact False.elim c
  |cont=>exact False.elim c
theorem x2(M:Mk X.K C f)(F:FnOk X.prog X.w X.K X.mg X.base CX k f fd ps sp)(hr:Room (k+1) X.A)(U:Gl X x)(J:X.mg x=some (.ref C))(Y:Binds X.K fd ps ds)(hd:bn dvs ds)(B:lc CX X E)
  (Z:PA X (e::es) t)(c:(x==("__debug__":Str))=false:=by decide) (he:starEach (e::es) X.env=(false,eval e X.env)::starEach es X.env:=by rfl)(hpl:(backTo pos (starEach es X.env)).any (·.1)=false:=by rfl):
  PE X (.Call (.Name x p) (e::es) [] pos) (Co C sp dvs E t):=by
 intro pins s σ H Q I h;refine wpAny_Call_Name_kw (m6 I U J ?_ c);refine PySem.W.callWith_K (h₀:=X.base) I.ok.mod.kin M.kp (bW (Z pos pins s σ H _ I h) λus s1 ⟨vs,H1,I1,r,q⟩=>⟨I1.kIn,?_⟩) he hpl;exact vd M F hr Y hd B I1 r q
end
section
end
structure FnScope(N P:List Str)(sc:Scope):Prop where
 kind:sc.kind=.function
 co:sc.isCoroutine=false
 gen:sc.isGenerator=false
 nd:N.Nodup
 pre:N.take P.length=P
 par:∀x∈P,sc.names.lookup x=some .local∨sc.names.lookup x=some .cell
 nofree:∀y∈sc.names,y.2≠ .free
theorem mm{kindOf:Str->Option NameKind}{x:Str}:∀{binds:List (Str×Value)}{m:Str->Option Value},(∀v,(x,v)∉binds)->bindL kindOf binds m x=m x
 |[],_,_=>rfl
 |(n,v)::r,m,h=>by
  unfold bindL;rw[mm λw c=>h w (List.mem_cons_of_mem _ c)];split
  ·have:x≠n:=by rintro rfl;exact h v List.mem_cons_self
   simp[this]
  ·rfl
theorem mo{kindOf:Str->Option NameKind}{x:Str}:∀{binds:List (Str×Value)}{m:Str->Option Value},(∀v,(x,v)∉binds)->bindC kindOf binds m x=m x
 |[],_,_=>rfl
 |(n,v)::r,m,h=>by
  unfold bindC;rw[mo λw c=>h w (List.mem_cons_of_mem _ c)];split
  ·rfl
  ·have:x≠n:=by rintro rfl;exact h v List.mem_cons_self
   simp[this]
theorem mn{kindOf:Str->Option NameKind}{x:Str}{v:Value}:∀{P:List Str}{vs:List Value}{i:Nat}{m:Str->Option Value},P.Nodup->P[i]? =some x->vs[i]? =some v->kindOf x=some .local->
  bindL kindOf (P.zip vs) m x=some v
 |[],_,_,_,_,h,_,_=>by simp at h
 |_::_,[],_,_,_,_,h,_=>by simp at h
 |p::P,w::vs,0,m,nd,h1,h2,hk=>by simp at h1 h2;subst h1;subst h2;show bindL kindOf ((p,w)::P.zip vs) m p=_;unfold bindL;rw[mm λv c=>(List.nodup_cons.mp nd).1 (List.of_mem_zip c).1,if_pos hk];simp
 |p::P,w::vs,i+1,m,nd,h1,h2,hk=>by
  show bindL kindOf ((p,w)::P.zip vs) m x=_;unfold bindL;exact mn (i:=i) (List.nodup_cons.mp nd).2 (by simpa using h1) (by simpa using h2) hk
theorem mq{kindOf:Str->Option NameKind}{x:Str}{v:Value}:∀{P:List Str}{vs:List Value}{i:Nat}{m:Str->Option Value},P.Nodup->P[i]? =some x->vs[i]? =some v->kindOf x≠some .local->
  bindC kindOf (P.zip vs) m x=some v
 |[],_,_,_,_,h,_,_=>by simp at h
 |_::_,[],_,_,_,_,h,_=>by simp at h
 |p::P,w::vs,0,m,nd,h1,h2,hk=>by simp at h1 h2;subst h1;subst h2;show bindC kindOf ((p,w)::P.zip vs) m p=_;unfold bindC;rw[mo λv c=>(List.nodup_cons.mp nd).1 (List.of_mem_zip c).1,if_neg hk];simp
 |p::P,w::vs,i+1,m,nd,h1,h2,hk=>by
  show bindC kindOf ((p,w)::P.zip vs) m x=_;unfold bindC;exact mq (i:=i) (List.nodup_cons.mp nd).2 (by simpa using h1) (by simpa using h2) hk
noncomputable def start(N:List Str)(vs:List V):St:=vs.map some++List.replicate (N.length - vs.length) none
noncomputable def qB(CX:xf)(P:Program)(w:World)(K:aA)(mg:Str->Option Value)(base:Heap)(N:List Str)(qual:Str)(scope:Scope)(f:Addr)(cd:Value)(A:Around)(outer:List Env)(s:Shared)(H:Hp)(E:XK):Cx where
 prog:=P
 w:=w
 K:=K
 mg:=mg
 base:=base
 A:=A.deeper (envOfC qual scope s.heap.objs.size f cd)
 N:=N
 s₀:=s
 H₀:=H
 env:=envOfC qual scope s.heap.objs.size f cd
 outer:=outer
 stack:=envOfC qual scope s.heap.objs.size f cd::outer
 ex:=[]
 calm:=true
 fn:=λ_=>true
 pn:=[]
 xe:=λe s'=>wpAny (model P w) (A.deeper (envOfC qual scope s.heap.objs.size f cd)) (leaving (envOfC qual scope s.heap.objs.size f cd) e) (λ_ s''=>CX outer H s E e s'') (λe' s''=>CX outer H s E e' s'') s'
theorem pB{sc:Scope}(h:sc.names.lookup x=some .cell):∃c,(cellsFrom n sc.names []).lookup x=some c:=by have q:=PySem.W.cellsFrom_some sc.names n [] (.inl h);exact Option.isSome_iff_exists.mp q
theorem i9{CX:xf}{K:aA}{N ps:List Str}{scope:Scope}{f:Addr}{Z:Value}{outer:List Env}{s1:Shared}{H:Hp}{E:XK}{vs:List V}
  (S:FnScope N ps scope)(hd:A.handled=none)(F:Env0 P w K mg base A outer s H)(hl:vs.length=ps.length)(r:bn vs us)
  (x:InCallC s s.heap.objs.size (bindL (envOfC qual scope s.heap.objs.size f Z).kindOf (ps.zip us) λ_=>none) (cellsFrom (s.heap.objs.size+1) scope.names []) (bindC (envOfC qual scope s.heap.objs.size f Z).kindOf (ps.zip us) λ_=>none) s1):
  Inv (qB CX P w K mg base N qual scope f Z A outer s H E) [] (start N vs) H s1:=by
 have hpl:ps.length<=N.length:=by have:=congrArg List.length S.pre;rw[List.length_take] at this;omega
 obtain⟨h1,tk,rfl,hk⟩:=x.done;have I:∀b:Addr,b∉(qB CX P w K mg base N qual scope f Z A outer s H E).ex:=λb z=>absurd (show b∈([]:List Addr) from z) (by simp)
 refine⟨⟨F.mod,S.kind,rfl,rfl,ac _,λy z c h1 B=>?_,λy J=>?_,λy c _ h=>?_,λ_=>hd,Around.frames_deeper F.frames,.inr ⟨rfl,rfl⟩,λb z=>absurd z (I b),F.bs,F.bsz,λb _ _=>I b,λb z=>absurd z (I b),F.funs,F.frf⟩,
  rfl,F.bare,Un.kept hk,⟨_,x.toInCall.ns,λi y v h1 B h3=>?_⟩,λy c h=>⟨_,x.cell y c h⟩,F.hok.fresh (ac _),λy c h=>?_,λp Y=>absurd (show p∈([]:List (Addr×Obj)) from Y) (by simp),F.hok.kept hk,?_⟩
 ·exact name_of_addr x.apart (aQ h1) (aQ B)
 ·have J:scope.names.lookup y=some .cell∨scope.names.lookup y=some .free:=J;rcases J with J|J
  ·exact pB J
  ·exact absurd rfl (S.nofree _ (aQ J))
 ·exact Nat.le_of_lt (x.above y c (aQ h))
 ·have hi:i<vs.length:=by
   unfold start at B;by_cases hi:i<vs.length
   ·exact hi
   ·rw[aE (by simpa using hi)] at B
    rw[List.getElem?_replicate] at B;split at B<;>cases B
  have ha:vs[i]? =some v:=by
   unfold start at B;rw[aC (by simpa using hi),aj] at B
   cases e:vs[i]? with
   |none=>rw[e] at B;cases B
   |some a=>rw[e] at B;cases B;rfl
  obtain⟨u,hu,rv⟩:=r.get ha
  have Y:ps[i]? =some y:=by
   rw[<-S.pre,List.getElem?_take_of_lt (by omega)];exact h1
  have U:ps.Nodup:=by rw[<-S.pre];exact S.nd.sublist (List.take_sublist _ _)
  refine⟨u,rv,?_⟩;rcases S.par y (ak Y) with k|k
  ·exact .inl ⟨k,mn U Y hu k⟩
  ·obtain⟨c,e⟩:=pB (n:=s.heap.objs.size+1) k;refine .inr ⟨.inl k,c,e,?_⟩;have q:=x.cell y c e;rw[mq U Y hu (by show scope.names.lookup y≠_;rw[k];decide)] at q
   exact q
 ·exact F.hok.fresh (Nat.le_of_lt (x.above y c (aQ h)))
 ·unfold start;show _=N.length;rw[aB,List.length_map,List.length_replicate];omega
theorem Di{CX:xf}{K:aA}{k:Nat}{f:Addr}{name:Str}{params:Arguments}{body:List Stmt}{scope:Scope}{dV kV Z pm c ct oc:Value}{an od:Option Addr}
  {osl:Array (Option Value)}{N ps:List Str}{sp:Sp}(lk:K.lookup f=some ⟨oc,od,.func (PySem.W.fnOf name qual params body scope dV kV Z pm an c ct),osl⟩)(hcd:PySem.W.codeIn K c qual=true)(S:FnScope N ps scope)
  (len:∀vs H Q E,sp vs H Q E->vs.length=ps.length)
  (F:∀(A:Around)(outer:List Env)(s:Shared)(H:Hp)(vs:List V)(Q:VK)(E:XK),Room k (A.deeper (envOfC qual scope s.heap.objs.size f c))->sp vs H Q E->
   ∃t,PSs (qB CX P w K mg base N qual scope f c A outer s H E) body t/\t {nx:=λ_ H'=>Q .non H',rt:=Q} (start N vs) H):
  FnOk P w K mg base CX (k+1) f (PySem.W.fnOf name qual params body scope dV kV Z pm an c ct) ps sp:=by
 refine⟨len,λA outer s H args us vs Q E hr Y hb r U=>?_⟩;have hl:=len _ _ _ _ U;have KX:K.In s.heap:=Y.mod.kin.keeps λb o e=>(Y.bs b o e).1;have lim:s.heap.NoLimit:=Y.mod.nolimit.keeps λb o e=>(Y.bs b o e).1
 have B:∀y∈ps.zip us,scope.names.lookup y.1=some .local∨(scope.names.lookup y.1=some .cell/\((cellsFrom (s.heap.objs.size+1) scope.names []).lookup y.1).isSome=true):=λ⟨n,v⟩ hy=>by
  rcases S.par n (List.of_mem_zip hy).1 with q|q
  ·exact .inl q
  ·exact .inr ⟨q,PySem.W.cellsFrom_some _ _ _ (.inl q)⟩
 refine codeAny_call_function hr.depth (KX _ _ lk) rfl S.co S.gen rfl (PySem.W.codeRec_of KX hcd) (hb _ _ _ _ ?_);refine wpAny_newFunctionEnv_cells S.kind B λenv he s1 x=>?_;subst he;refine⟨lim.keeps x.toInCall.keep,codeAny_func ?_⟩;obtain⟨t,ht,hq⟩:=F A outer s H vs Q E (hr.deeper _) U;have I:Inv (qB CX P w K mg base N qual scope f c A outer s H E) [] (start N vs) H s1:=i9 S hr.hd Y hl r x;refine aW (ht [] s1 (start N vs) H _ I hq) (λfl s' hs=>?_) λe s' hs=>hs
 have fin:∀{σ':St}{H':Hp}{v:V}{u:Value},Inv (qB CX P w K mg base N qual scope f c A outer s H E) [] σ' H' s'->RelV v u->Q v H'->CE outer P w H s Q u s':=
  λ{σ' H' v u} J rv q=>⟨v,H',J.os,J.bare,J.base,J.hok,rv,q⟩
 cases fl with
 |ret u=>obtain⟨v,σ',H',J,rv,q⟩:=hs;exact fin J rv q
 |next=>obtain⟨σ',H',J,q⟩:=hs;exact fin (v:=V.non) (u:=Value.none) J rfl q
 |brk=>obtain⟨_,_,_,q⟩:=hs;exact False.elim q
 |cont=>obtain⟨_,_,_,q⟩:=hs;exact False.elim q
section
variable{X:Cx}{x:Str}{p pos:Pos}{e:Expr}{es:List Expr}{t:TA}{id T:String}{r:List V->Hp->VK->Prop}
def Ek(r:List V->Hp->VK->Prop)(t:TA):TE:=λσ H Q=>t σ H λvs H1=>r vs H1 Q
theorem km(Y:fO X (.builtin id) r)(U:Gl X x)(J:X.mg x=none)(B:bootBuiltins x=some (.builtin id))(Z:PA X (e::es) t)(F:x≠ "__name__":=by decide)(hdb:(x==("__debug__":Str))=false:=by decide)
  (he:starEach (e::es) X.env=(false,eval e X.env)::starEach es X.env:=by rfl)(hpl:(backTo pos (starEach es X.env)).any (·.1)=false:=by rfl):PE X (.Call (.Name x p) (e::es) [] pos) (Ek r t):=by
 intro pins s σ H Q I h;refine wpAny_Call_Name_kw (et I U J B ?_ F hdb);exact PyProof.Rows.callWith_builtin1 (bW (Z pos pins s σ H _ I h) λus c ⟨vs,H1,I1,r1,q1⟩=>Y pins c σ H1 vs us Q I1 r1 q1) he hpl
theorem sR(Y:fO X (.type T) r)(U:Gl X x)(J:X.mg x=none)(B:bootBuiltins x=some (.type T))(Z:PA X (e::es) t)(F:x≠ "__name__":=by decide)(hdb:(x==("__debug__":Str))=false:=by decide)
  (he:starEach (e::es) X.env=(false,eval e X.env)::starEach es X.env:=by rfl)(hpl:(backTo pos (starEach es X.env)).any (·.1)=false:=by rfl):PE X (.Call (.Name x p) (e::es) [] pos) (Ek r t):=by
 intro pins s σ H Q I h;refine wpAny_Call_Name_kw (et I U J B ?_ F hdb);exact aX (bW (Z pos pins s σ H _ I h) λus c ⟨vs,H1,I1,r1,q1⟩=>Y pins c σ H1 vs us Q I1 r1 q1) he hpl
end
end L2
namespace HT
open PySem PyProof.Rows
variable{sl t:Addr}{hi lo:Option Int}{vl vu:Value}
section
open PySem.SeqAt
open PySem.AutoSeq1 (wpAny_loadPart')
open PySem.MeetsSeq PySem.MeetsSeq2 PySem.MeetsSeq3
end
section
variable{prog:Program}{w:World}{A:Around}{E:Value->Shared->Prop}{s:Shared}
theorem yP{b:Addr}{vs ws:List Value}{Q:Value->Shared->Prop}(ht:IsTup s.heap t vs.toArray)(hb:IsTup s.heap b ws.toArray)(U:vs≠[])
  (h1:ws=[]->Q (.ref t) s)(h2:ws≠[]->Q (.ref s.heap.objs.size) {s with heap:=s.heap.push {cls:= .type "tuple",data:= .seq (vs++ws).toArray}})
  (hsz:vs.length+ws.length<=sizeLine):wpAny (model prog w) A (binaryOp .Add (.ref t) (.ref b)) Q E s:=by
 obtain⟨⟨cls,Z,data,sl⟩,ho,Y,n,hd⟩:=id ht;obtain⟨⟨cls2,dd2,data2,sl2⟩,c,I,J,B⟩:=id hb;simp only at Y hd I B;subst Y hd I B;have e:vs.toArray++ws.toArray=(vs++ws).toArray:=by simp
 by_cases hw:ws=[]
 ·exact concat_meets ⟨_,ho,rfl⟩ ⟨_,c,rfl⟩ noFill_tuple_add seq_tuple_add PySem.F.slot_tuple_add PySem.F.entry_tuple_add (PySem.F.args_tuple_add_2 _ _)
   (tuple_addW1 t b vs.toArray ws.toArray n J Z dd2 sl sl2 (by simpa using U) (by simp[hw])) ⟨ho,c,h1 hw⟩
 ·refine concat_meets ⟨_,ho,rfl⟩ ⟨_,c,rfl⟩ noFill_tuple_add seq_tuple_add PySem.F.slot_tuple_add PySem.F.entry_tuple_add (PySem.F.args_tuple_add_2 _ _)
   (tuple_addW2 t b vs.toArray ws.toArray n J Z dd2 sl sl2 (by simpa using U) (by simpa using hw) (by rw[List.size_toArray,List.size_toArray];exact hsz)) ⟨ho,c,?_⟩
  rw[e];exact h2 hw
noncomputable def cG(n d:Nat):Option Int->Nat
 |none=>d
 |some v=>if v<0 then(v+(n:Int)).toNat else min v.toNat n
theorem vc(n d:Nat):cG n d none=d:=rfl
theorem rh(n d k:Nat):cG n d (some (k:Int))=min k n:=by
 show(if(k:Int)<0 then((k:Int)+(n:Int)).toNat else min (k:Int).toNat n)=min k n
 rw[if_neg (by omega),Int.toNat_natCast]
theorem An(n d:Nat)(hd:d<=n)(o:Option Int):cG n d o<=n:=by
 cases o with
 |none=>exact hd
 |some v=>
  show(if v<0 then(v+(n:Int)).toNat else min v.toNat n)<=n
  by_cases hv:v<0
  ·rw[if_pos hv];omega
  ·rw[if_neg hv];exact Nat.min_le_right _ _
theorem sv(v:Int)(n d:Nat):(if v<0 then max (v+(n:Int)) 0 else min v (n:Int))=((cG n d (some v):Nat):Int):=by
 show(if v<0 then max (v+(n:Int)) 0 else min v (n:Int))=(((if v<0 then(v+(n:Int)).toNat else min v.toNat n):Nat):Int)
 by_cases hv:v<0
 ·simp only[if_pos hv];omega
 ·simp only[if_neg hv];omega
theorem qK(lo hi:Option Int)(n:Nat):Builtin.Slice.sliceAdjust lo hi 1 (n:Int)=(((cG n 0 lo:Nat):Int),((cG n n hi:Nat):Int)):=by
 have h1:¬((1:Int)<0):=by omega
 unfold Builtin.Slice.sliceAdjust;simp only[h1,if_false];refine Prod.ext ?_ ?_
 ·cases lo with
  |none=>rfl
  |some v=>exact sv v n 0
 ·cases hi with
  |none=>rfl
  |some v=>exact sv v n n
theorem qg(i j:Nat):Builtin.Slice.slicePlaces (i:Int) (j:Int) 1=j - i:=by
 unfold Builtin.Slice.slicePlaces;have h1:(1:Int)>0:=by omega
 simp only[h1,if_true,Int.ediv_one];split<;>omega
theorem j9{v:Value}{o:Option Int}{Q:Option Int->Shared->Prop}(p:IsPart v o)(h:Q o s):wpAny (model prog w) A (Builtin.Slice.slicePartIndex v) Q E s:=by
 cases p with
 |none=>exact slicePart_none h
 |int i t=>exact slicePart_int h
theorem iT{n:Nat}{Q:Int×Int×Nat->Shared->Prop}(hs:s.heap.IsSliceOf sl vl vu .none)(I:IsPart vl lo)(F:IsPart vu hi)
  (h:Q (((cG n 0 lo:Nat):Int),1,cG n n hi - cG n 0 lo) s):wpAny (model prog w) A (Builtin.Slice.sliceApplied (.ref sl) (pure (n:Int))) Q E s:=by
 obtain⟨os,c,J,B⟩:=id hs;unfold Builtin.Slice.sliceApplied Builtin.Slice.sliceFields;refine aa (aa (a8 c B (x:=vl) rfl (aa (a8 c B (x:=vu) rfl (aa (a8 c B (x:= .none) rfl (ah ?_)))))));refine aa (slicePart_none ?_);show wpAny _ _ (if((1:Int)==0)=true then _ else _) _ _ s
 rw[if_neg (by decide)]
 refine aa (j9 I (aa (j9 F (aa (ah ?_)))));show wpAny _ _ (match Builtin.Slice.sliceAdjust lo hi 1 (n:Int) with|(lo,hi)=>pure (lo,(1:Int),Builtin.Slice.slicePlaces lo hi 1)) _ _ s
 rw[qK lo hi n];show wpAny _ _ (pure (((cG n 0 lo:Nat):Int),(1:Int),Builtin.Slice.slicePlaces ((cG n 0 lo:Nat):Int) ((cG n n hi:Nat):Int) 1)) _ _ s;rw[qg];exact ah h
theorem vG(xs:Array Value)(i k:Nat):((List.range k).filterMap λ(m:Nat)=>xs[((i:Int)+(m:Int)*1).toNat]?).toArray=((xs.toList.drop i).take k).toArray:=by
 have e:(λ(m:Nat)=>xs[((i:Int)+(m:Int)*1).toNat]?)=λm=>xs[i+m]?:=by
  funext m;have:((i:Int)+(m:Int)*1).toNat=i+m:=by omega
  rw[this]
 rw[e];have:=pick_run xs i k;rw[List.filterMap_map] at this;have c:((λx=>xs[x]?) ∘ λx=>i+x)=λm=>xs[i+m]?:=rfl;rw[c] at this;rw[this]
theorem iB{items:Array Value}{Q:Value->Shared->Prop}(B:IsTup s.heap t items)(hs:s.heap.IsSliceOf sl vl vu .none)(Z:IsPart vl lo)(Y:IsPart vu hi)
  (hw:¬(cG items.size 0 lo=0/\cG items.size items.size hi=items.size))
  (h:Q (.ref s.heap.objs.size) {s with heap:=s.heap.push {cls:= .type "tuple",data:= .seq ((items.toList.drop (cG items.size 0 lo)).take (cG items.size items.size hi - cG items.size 0 lo)).toArray}})
  (hsz:items.size<=sizeLine):wpAny (model prog w) A (getItem (.ref t) (.ref sl)) Q E s:=by
 have c:sizeOk (.seq ((items.toList.drop (cG items.size 0 lo)).take (cG items.size items.size hi - cG items.size 0 lo)).toArray):=by show((items.toList.drop (cG items.size 0 lo)).take (cG items.size items.size hi - cG items.size 0 lo)).toArray.size<=sizeLine;rw[List.size_toArray,List.length_take,List.length_drop,Array.length_toList];omega
 have hj:cG items.size items.size hi<=items.size:=An _ _ (ac _) hi;obtain⟨os,F,J,hds⟩:=id hs;have U:s.TypeIs (.ref sl) "slice":=⟨os,F,J⟩;unfold getItem
 try with_reducible refine wpAny_holding ?_
 first|refine aa (ah ?_)|skip
 refine aa (wpAny_sequenceKey B.typeIs (by decide) ?_)
 refine aa (wpAny_callSpecial?_slot (name:=Str.ofString "__getitem__") B.typeIs PyProof.Rows.slot_tuple_getitem
  (wpAny_call_entry PyProof.Rows.slot_tuple_getitem B.typeIs entry_tuple_getitem ?_ (args_tuple_getitem _ _)))
 show wpAny _ _ (Builtin.Tuple.tupleItemsOf (.ref t)>>=_) _ _ s;refine aa (tupleItemsOf_ B ?_);refine aa (wpAny_typeOf U ?_);rw[if_pos (by decide)]
 refine aa (iT hs Z Y ?_)
 have I:¬((((cG items.size 0 lo:Nat):Int)==0&&(1:Int)==1&&(cG items.size items.size hi - cG items.size 0 lo)==items.size)=true):=by
  intro q;rw[Bool.and_eq_true,Bool.and_eq_true] at q;have q1:((cG items.size 0 lo:Nat):Int)=0:=eq_of_beq q.1.1;have q2:cG items.size items.size hi - cG items.size 0 lo=items.size:=eq_of_beq q.2;exact hw ⟨by omega,by omega⟩
 show wpAny _ _ (if(((cG items.size 0 lo:Nat):Int)==0&&(1:Int)==1&&(cG items.size items.size hi - cG items.size 0 lo)==items.size)=true then _ else _) _ _ s
 rw[if_neg I,vG]
 first
  |exact aa (m:=Builtin.Tuple.tupleExact _) (wpAny_newObj_type (ah ⟨_,rfl,ah h⟩) c)
  |exact aa (m:=Builtin.Tuple.tupleExact _) (wpAny_newObj_type (aa (ah (ah ⟨_,rfl,ah h⟩))) c)
  |exact aa (aa (m:=Builtin.Tuple.tupleExact _) (wpAny_newObj_type (ah (ah ⟨_,rfl,ah h⟩)) c))
  |exact aa (aa (m:=Builtin.Tuple.tupleExact _) (wpAny_newObj_type (ah ⟨_,rfl,ah h⟩) c))
end
end HT
namespace L2
open PySem PySem.Spec PyProof.Rows
variable{its its' us:List Value}{xs:List V}{n t':Nat}{s:Shared}{pins:List (Addr×Obj)}
abbrev TO:=St->Hp->(Option Int->Hp->Prop)->Prop
def PO(X:Cx)(e:Option Expr)(t:TO):Prop:=
 ∀(pins:List (Addr×Obj))(s:Shared)(σ:St)(H:Hp)(Q:Option Int->Hp->Prop),Inv X pins σ H s->t σ H Q->
  wpAny (model X.prog X.w) X.A (evalPart e X.env) (λu s'=>∃o H',Inv X pins σ H' s'/\IsPart u o/\Q o H') X.xe s
def qY:TO:=λ_ H Q=>Q none H
def y7(t:TE):TO:=λσ H Q=>t σ H λx H1=>∃i,x=.int i/\Q (some i) H1
theorem intsAre_of{ns:List Int}:∀{us:List Value},bn (ns.map V.int) us->IntsAre us ns:=by
 induction ns with
 |nil=>intro us r;rw[List.map_nil] at r;cases r;exact .nil
 |cons n ns ih=>
  intro us r;rw[List.map_cons] at r;cases r with
  |cons r1 r2=>obtain⟨t,e⟩:=r1;subst e;exact .cons n t (ih r2)
section
variable{X:Cx}{e:Expr}{te:TE}{lo hi:Option Expr}{tl th:TO}{pos p2:Pos}
theorem rG:PO X none qY:=by intro pins s σ H Q I h;rw[evalPart_none];exact ah ⟨none,H,I,.none,h⟩
theorem jO(h:PE X e te):PO X (some e) (y7 te):=by intro pins s σ H Q I B;rw[evalPart_some];refine bW (h pins s σ H _ I B) λu U F=>?_;obtain⟨x,H1,J,c,q1⟩:=F;obtain⟨i,rfl,q⟩:=q1;obtain⟨t,rfl⟩:=c;exact⟨some i,H1,J,.int i t,q⟩
def DZ(X:Cx)(r:V->Option Int->Option Int->Hp->VK->Prop):Prop:=
 ∀(pins:List (Addr×Obj))(s:Shared)(σ:St)(H:Hp)(x:V)(v vl vu:Value)(lo hi:Option Int)(sl:Addr)(Q:VK),Inv X pins σ H s->RelV x v->s.heap.IsSliceOf sl vl vu .none->IsPart vl lo->IsPart vu hi->r x lo hi H Q->
  ∃T id,typeLookup (.type T) "__getitem__"=pure (some (.builtin id))/\s.TypeIs v T/\wpAny (model X.prog X.w) X.A (getItem v (.ref sl)) (EP X pins σ Q) X.xe s
def Fo(r:V->Option Int->Option Int->Hp->VK->Prop)(te:TE)(tl th:TO):TE:=λσ H Q=>te σ H λx H1=>tl σ H1 λl H2=>th σ H2 λu H3=>r x l u H3 Q
theorem vJ{r:V->Option Int->Option Int->Hp->VK->Prop}(hr:DZ X r)(he:PE X e te)(hl:PO X lo tl)(hu:PO X hi th):PE X (.Subscript e (.Slice lo hi none p2) pos) (Fo r te tl th):=by
 intro pins s σ H Q I h;refine Subscript_ (bW (he pins s σ H _ I h) λv U B=>?_);obtain⟨x,H1,I1,Y,q1⟩:=B;refine wpAny_Slice (bW (hl pins U σ H1 _ I1 q1) λvl J ⟨l,H2,I2,pl,q2⟩=>bW (hu pins J σ H2 _ I2 q2) λvu c B=>?_);obtain⟨u,F,I3,pu,Z⟩:=B;rw[evalPart_none];refine ah ?_;have I4:Inv X pins σ F {c with heap:=c.heap.push {cls:= .type "slice",data:= .fields #[vl,vu,.none]}}:=I3.kept (t':=c.toks) λb ob q=>ae _ q;obtain⟨T,id,hT,ht,hg⟩:=hr pins {c with heap:=c.heap.push {cls:= .type "slice",data:= .fields #[vl,vu,.none]}} σ F x v vl vu l u c.heap.objs.size Q I4 Y (Heap.IsSliceOf.new ..) pl pu Z;show wpAny (model X.prog X.w) X.A (subscriptTail e (.Slice lo hi none p2) v (.ref c.heap.objs.size)) (EP X pins σ Q) X.xe {c with heap:=c.heap.push {cls:= .type "slice",data:= .fields #[vl,vu,.none]}};exact tail_any (ops:=[.ref c.heap.objs.size,v]) ht hT hg (by with_unfolding_all rfl)
noncomputable def pq(xs:List V)(lo hi:Option Int):List V:=(xs.drop (HT.cG xs.length 0 lo)).take (HT.cG xs.length xs.length hi - HT.cG xs.length 0 lo)
theorem jt(xs:List V)(lo hi:Option Int):(pq xs lo hi).length<=xs.length:=by unfold pq;rw[List.length_take,List.length_drop];omega
def Eu(K:aA):V->Option Int->Option Int->Hp->VK->Prop:=λx lo hi H Q=>∃a xs,x=.ref a/\fP K H a xs/\
 ¬(HT.cG xs.length 0 lo=0/\HT.cG xs.length xs.length hi=xs.length)/\∀p,H p=none->Q (.ref p) (upd H p (.tup (pq xs lo hi)))
theorem z9:DZ X (Eu X.K):=by
 intro pins s σ H x v vl vu lo hi sl Q I J hs Y U h;obtain⟨a,xs,rfl,Z,hw,q⟩:=h;cases J;obtain⟨its,r,F,B⟩:=I.tuple Z;have c:its.toArray.size=xs.length:=by rw[List.size_toArray];exact r.length.symm
 refine⟨"tuple",_,PyProof.Rows.slot_tuple_getitem.lookup,F.typeIs,?_⟩;refine HT.iB F hs Y U (by rw[c];exact hw) ?_ (by rw[c];exact B)
 rw[c];refine⟨.ref s.heap.objs.size,_,I.laid (t':=s.toks) (o:= .tup (pq xs lo hi)) (λb ob q=>ae _ q) (ac _) ?_,rfl,q _ (I.hok.fresh (ac _))⟩;exact⟨aR (jt xs lo hi) B,_,(r.drop (HT.cG xs.length 0 lo)).take (HT.cG xs.length xs.length hi - HT.cG xs.length 0 lo),lG.new _ _⟩
def CO(K:aA):R2:=λx y H Q=>∃a b xs ys,x=.ref a/\y=.ref b/\fP K H a xs/\fP K H b ys/\xs≠[]/\xs.length+ys.length<=sizeLine/\
 (ys=[]->Q (.ref a) H)/\(ys≠[]->∀p,H p=none->Q (.ref p) (upd H p (.tup (xs++ys))))
theorem bn.nil_iff(r:bn xs us):us=[]↔xs=[]:=by
 cases r with
 |nil=>simp
 |cons _ _=>simp
theorem ye:nJ X (binaryOp .Add) (CO X.K):=by
 intro pins s σ H x y v u Q I U J h;obtain⟨a,b,xs,ys,rfl,rfl,ha,Z,Y,F,q1,q2⟩:=h;cases U;cases J;obtain⟨its,B,p1,_⟩:=I.tuple ha;obtain⟨its2,c,p2,_⟩:=I.tuple Z;refine HT.yP p1 p2 (λz=>Y (B.nil_iff.mp z)) (λz=>⟨.ref a,H,I,rfl,q1 (c.nil_iff.mp z)⟩) (λz=>?_) (by rw[<-B.length,<-c.length];exact F)
 refine⟨.ref s.heap.objs.size,_,I.laid (t':=s.toks) (o:= .tup (xs++ys)) (λb ob q=>ae _ q) (ac _) ?_,rfl,q2 (λw=>z (c.nil_iff.mpr w)) _ (I.hok.fresh (ac _))⟩;exact⟨by rw[aB];exact F,_,B.append c,lG.new _ _⟩
end
noncomputable def xg(n:Nat)(i:Int):Option Nat:=if 0<=i then(if i<n then some i.toNat else none) else if -(n:Int)<=i then some (i+n).toNat else none
def qJ{α:Type}(xs:List α)(i:Int):Option α:=(xg xs.length i).bind λj=>xs[j]?
theorem rW{i:Int}{j:Nat}(h:xg n i=some j):seqIndex? i n=some j/\j<n/\ -(n:Int)<=i/\i<n:=by
 unfold xg at h;by_cases h0:0<=i
 ·rw[if_pos h0] at h;by_cases h1:i<n
  ·rw[if_pos h1] at h;have e:i.toNat=j:=ai h;exact⟨by rw[seqIndex_of h0 h1,e],by omega,by omega,h1⟩
  ·rw[if_neg h1] at h;cases h
 ·rw[if_neg h0] at h;by_cases h1: -(n:Int)<=i
  ·rw[if_pos h1] at h;have e:(i+n).toNat=j:=ai h;exact⟨by rw[seqIndex_neg (by omega) h1,e],by omega,h1,by omega⟩
  ·rw[if_neg h1] at h;cases h
theorem sB{α:Type}{xs:List α}{i:Int}{v:α}(h:qJ xs i=some v):∃j,seqIndex? i xs.length=some j/\xs[j]? =some v/\j<xs.length/\ -(xs.length:Int)<=i/\i<xs.length:=by
 unfold qJ at h;cases e:xg xs.length i with
 |none=>rw[e] at h;cases h
 |some j=>rw[e] at h;obtain⟨h1,F,B,c⟩:=rW e;exact⟨j,h1,h,F,B,c⟩
noncomputable def yV(b:Expr):Prop:=∀o i,subscripted b false o i=operate [o,i] (getItem o i)
def D1(X:Cx)(r:R2):Prop:=
 ∀(value slice:Expr)(pins:List (Addr×Obj))(s:Shared)(σ:St)(H:Hp)(x y:V)(v u:Value)(Q:VK),Inv X pins σ H s->RelV x v->RelV y u->r x y H Q->
  subscripted slice false v u=operate [v,u] (getItem v u)->wpAny (model X.prog X.w) X.A (subscriptTail value slice v u) (EP X pins σ Q) X.xe s
def Fj(X:Cx)(id:String)(r:V->List V->Hp->VK->Prop):Prop:=
 ∀(pins:List (Addr×Obj))(s:Shared)(σ:St)(H:Hp)(x:V)(xs:List V) (v:Value) (us:List Value)(Q:VK),Inv X pins σ H s->RelV x v->bn xs us->r x xs H Q->
  wpAny (model X.prog X.w) X.A (call (.builtin id) (v::us)) (EP X pins σ Q) X.xe s
section
variable{X:Cx}{a b:Expr}{ta tb:TE}{pos:Pos}
theorem CU{r:R2}(hr:D1 X r)(U:PE X a ta)(J:PE X b tb)(hs:yV b):PE X (.Subscript a b pos) (Ck r ta tb):=by intro pins s σ H Q I h;exact Subscript_ (BK U J I h λv u c x y Z Y F B q=>hr a b pins c σ Z x y v u Q Y F B q (hs _ _))
def EB(K:aA):R2:=λx y H Q=>∃p xs i v,x=.ref p/\y=.int i/\dD K H p xs/\qJ xs i=some v/\Q v H
def EA(K:aA):R2:=λx y H Q=>∃p xs i v,x=.ref p/\y=.int i/\fP K H p xs/\qJ xs i=some v/\Q v H
theorem yo:D1 X (EB X.K):=by
 intro value slice pins s σ H x y v u Q I Y U h hs;obtain⟨p,xs,i,z,rfl,rfl,Z,he,q⟩:=h;cases Y;obtain⟨t,rfl⟩:=U;obtain⟨its,r,B,hz⟩:=I.list Z;obtain⟨j,h1,h2,h3,h4,h5⟩:=sB he;obtain⟨w,J,c⟩:=r.get h2;have hl:=r.length;have hn:=m4;have fin:EP X pins σ Q w s:=⟨z,H,I,c,q⟩;by_cases h0:0<=i
 ·have F:i.toNat=j:=by rw[seqIndex_of h0 h5] at h1;exact ai h1
  exact item_listR B.isList h0 (by omega) (by rw[F];simpa using J) fin hs
 ·have F:(i+(its.toArray.size:Int)).toNat=j:=by
   rw[seqIndex_neg (by omega) h4] at h1
   rw[List.size_toArray,<-hl];exact ai h1
  exact subscriptTail_builtinR (x:=w) B.isList.typeIs slot_list_getitem.lookup
   (wpAny_getItem_list_neg (Q:=λr s'=>r=w/\EP X pins σ Q r s') B.isList (by omega) (by rw[List.size_toArray]<;>omega) (by omega) (by rw[F];simpa using J) ⟨rfl,fin⟩) hs
theorem Bg:D1 X (EA X.K):=by
 intro value slice pins s σ H x y v u Q I J F h hs;obtain⟨p,xs,i,z,rfl,rfl,U,Z,q⟩:=h;cases J;obtain⟨t,rfl⟩:=F;obtain⟨its,r,B,hz⟩:=I.tuple U;obtain⟨j,h1,h2,h3,h4,h5⟩:=sB Z;obtain⟨w,ew,c⟩:=r.get h2;have Y:=r.length;have hn:=m4;have fin:EP X pins σ Q w s:=⟨z,H,I,c,q⟩
 exact subscriptTail_builtinR (x:=w) B.typeIs slot_tuple_getitem.lookup
  (getItem_tuple (j:=j) (Q:=λr s'=>r=w/\EP X pins σ Q r s') B (by omega) (by omega) (by rw[List.size_toArray,<-Y];exact h1) (by simpa using ew) ⟨rfl,fin⟩) hs
theorem qi(its:List Value)(n j:Nat)(u:Value):Obj.mapSeq (·.setIfInBounds j u) {cls:= .type "list",data:= .seq its.toArray n}={cls:= .type "list",data:= .seq (its.set j u).toArray n}:=by simp[Obj.mapSeq]
theorem Inv.lst{σ:St}{H:Hp}{p:Addr}(I:Inv X pins σ H s)(h:H p=some (.lst xs)):
  ∃(its:List Value)(n:Nat),bn xs its/\s.heap.get? p=some {cls:= .type "list",data:= .seq its.toArray n}/\xs.length<=sizeLine:=by
 obtain⟨z,its,n,r,e⟩:=I.hok p _ h;exact⟨its,n,r,e,z⟩
theorem Inv.lstUpd{σ:St}{H:Hp}{p:Addr}{ys:List V}{c:Nat}{f:Obj->Obj}(I:Inv X pins σ H s)(h:H p=some (.lst xs))
  (ho:s.heap.get? p=some {cls:= .type "list",data:= .seq its.toArray n}) (B:f {cls:= .type "list",data:= .seq its.toArray n}={cls:= .type "list",data:= .seq its'.toArray c}) (r:bn ys its')(F:ys.length<=sizeLine)(t:Nat):
  Inv X pins σ (upd H p (.lst ys)) {s with heap:=s.heap.update p f,toks:=t}:=by
 have e:(s.heap.update p f).get? p=some {cls:= .type "list",data:= .seq its'.toArray c}:=by
  rw[Heap.get?_update_self f ho (by rw[B]<;>rfl),B]
 refine I.write (x:=p) (e:=p) (by rw[h];trivial) (.inl rfl) (λb u J q=>(Heap.get?_update_other _ _ (Ne.symm J)).trans q) ⟨_,e⟩ ?_
 exact⟨F,its',c,r,e⟩
def CN:V->V->V->Hp->(Hp->Prop)->Prop:=λo i v H Q=>∃p xs k j,o=.ref p/\i=.int k/\H p=some (.lst xs)/\xg xs.length k=some j/\Q (upd H p (.lst (xs.set j v)))
theorem set_list:DL X CN:=by
 intro pins s σ H o i v ov iv u Q I Y Z rv h;obtain⟨p,xs,k,j,rfl,rfl,B,hj,q⟩:=h;cases Y;obtain⟨t,rfl⟩:=Z;obtain⟨its,n,r,ho,hz⟩:=I.lst B;obtain⟨h1,h2,J,F⟩:=rW hj;have c:=r.length;have hn:=m4
 have U:Inv X pins σ (upd H p (.lst (xs.set j v))) {s with heap:=s.heap.update p (Obj.mapSeq (·.setIfInBounds j u))}:=
  I.lstUpd B ho (qi its n j u) (r.set rv j) (by rw[aF];exact hz) s.toks
 by_cases h0:0<=k
 ·have hk:k.toNat=j:=by rw[seqIndex_of h0 F] at h1;exact ai h1
  exact PySem.W.ki_setAt ho h0 (by omega) (by rw[List.size_toArray,<-c];exact F) (by rw[hk];exact⟨_,U,q⟩)
 ·have hk:(k+(its.toArray.size:Int)).toNat=j:=by
   rw[seqIndex_neg (by omega) J] at h1
   rw[List.size_toArray,<-c];exact ai h1
  exact PySem.W.ki_setBack ho (by omega) (by rw[List.size_toArray,<-c];exact J) (by omega) (by rw[hk];exact⟨_,U,q⟩)
theorem mS(lo hi:Option Int)(n:Nat):(sliceBounds lo hi none n).1=((HT.cG n 0 lo:Nat):Int)/\(sliceBounds lo hi none n).2.1=((HT.cG n n hi:Nat):Int)/\(sliceBounds lo hi none n).2.2=1:=by
 refine⟨?_,?_,rfl⟩
 ·cases lo with
  |none=>simp[sliceBounds,HT.cG]
  |some i=>
   simp only[sliceBounds,HT.cG,Option.getD_none,show(1:Int)>0 by decide,if_true]
   by_cases h:i<0
   ·simp only[h,if_true]<;>omega
   ·simp only[h,if_false]<;>omega
 ·cases hi with
  |none=>simp[sliceBounds,HT.cG]
  |some i=>
   simp only[sliceBounds,HT.cG,Option.getD_none,show(1:Int)>0 by decide,if_true]
   by_cases h:i<0
   ·simp only[h,if_true]<;>omega
   ·simp only[h,if_false]<;>omega
theorem lm(its:List Value)(lo hi:Option Int):slicePick its.toArray lo hi none=((its.drop (HT.cG its.length 0 lo)).take (HT.cG its.length its.length hi - HT.cG its.length 0 lo)).toArray:=by obtain⟨h1,B,c⟩:=mS lo hi its.toArray.size;unfold slicePick;rw[h1,B,c];simp only[sliceRange_one,pick_run,List.size_toArray]<;>rfl
def Ew(K:aA):V->Option Int->Option Int->Hp->VK->Prop:=λx lo hi H Q=>∃a xs,x=.ref a/\dD K H a xs/\∀p,H p=none->Q (.ref p) (upd H p (.lst (pq xs lo hi)))
theorem xB:DZ X (Ew X.K):=by
 intro pins s σ H x v vl vu lo hi sl Q I F hs U J h;obtain⟨a,xs,rfl,Z,q⟩:=h;cases F;obtain⟨its,r,B,Y⟩:=I.list Z;have c:=r.length;refine⟨"list",_,slot_list_getitem.lookup,B.isList.typeIs,?_⟩;refine wpAny_getItem_list_slice B.isList hs U J .none (by simp) ?_ (by rw[List.size_toArray]<;>omega)
 rw[lm,<-c];refine⟨.ref s.heap.objs.size,_,I.laid (t':=s.toks) (o:= .lst (pq xs lo hi)) (λb ob q=>ae _ q) (ac _) ?_,rfl,q _ (I.hok.fresh (ac _))⟩;exact⟨aR (jt xs lo hi) Y,_,0,(r.drop (HT.cG xs.length 0 lo)).take (HT.cG xs.length xs.length hi - HT.cG xs.length 0 lo),aq _ rfl⟩
noncomputable def cV:V->Bool
 | .non=>true
 | .bl _=>true
 | .int _=>true
 | .str _=>true
 |_=>false
noncomputable def nL:V->V->Bool
 | .non,.non=>true
 | .bl a,.bl b=>a==b
 | .bl a,.int b=>(if a then 1 else 0)==b
 | .int a,.bl b=>a==(if b then 1 else 0)
 | .int a,.int b=>a==b
 | .str a,.str b=>a==b
 |_,_=>false
theorem Br{A:Around}{y x:V}{u v:Value}(B:RelV y u)(c:RelV x v)(I:cV y=true)(F:cV x=true):SeqAt.EqAt A s u v (nL y x):=by
 cases y with
 |non=>
  cases B;cases x with
  |non=>cases c;exact SeqAt.EqAt.same _
  |bl b=>cases c;exact SeqAt.EqAt.none_bool b
  |int b=>obtain⟨t,rfl⟩:=c;exact SeqAt.EqAt.none_int b t
  |str b=>obtain⟨t,rfl⟩:=c;exact SeqAt.EqAt.none_str b t
  |_=>exact kK F
 |bl a=>
  cases B;cases x with
  |non=>cases c;exact SeqAt.EqAt.bool_none a
  |bl b=>cases c;exact SeqAt.EqAt.bool_bool a b
  |int b=>obtain⟨t,rfl⟩:=c;exact SeqAt.EqAt.bool_int a b t
  |str b=>obtain⟨t,rfl⟩:=c;exact SeqAt.EqAt.bool_str a b t
  |_=>exact kK F
 |int a=>
  obtain⟨t',rfl⟩:=B;cases x with
  |non=>cases c;exact SeqAt.EqAt.int_none a t'
  |bl b=>cases c;exact SeqAt.EqAt.int_bool a t' b
  |int b=>obtain⟨t,rfl⟩:=c;exact SeqAt.EqAt.int_int a t' b t
  |str b=>obtain⟨t,rfl⟩:=c;exact SeqAt.EqAt.int_str a t' b t
  |_=>exact kK F
 |str a=>
  obtain⟨t',rfl⟩:=B;cases x with
  |non=>cases c;exact SeqAt.EqAt.str_none a t'
  |bl b=>cases c;exact SeqAt.EqAt.str_bool a t' b
  |int b=>obtain⟨t,rfl⟩:=c;exact SeqAt.EqAt.str_int a t' b t
  |str b=>obtain⟨t,rfl⟩:=c;exact SeqAt.EqAt.str_str a t' b t
  |_=>exact kK F
 |_=>exact kK I
theorem nC:fO X (.builtin "len") (λxs H Q=>∃p ys,xs=[.ref p]/\(dD X.K H p ys∨fP X.K H p ys)/\Q (.int ys.length) H):=by
 intro pins s σ H xs us Q I r h;obtain⟨p,ys,rfl,B,q⟩:=h;obtain⟨u,rfl,U⟩:=vals1 r;cases U;have Z:=m4;rcases B with B|B
 ·obtain⟨its,F,J,Y⟩:=I.list B;have c:=F.length;exact Calls.call_len_list J.isList (by simp only[List.size_toArray]<;>omega) ⟨.int ys.length,H,I.tok _,⟨s.toks+1,by rw[List.size_toArray,c]⟩,q⟩
 ·obtain⟨its,F,J,Y⟩:=I.tuple B;have c:=F.length;exact len_tuple J (by simp only[List.size_toArray]<;>omega) ⟨.int ys.length,H,I.tok _,⟨s.toks+1,by rw[List.size_toArray,c]⟩,q⟩
theorem nA:fO X (.type "list") (λxs H Q=>∃p ys,xs=[.ref p]/\(dD X.K H p ys∨fP X.K H p ys)/\∀l,H l=none->Q (.ref l) (upd H l (.lst ys))):=by
 intro pins s σ H xs us Q I r h;obtain⟨p,ys,rfl,J,q⟩:=h;obtain⟨u,rfl,rx⟩:=vals1 r;cases rx
 have fin:∀(its:List Value),bn ys its->ys.length<=sizeLine->∀(h':Heap)(c':Nat),(∀b o',s.heap.get? b=some o'->h'.get? b=some o')->
   h'.get? s.heap.objs.size=some {cls:= .type "list",dict:=none,data:= .seq its.toArray c',slots:= #[]}->EP X pins σ Q (.ref s.heap.objs.size) {s with heap:=h'}:=λits c F h' c' B e=>
  ⟨.ref s.heap.objs.size,_,I.laid (t':=s.toks) B (ac _) (show cj X.prog X.w _ h' _ (.lst ys) from⟨F,its,c',c,e⟩),rfl,q _ (I.hok.fresh (ac _))⟩
 rcases J with J|J
 ·obtain⟨its,c,Y,F⟩:=I.list J;have U:=c.length;obtain⟨o,ho,Z,n,hd⟩:=Y.isList;exact call_list_seq p (.inl rfl) ho Z hd (λh' c' B e=>fin its c F h' c' B e) (by simp only[List.size_toArray]<;>omega)
 ·obtain⟨its,c,Y,F⟩:=I.tuple J;have U:=c.length;obtain⟨o,ho,Z,n,hd⟩:=Y;exact call_list_seq p (.inr rfl) ho Z hd (λh' c' B e=>fin its c F h' c' B e) (by simp only[List.size_toArray]<;>omega)
theorem gV:fO X (.type "tuple") (λxs H Q=>∃p ys,xs=[.ref p]/\((dD X.K H p ys/\∀l,H l=none->Q (.ref l) (upd H l (.tup ys)))∨(fP X.K H p ys/\Q (.ref p) H))):=by
 intro pins s σ H xs us Q I r h;obtain⟨p,ys,rfl,h⟩:=h;obtain⟨u,rfl,Y⟩:=vals1 r;cases Y;rcases h with⟨hq,q⟩|⟨hq,q⟩
 ·obtain⟨its,c,B,F⟩:=I.list hq;have J:=c.length;refine call_tuple_list B.isList (λh' Z=>?_) (by simp only[List.size_toArray]<;>omega)
  have U:Inv X pins σ H {s with heap:=h'}:=I.kept (t':=s.toks) Z
  have I2:Inv X pins σ (upd H h'.objs.size (.tup ys)) {s with heap:=h'.push {cls:= .type "tuple",data:= .seq its.toArray}}:=
   U.laid (t':=s.toks) (λb o e=>ae _ e) (ac _) (show cj X.prog X.w _ _ _ (.tup ys) from⟨F,its,c,lG.new _ _⟩)
  exact⟨.ref h'.objs.size,_,I2,rfl,q _ (U.hok.fresh (ac _))⟩
 ·obtain⟨its,c,B,F⟩:=I.tuple hq;exact call_tuple_same B ⟨.ref p,H,I,rfl,q⟩
def D5(K:aA)(T:String)(x:V)(H:Hp):Prop:=match x with
 | .str _=>T= "str"
 | .int _=>T= "int"
 | .ref p=>(T= "list" /\∃xs,dD K H p xs)∨(T= "tuple" /\∃o,K.lookup p=some o/\o.cls=.type "tuple" /\o.dict=none)∨
   (T= "dict" /\((∃kvs,H p=some (.dK kvs))∨∃kvs,H p=some (.dT kvs)))∨(T= "set" /\∃S n,H p=some (.set S n))
 |_=>False
theorem uA{σ:St}{H:Hp}{T:String}{x:V}{v:Value}(I:Inv X pins σ H s)(r:RelV x v)(ty:D5 X.K T x H):
  s.TypeIs v T/\∀a,v=.ref a->∃J,s.heap.get? a=some J/\J.dict=none:=by
 cases x with
 |str z=>obtain⟨t,rfl⟩:=r;cases(show T= "str" from ty);exact⟨typeIs_str s z t,λ_ e=>nomatch e⟩
 |int i=>obtain⟨t,rfl⟩:=r;cases(show T= "int" from ty);exact⟨typeIs_int s i t,λ_ e=>nomatch e⟩
 |ref p=>
  cases r;rcases ty with⟨rfl,xs,hq⟩|⟨rfl,o,hk,hc,hd⟩|⟨rfl,hk⟩|⟨rfl,S,n,hk⟩
  ·obtain⟨its,_,F,_⟩:=I.list hq;refine⟨F.isList.typeIs,λa e=>?_⟩;cases e;obtain⟨o,n,e,c,hd,_⟩:=F;exact⟨o,e,hd⟩
  ·refine⟨⟨o,I.kIn p o hk,hc⟩,λa e=>?_⟩;cases e;exact⟨o,I.kIn _ o hk,hd⟩
  ·have z:∃o,s.heap.get? p=some o/\o.ExactDict:=by
    rcases hk with⟨kvs,hk⟩|⟨kvs,hk⟩
    ·obtain⟨_,_,_,_,o,_,_,e,ex,_⟩:=I.hok p _ hk;exact⟨o,e,ex⟩
    ·obtain⟨_,_,_,_,o,_,_,e,ex,_⟩:=I.hok p _ hk;exact⟨o,e,ex⟩
   obtain⟨o,e,ex⟩:=z;refine⟨⟨o,e,ex.1⟩,λa B=>?_⟩;cases B;exact⟨o,e,ex.2.1⟩
  ·obtain⟨o,_,_,_,e,ex,_⟩:=I.hok p _ hk;refine⟨⟨o,e,ex.1⟩,λa B=>?_⟩;cases B;exact⟨o,e,ex.2.1⟩
 |_=>exact False.elim ty
def El(K:aA)(T:String)(r:V->List V->Hp->VK->Prop)(to:TE):TE:=λσ H Q=>to σ H λx H1=>D5 K T x H1/\r x [] H1 Q
def Fs(K:aA)(T:String)(r:V->List V->Hp->VK->Prop)(to:TE)(t:TA):TE:=λσ H Q=>to σ H λx H1=>D5 K T x H1/\t σ H1 λxs H2=>r x xs H2 Q
variable{o e:Expr}{es:List Expr}{to:TE}{t:TA}{name:Str}{apos cpos:Pos}{T id:String}{r:V->List V->Hp->VK->Prop}
theorem vO(Y:PlainAttrs T)(slot:Slot T name id)(B:typeOf (.builtin id)=pure (.type "method_descriptor"))(hm:Fj X id r)(ho:PE X o to)
  (c:attributeBase o name X.env (eval o X.env)=eval o X.env:=by rfl)(hline:(apos.endLine==cpos.line)=true:=by rfl):PE X (.Call (.Attribute o name apos) [] [] cpos) (El X.K T r to):=by
 intro pins s σ H Q I h;refine wpAny_Call_method0_late c hline (bW (ho pins s σ H _ I h) λv U Z=>?_);obtain⟨x,H1,J,F,ty,q1⟩:=Z;obtain⟨h1,h2⟩:=uA J F ty;exact⟨T,id,Y,slot,B,h1,h2,Calls.callWith_builtin rfl (PySem.evalArgs_none (hm pins U σ H1 x [] v [] Q J F .nil q1))⟩
theorem vP(pa:PlainAttrs T)(slot:Slot T name id)(B:typeOf (.builtin id)=pure (.type "method_descriptor"))(hm:Fj X id r)(ho:PE X o to)(ha:PA X (e::es) t)
  (c:attributeBase o name X.env (eval o X.env)=eval o X.env:=by rfl)
  (hfew:((backTo cpos (starEach (e::es) X.env)).all (λx=> !x.1)&&(backToKw cpos (keywordEach [] X.env)).all (λx=>x.1.isSome)
   &&decide ((e::es).length+([]:List Keyword).length+(if([]:List Keyword).isEmpty then 0 else 1)<30))=true:=by rfl)
  (hline:(apos.endLine==cpos.line)=true:=by rfl)(hs:starEach (e::es) X.env=(false,eval e X.env)::starEach es X.env:=by rfl)(hplain:(backTo cpos (starEach es X.env)).any (·.1)=false:=by rfl):
  PE X (.Call (.Attribute o name apos) (e::es) [] cpos) (Fs X.K T r to t):=by
 intro pins s σ H Q I h;refine wpAny_Call_method_late c hfew hline rfl (bW (ho pins s σ H _ I h) λv Z hp=>?_);obtain⟨x,H1,U,F,ty,q1⟩:=hp;obtain⟨h1,h2⟩:=uA U F ty;refine⟨T,id,pa,slot,B,h1,h2,?_⟩;have J:=ha cpos pins Z σ H1 _ U q1;rw[hs] at J ⊢;refine Calls.callWith_builtin (by show(false||(backTo cpos (starEach es X.env)).any (·.1))=false;rw[hplain]<;>rfl) (Calls.evalArgs_plain ?_)
 exact bW J λus Y ⟨vs,H2,I2,r2,q2⟩=>hm pins Y σ H2 x vs v us Q I2 F r2 q2
end
def DO(X:Cx)(id:String)(r:V->List V->Hp->VK->Prop):Prop:=
 ∀(pins:List (Addr×Obj))(s:Shared)(σ:St)(H:Hp)(x:V)(xs:List V) (v:Value) (us:List Value)(Q:VK),Inv X pins σ H s->RelV x v->bn xs us->r x xs H Q->
  wpAny (model X.prog X.w) X.A (call (.builtin id) (v::us)) (EP X pins σ Q) X.xe s
theorem bn.one:∀{x:V}{us:List Value},bn [x] us->∃u,us=[u]/\RelV x u
 |_,_,.cons r .nil=>⟨_,rfl,r⟩
theorem bn.zero:∀{us:List Value},bn [] us->us=[]
 |_,.nil=>rfl
theorem bn.dropLast(h:bn xs us):bn xs.dropLast us.dropLast:=by
 induction h with
 |nil=>exact .nil
 |cons r t ih=>
  cases t with
  |nil=>exact .nil
  |cons q t'=>exact .cons r ih
theorem bn.eraseIdx:∀{xs:List V}{us:List Value}(i:Nat),bn xs us->bn (xs.eraseIdx i) (us.eraseIdx i)
 |_,_,_,.nil=>.nil
 |_,_,0,.cons _ t=>t
 |_,_,i+1,.cons r t=>.cons r (bn.eraseIdx i t)
theorem qy{α:Type}(l:List α):l.eraseIdx (l.length - 1)=l.dropLast:=by
 induction l with
 |nil=>rfl
 |cons a r ih=>
  cases r with
  |nil=>rfl
  |cons b r=>
   have e:(a::b::r).length - 1=((b::r).length - 1)+1:=by have h1:(a::b::r).length=r.length+2:=rfl;have c:(b::r).length=r.length+1:=rfl;omega
   rw[e,List.eraseIdx_cons_succ,ih]
   all_goals rfl
theorem lU{α:Type}:∀(l:List α)(i:Nat),(l.eraseIdx i).length<=l.length
 |[],_=>ac _
 |_::_,0=>Nat.le_succ _
 |_::r,i+1=>Nat.succ_le_succ (lU r i)
section
variable{X:Cx}{pins:List (Addr×Obj)}{σ:St}{H:Hp}{s:Shared}{l:Addr}{xs ys:List V}
theorem Inv.lset{f:Array Value->Array Value}(I:Inv X pins σ H s)(Y:H l=some (.lst xs))
  (e:s.heap.get? l=some {cls:= .type "list",data:= .seq its.toArray n}) (J:f its.toArray=its'.toArray)(B:bn ys its')(c:ys.length<=sizeLine):
  Inv X pins σ (upd H l (.lst ys)) {s with heap:=s.heap.update l (Obj.mapSeq f),toks:=t'}:=by
 have q:=PySem.IsL.update e f;rw[J] at q;refine I.write (x:=l) (e:=l) (by rw[Y];exact trivial) (.inl rfl) (λb' u U F=>(Heap.get?_update_other s.heap (Obj.mapSeq f) (Ne.symm U)).trans F) ⟨_,q⟩ ?_
 exact⟨c,its',_,B,q⟩
theorem Inv.lnew(I:Inv X pins σ H s)(B:bn ys its)(c:ys.length<=sizeLine):
  Inv X pins σ (upd H s.heap.objs.size (.lst ys)) {s with heap:=s.heap.push {cls:= .type "list",data:= .seq its.toArray},toks:=t'}:=
 I.laid (λ_ _ q=>ae _ q) (ac _) ⟨c,its,0,B,aq _ rfl⟩
theorem Inv.fresh(I:Inv X pins σ H s):H s.heap.objs.size=none:=I.hok.fresh (ac _)
theorem Inv.lstM(I:Inv X pins σ H s)(c:H l=some (.lst xs)):xs.length<=sizeLine/\∃(its:List Value)(n:Nat),bn xs its/\xs.length=its.length/\s.heap.get? l=some {cls:= .type "list",data:= .seq its.toArray n}:=by obtain⟨z,its,n,r,e⟩:=I.hok l _ c;exact⟨z,its,n,r,r.length,e⟩
theorem vX(h:n<=sizeLine):Builtin.List.listTooLong n=false:=by
 unfold Builtin.List.listTooLong;exact decide_eq_false (by omega)
end
section
variable{X:Cx}
def xR:V->List V->Hp->VK->Prop:=λx vs H Q=>∃l xs y,x=.ref l/\vs=[y]/\H l=some (.lst xs)/\xs.length<sizeLine/\Q .non (upd H l (.lst (xs++[y])))
theorem i5:DO X "list.append" xR:=by
 intro pins s σ H x vs v us Q I B rv h;obtain⟨l,xs,y,rfl,rfl,c,U,q⟩:=h;cases B;obtain⟨u,rfl,J⟩:=rv.one;obtain⟨z,its,n,r,Y,e⟩:=I.lstM c;refine call_meets F.slot_list_append ⟨_,e,rfl⟩ F.entry_list_append (F.args_list_append_2 _ _) (PySem.list_append l its.toArray n u (by rw[List.size_toArray];omega)) ⟨e,?_⟩
 refine⟨.non,_,I.lset (its':=its++[u]) c e (by simp) (r.append (.cons J .nil)) ?_,rfl,q⟩
 rw[aB,List.length_singleton];omega
def xQ:V->List V->Hp->VK->Prop:=λx vs H Q=>∃l b xs zs,x=.ref l/\vs=[.ref b]/\H l=some (.lst xs)/\H b=some (.lst zs)/\xs.length+zs.length<=sizeLine/\Q .non (upd H l (.lst (xs++zs)))
theorem sX:DO X "list.extend" xQ:=by
 intro pins s σ H x vs v us Q I J rv h;obtain⟨l,b,xs,zs,rfl,rfl,B,hB,hz,q⟩:=h;cases J;obtain⟨u,rfl,U⟩:=rv.one;cases U;obtain⟨z,its,n,r,hl,e⟩:=I.lstM B;obtain⟨z2,its2,Z,Y,hl2,e2⟩:=I.lstM hB;have hsz:its.toArray.size+its2.toArray.size<=sizeLine:=by rw[List.size_toArray,List.size_toArray];omega
 have c:¬(!its.toArray.isEmpty&&Builtin.List.listTooLong (its.toArray.size+its2.toArray.size))=true:=by rw[vX hsz,Bool.and_false];exact aH
 refine call_meets F.slot_list_extend ⟨_,e,rfl⟩ F.entry_list_extend (F.args_list_extend_2 _ _)
  (AutoSeq1.list_extend_list_list_0 l its.toArray n b its2.toArray Z c (by rw[List.size_toArray];omega) (by omega)) ⟨e,e2,?_⟩
 refine⟨.non,_,I.lset (its':=its++its2) B e (by simp) (r.append Y) ?_,rfl,q⟩
 rw[aB];omega
def Ez:V->List V->Hp->VK->Prop:=λx vs H Q=>∃l xs y,x=.ref l/\vs=[]/\H l=some (.lst xs)/\xs[xs.length - 1]? =some y/\Q y (upd H l (.lst xs.dropLast))
theorem A8:DO X "list.pop" Ez:=by
 intro pins s σ H x vs v us Q I U rv h;obtain⟨l,xs,y,rfl,rfl,J,Z,q⟩:=h;cases U;have B:=rv.zero;subst B;obtain⟨z,its,n,r,hl,e⟩:=I.lstM J;obtain⟨u,hu,Y⟩:=r.get Z
 have c:its.toArray[its.toArray.size - 1]? =some u:=by show its.toArray[its.length - 1]? =some u;rw[<-Array.getElem?_toList,<-hl];exact hu
 refine call_meets F.slot_list_pop ⟨_,e,rfl⟩ F.entry_list_pop (F.args_list_pop_1 _) (MeetsSeq.list_pop_last l its.toArray n u c (by rw[List.size_toArray];omega)) ⟨e,?_⟩
 refine⟨y,_,I.lset (its':=its.dropLast) J e ?_ r.dropLast ?_,Y,q⟩
 ·show its.toArray.eraseIdxIfInBounds (its.toArray.size - 1)=its.dropLast.toArray;rw[List.size_toArray,List.eraseIdxIfInBounds_toArray,qy]
 ·rw[List.length_dropLast];omega
def As:V->List V->Hp->VK->Prop:=λx vs H Q=>∃l xs i k y,x=.ref l/\vs=[.int i]/\H l=some (.lst xs)/\ -(2^63)<=i/\i<2^63/\seqIndex? i xs.length=some k/\xs[k]? =some y/\Q y (upd H l (.lst (xs.eraseIdx k)))
theorem v0:DO X "list.pop" As:=by
 intro pins s σ H x vs v us Q I J rv h;obtain⟨l,xs,i,k,y,rfl,rfl,B,h1,h2,hk,Y,q⟩:=h;cases J;obtain⟨u,rfl,U⟩:=rv.one;obtain⟨t,rfl⟩:=U;obtain⟨z,its,n,r,hl,e⟩:=I.lstM B;obtain⟨w,Z,c⟩:=r.get Y
 refine call_meets F.slot_list_pop ⟨_,e,rfl⟩ F.entry_list_pop (F.args_list_pop_2 _ _)
  (MeetsSeq.list_pop_at l its.toArray n i t k w (fitsIndex_both h1 h2) (by rw[List.size_toArray,<-hl];exact hk) (by rw[<-Array.getElem?_toList];exact Z) (by rw[List.size_toArray];omega)) ⟨e,?_⟩
 refine⟨y,_,I.lset (its':=its.eraseIdx k) B e ?_ (r.eraseIdx k) ?_,c,q⟩
 ·show its.toArray.eraseIdxIfInBounds k=(its.eraseIdx k).toArray;rw[List.eraseIdxIfInBounds_toArray]
 ·have:=lU xs k;omega
def Aw:V->List V->Hp->VK->Prop:=λx vs H Q=>∃l xs,x=.ref l/\vs=[]/\H l=some (.lst xs)/\Q .non (upd H l (.lst []))
theorem v3:DO X "list.clear" Aw:=by
 intro pins s σ H x vs v us Q I J rv h;obtain⟨l,xs,rfl,rfl,B,q⟩:=h;cases J;have c:=rv.zero;subst c;obtain⟨z,its,n,r,U,e⟩:=I.lstM B;refine call_meets F.slot_list_clear ⟨_,e,rfl⟩ F.entry_list_clear (F.args_list_clear_1 _) (AutoSeq1.list_clear_list_0 l its.toArray n (by rw[List.size_toArray];omega)) ⟨e,?_⟩
 exact⟨.non,_,I.lset (its':=[]) (ys:=[]) B e rfl .nil (Nat.zero_le _),rfl,q⟩
def EC:R2:=λx y H Q=>∃l b xs zs,x=.ref l/\y=.ref b/\H l=some (.lst xs)/\H b=some (.lst zs)/\xs.length+zs.length<=sizeLine/\∀p,H p=none->Q (.ref p) (upd H p (.lst (xs++zs)))
theorem AY:nJ X (binaryOp .Add) EC:=by
 intro pins s σ H x y v u Q I B c h;obtain⟨l,b,xs,zs,rfl,rfl,U,Y,hz,q⟩:=h;cases B;cases c;obtain⟨z,its,n,r,hl,e⟩:=I.lstM U;obtain⟨z2,its2,n2,F,J,e2⟩:=I.lstM Y;refine PySem.P.add_list e e2 ?_ (by rw[List.size_toArray,List.size_toArray];omega)
 have Z:its.toArray++its2.toArray=(its++its2).toArray:=by simp
 rw[Z];exact⟨.ref _,_,I.lnew (t':=s.toks) (r.append F) (by rw[aB];omega),rfl,q _ I.fresh⟩
end
section
end
section
end
end L2
namespace Att
open PySem PySem.W PySem.Calls PyProof.Rows
theorem jB{P:Params}{h:Heap}:∀(ns:List Int)(vs:List Value),WellAll P h vs (ns.map WData.int)->IntsAre vs ns:=by
 intro ns
 induction ns with
 |nil=>intro vs w;rw[List.map_nil] at w;cases w;exact .nil
 |cons n ns ih=>
  intro vs w;rw[List.map_cons] at w;cases w with
  |cons a b=>cases a;exact .cons _ _ (ih _ b)
theorem sK{l:OpenLaw}{n:Nat}(hn:l.most=some n){P:Params}{h:Heap}{args:List WData}{vals:List Value}
  (c:l.row.toRowW.claim.pre args=true)(J:WellAll P h vals args):
  ∃a vs ns,vals=[Value.ref a]/\args=[WData.list (ns.map WData.int)]/\h.get? a=some {cls:= .type "list",data:= .seq vs.toArray}/\IntsAre vs ns/\ns.length<=n:=by
 have U:WShape.hasAll [] args [.list .int]=true:=(pre_splitW c).1;have Y:l.pre.holds [] {args:=args}=true:=(pre_splitW c).2;obtain⟨d,r,rfl,h1,h2⟩:=hasAllW_cons U;obtain rfl:=hasAllW_nil h2;obtain⟨xs,rfl,h3⟩:=hasW_list h1;obtain⟨ns,rfl⟩:=items_int h3
 have B:ns.length<=n:=by
  unfold OpenLaw.pre at Y
  have I:(WTm.not (.lt (.lit (.int (n:Int))) (.len (.arg 0)))).holds [] {args:=[.list (ns.map .int)]}=true:=by have I:=(holds_andW Y).1;rw[hn] at I;exact I
  have F:=condW_of I (w_not (w_lt w_lit (w_len_list (w_arg rfl))));rw[List.length_map] at F;refine Nat.le_of_not_lt λq=>?_;have Z:(n:Int)<((ns.length:Nat):Int):=by omega
  first
   |(rw[decide_eq_true Z] at F;exact absurd F (by decide))
   |(simp at F;omega)
 cases J with
 |cons w1 w2=>
  cases w2;cases w1 with
  |list ho hall=>exact⟨_,_,ns,rfl,rfl,ho,jB ns _ hall,B⟩
theorem sO(l:OpenLaw)(args:List WData):l.row.toRowW.claim.post args (.bool true) args=true:=
 postW_of (r:=l.row.toRowW) (X:=(true==true))
  (show WShape.has [] (.bool true) .bool=true by first|rfl|decide|simp[WShape.has,WShape.arms,WShape.armsAll])
  (show(WTm.eq .res (.lit (.bool true))).value [] {args:=args,res:=some (.bool true),after:=args}=some (.bool (true==true)) from w_eq_bool (w_res rfl) w_lit) rfl
theorem pF{l:OpenLaw}{n:Nat}{q:Program}{loose:List Str}{XP:(Str->Option Value)->Heap->Prop}{YP:World->Heap->Prop}{d:DefRec}
  (hn:l.most=some n)(hdf:d.params.defaults=[])
  (call:∀(w:World)(s₀ s₁:Shared)(mg mb:Str->Option Value)(U:Addr)(o:Obj)(pm Z B:Value)(a:Addr)(vs:List Value) (ns:List Int),
   Ground q loose [] XP w s₀ mg mb s₁.heap->YP w s₁.heap->
   s₁.heap.get? U=some o->o.data=.func (docDef d.name d.params d.body d.scope pm Z B)->s₁.heap.CodeRec Z d.name->mg d.name=some (.ref U)->
   s₁.heap.get? a=some {cls:= .type "list",data:= .seq vs.toArray}->IntsAre vs ns->ns.length<=n->s₁.gens= #[]->
   codeAny (model l.prog w) callerA (.call (.ref U) ⟨[.ref a],[]⟩) (λr s'=>r=.ok (.ret (.bool true))/\OldK s₁.heap s'.heap/\s'.os=s₁.os/\AllBare s'.gens) s₁):
  WalkO q loose XP YP l.row.toRowW d [] (λf vs=>PySem.call f vs):=by
 intro w s₀ s₁ mg mb G Y U o pm Z B dV kV ho hd hcd hD hmg hg args vals as F hlay hrd hwl hlo;obtain rfl:dV=.none:=Dflts.none hD hdf;obtain rfl:kV=.none:=Dflts.noKw hD;obtain⟨a,vs,ns,rfl,rfl,I,c,J⟩:=sK hn F hwl;refine enter_call (codeAny_mono (call w s₀ s₁ mg mb U o pm Z B a vs ns G Y ho (fd_plain hd) hcd hmg I c J hg) λr s' hq=>?_);obtain⟨rfl,h2,h3,h4⟩:=hq;exact⟨.inl ⟨.bool true,.bool true,[],rfl,λ_=>rfl,.bool true,sO l _,λ_=>⟨List.Pairwise.nil,λ_ hm=>(nomatch hm)⟩⟩,h2,h3,h4⟩
section
end
end Att
namespace L2
open PySem PySem.Spec PyProof.Rows
variable{qual x:Str}{a f:Addr}{w:World}{P:Program}{u:Value}{y:V}{xs:List (List Key×Addr×Value)}{kvs:List (List Key×V)}{H H':Hp}{Q:Value->Shared->Prop}{X:Cx}
theorem iR:∀{vs:List Value}{ns:List Int},IntsAre vs ns->bn (ns.map V.int) vs
 |_,_,.nil=>.nil
 |_,_,.cons n t h=>.cons ⟨t,rfl⟩ (iR h)
def yW(H:Hp):Prop:=∀b,H b=none∨∃o xs,H b=some (.frz o (.lst xs))
theorem v7{K:aA}{mg mb:Str->Option Value}{CX:xf}{k:Nat}{fa:Addr}{fd:FuncData}{sp:Sp}{s₁:Shared}{vs:List Value}{ns:List Int}
  (KX:K.In s₁.heap)(Z:s₁.heap.Ns mainGlobals mg)(c:s₁.heap.Ns builtinsNs mb)(hbb:∀x:Str,x≠ "__name__" ->mb x=bootBuiltins x) (hlim:s₁.heap.NoLimit)(hg:s₁.gens= #[])
  (ha:s₁.heap.get? a=some {cls:= .type "list",data:= .seq vs.toArray}) (hi:IntsAre vs ns)(hl:ns.length<=sizeLine)(hr:Room k callerA)
  (F:∀base:Heap,K.In base->base.Ns mainGlobals mg->FnOk P w K mg base CX k fa fd [x] sp)(I:∀(s:Shared)(u:Value),BindsTo s fd ⟨[u],[]⟩ [(x,u)])
  (hsp:∀H:Hp,yW H->dD K H a (ns.map V.int)->sp [.ref a] H (λv _=>v=.bl true) λ_ _ _=>False)
  (hCX:∀H e s',CX [] H s₁ (λ_ _ _=>False) e s'->False):
  codeAny (model P w) callerA (.call (.ref fa) ⟨[.ref a],[]⟩) (λr s'=>r=.ok (.ret (.bool true))/\OldK s₁.heap s'.heap/\s'.os=s₁.os/\AllBare s'.gens) s₁:=by
 have rv:=iR hi;have lenV:=hi.length
 have core:∀H:Hp,yW H->dD K H a (ns.map V.int)->gX P w H s₁.heap->(∀b,H b≠none->b=a)->(H a≠none->K.lookup a=none)->
   codeAny (model P w) callerA (.call (.ref fa) ⟨[.ref a],[]⟩) (λr s'=>r=.ok (.ret (.bool true))/\OldK s₁.heap s'.heap/\s'.os=s₁.os/\AllBare s'.gens) s₁:=by
  intro H hO hS Y hA hK;have base_of:∀{b:Addr}{o:Obj},s₁.heap.get? b=some o->H b=none->(nh s₁.heap H).get? b=some o:=λe n=>wu e n
  have noA:∀{b:Addr}{o:Obj}{es:Array DictEntry}{ep:Nat},s₁.heap.get? b=some o->o.data=.dict es ep->H b=none:=λ{b o es ep} e d=>by
   cases q:H b with
   |none=>rfl
   |some u=>
    have e':b=a:=hA b (by rw[q];simp)
    subst e';rw[ha] at e;cases e;have d':Data.seq vs.toArray _=Data.dict es ep:=d;cases d'
  have B:∀{b:Addr}{m:Str->Option Value},s₁.heap.Ns b m->(nh s₁.heap H).Ns b m:=λ{b m} ⟨o,es,ep,e,d,r⟩=>⟨o,es,ep,base_of e (noA e d),d,r⟩
  have hKb:K.In (nh s₁.heap H):=λb o e=>base_of (KX b o e) (by
   cases q:H b with
   |none=>rfl
   |some u=>
    have e':b=a:=hA b (by rw[q];simp)
    subst e';rw[hK (by rw[q];simp)] at e;cases e)
  have hM:Mod K mg (nh s₁.heap H):=⟨hKb,B Z,⟨mb,B c,hbb⟩,let⟨mc,h1,h2⟩:=hlim;⟨mc,B h1,h2⟩⟩;have e0:Env0 P w K mg (nh s₁.heap H) callerA [] s₁ H:=⟨rfl,hM,λb o e=>yf e,Nat.le_of_eq (tD _ _),trivial,λb c=>absurd (show b∈([]:List Addr) from c) (by simp),Y,.of_eq hg⟩
  refine codeAny_mono ((F _ hKb (B Z)).run callerA [] s₁ H ⟨[.ref a],[]⟩ [.ref a] [.ref a] _ _ hr e0 (I s₁ (.ref a)) (.cons rfl .nil) (hsp H hO hS)) λr s' h=>?_;cases r with
  |error e=>exact(hCX H e s' h).elim
  |ok fl=>
   cases fl with
   |next=>exact False.elim h
   |brk=>exact False.elim h
   |cont=>exact False.elim h
   |ret u=>
    obtain⟨v,H',os,bare,un,U,r',q⟩:=h;have q':v=.bl true:=q;subst q';obtain rfl:u=Value.bool true:=r';refine⟨rfl,OldK.of_keep λb o e=>?_,os,bare⟩;cases q:H b with
    |none=>exact un.keep b o e q (by intro z;exact absurd (show b∈([]:List Addr) from z) (by simp)) (by simp)
    |some u=>
     rcases hO b with z|⟨ob,xs,z⟩
     ·rw[q] at z;cases z
     ·have z2:=un.frzs b ob _ z;obtain⟨e1,_⟩:=Y b _ z;obtain⟨e2,_⟩:=U b _ z2;rw[e] at e1;cases e1;exact e2
 cases hk:K.lookup a with
 |some o=>
  have e:=KX a o hk;rw[ha] at e;cases e;refine core (λ_=>none) (λ_=>.inl rfl) (.inr ⟨_,vs.toArray,_,hk,rfl,rfl,rfl,by rw[List.size_toArray,lenV];exact hl,by simpa using rv⟩) (λb u z=>by have J:(none:Option HO)=some u:=z;cases J) (λb z=>absurd rfl z) λz=>absurd rfl z
 |none=>
  refine core (λb=>if b=a then some (.frz {cls:= .type "list",data:= .seq vs.toArray} (.lst (ns.map V.int))) else none) (λb=>?_) (.inl (.inr ⟨{cls:= .type "list",data:= .seq vs.toArray},if_pos rfl⟩)) (λb u z=>?_) (λb z=>?_) λ_=>hk
  ·by_cases c:b=a
   ·exact .inr ⟨_,_,if_pos c⟩
   ·exact .inl (if_neg c)
  ·by_cases c:b=a
   ·have J:=(if_pos c).symm.trans z;cases J;subst c;exact⟨ha,by rw[List.length_map];exact hl,vs,_,rv,ha⟩
   ·have J:=(if_neg c).symm.trans z;cases J
  ·by_cases c:b=a
   ·exact c
   ·exact absurd (if_neg c) z
theorem xl{l:PySem.W.OpenLaw}{n k:Nat}{q:Program}{loose:List Str}{XP:(Str->Option Value)->Heap->Prop}{YP:World->Heap->Prop}{d:DefRec}{K:Params->aA}{CX:World->xf}{sp:World->Sp}
  (hn:l.most=some n)(Z:n<=sizeLine)(hdf:d.params.defaults=[])(hr:Room k callerA)
  (hY:∀(w:World)(h:Heap),YP w h->(K w.params).In h)
  (F:∀(w:World)(mg:Str->Option Value)(J:Addr)(h:Heap),(K w.params).In h->h.Ns mainGlobals mg->mg d.name=some (.ref J)->
   ∃fd:FuncData,(∀(s:Shared)(u:Value),BindsTo s fd ⟨[u],[]⟩ [(x,u)])/\
    ∀base:Heap,(K w.params).In base->base.Ns mainGlobals mg->FnOk l.prog w (K w.params) mg base (CX w) k J fd [x] (sp w))
  (U:∀(w:World)(H:Hp)(a:Addr)(ns:List Int),ns.length<=n->yW H->dD (K w.params) H a (ns.map V.int)->sp w [.ref a] H (λv _=>v=.bl true) λ_ _ _=>False)
  (hCX:∀(w:World)(H:Hp)(s:Shared)(e:Value)(s':Shared),CX w [] H s (λ_ _ _=>False) e s'->False):
  PySem.W.WalkO q loose XP YP l.row.toRowW d [] (λf vs=>PySem.call f vs):=by
 refine Att.pF hn hdf λw s₀ s₁ mg mb J o pm cd doc a vs ns G Y ho hd hcd hmg I B c hg=>?_;have KX:=hY w _ Y;obtain⟨fd,hb,hF⟩:=F w mg J _ KX G.T.g hmg;exact v7 KX G.T.g G.T.b G.T.builtins G.T.nolimit hg I B (aR c Z) hr hF hb (λH hO hS=>U w H a ns c hO hS) λH e s'=>hCX w H s₁ e s'
noncomputable def eP(s:Stmt):Arguments:=match s with
 | .FunctionDef _ a _ _ _ _ _ _ _ _=>a
 |_=>{posonlyargs:=[],args:=[],vararg:=none,kwonlyargs:=[],kw_defaults:=[],kwarg:=none,defaults:=[]}
noncomputable def dB(s:Stmt):List Stmt:=match s with
 | .FunctionDef _ _ b _ _ _ _ _ _ _=>b
 |_=>[]
noncomputable def bR(s:Stmt):Scope:=match s with
 | .FunctionDef _ _ _ _ _ _ sc _ _ _=>sc
 |_=>{kind:= .function,names:=[],isGenerator:=false,isCoroutine:=false}
abbrev E0:XK:=λ_ _ _=>False
structure Fun(K:aA)(x qual:Str)(st:Stmt)(f:Addr)(fd:FuncData):Prop where
 ex:∃(oc:Value)(od:Option Addr)(kV doc pm:Value)(an:Option Addr)(cdv ct:Value)(osl:Array (Option Value)),
  fd=PySem.W.fnOf x qual (eP st) (dB st) (bR st) .none kV doc pm an cdv ct/\K.lookup f=some ⟨oc,od,.func fd,osl⟩/\PySem.W.codeIn K cdv qual=true
 kp:PySem.W.keepIn K (.ref f)=true
section
variable{K:aA}
theorem Fun.binds{st:Stmt}{fd:FuncData}{ps:List Str}(F:Fun K x qual st f fd)
  (h:∀(kV c I:Value)(J:Option Addr)(B ct:Value)(us:List Value),us.length=ps.length->bindArgs (PySem.W.fnOf x qual (eP st) (dB st) (bR st) .none kV c I J B ct) ⟨us,[]⟩=pure (ps.zip us)):Binds K fd ps []:=by
 obtain⟨oc,Z,kV,c,I,J,B,ct,U,rfl,lk,Y⟩:=F.ex;exact .all (h kV c I J B ct)
theorem Bl{st:Stmt}{Z:Value}{Y U:Option Addr}{I:Array (Option Value)}{kV F J B ct:Value}(l:K.lookup f=some ⟨Z,Y,.func (PySem.W.fnOf x qual (eP st) (dB st) (bR st) .none kV F J U B ct),I⟩)
  (c:PySem.W.codeIn K B qual=true)(k:PySem.W.keepIn K (.ref f)=true):Fun K x qual st f (PySem.W.fnOf x qual (eP st) (dB st) (bR st) .none kV F J U B ct):=⟨⟨Z,Y,kV,F,J,U,B,ct,I,rfl,l,c⟩,k⟩
end
section
end
theorem EG{A B:Prop}(h:A):if true=true then A else B:=by rw[if_pos rfl];exact h
set_option maxHeartbeats 4000000
set_option linter.unusedVariables false
section
variable{κ:Type}[DecidableEq κ]
noncomputable def d9(kvs:List (κ×V))(k:κ):Option V:=(kvs.find? λkv=>decide (kv.1=k)).map (·.2)
noncomputable def putK(kvs:List (κ×V))(k:κ)(v:V):List (κ×V):=
 if(kvs.any λkv=>decide (kv.1=k))=true then kvs.map (λkv=>if kv.1=k then(kv.1,v) else kv) else kvs++[(k,v)]
theorem uu{k:κ}:d9 ([]:List (κ×V)) k=none:=rfl
theorem fW{p:κ×V}{r:List (κ×V)}{k:κ}(e:p.1=k):d9 (p::r) k=some p.2:=by simp[d9,List.find?_cons,e]
theorem d8{p:κ×V}{r:List (κ×V)}{k:κ}(e:¬p.1=k):d9 (p::r) k=d9 r k:=by simp[d9,List.find?_cons,e]
theorem j5(k:κ):∀kvs:List (κ×V),(kvs.any λkv=>decide (kv.1=k))=(d9 kvs k).isSome
 |[]=>rfl
 |p::r=>by
  rw[List.any_cons];by_cases e:p.1=k
  ·simp only[fW e,decide_eq_true e,Bool.true_or,Option.isSome_some]
  ·rw[d8 e,decide_eq_false e,Bool.false_or];exact j5 k r
theorem dE(kvs:List (κ×V))(k:κ)(v:V):(putK kvs k v).length<=kvs.length+1:=by
 unfold putK;split
 ·rw[List.length_map];omega
 ·rw[aB,List.length_cons,List.length_nil];omega
theorem vz{kvs:List (κ×V)}{k:κ}(v:V)(h:d9 kvs k=none):putK kvs k v=kvs++[(k,v)]:=by
 unfold putK;rw[j5,h];exact if_neg (by decide)
theorem fQ.isSome_eq{o:Option V}{u:Option Value}(r:fQ o u):o.isSome=u.isSome:=by
 cases o with
 |none=>cases u with
  |none=>rfl
  |some _=>exact(show False from r).elim
 |some _=>cases u with
  |none=>exact(show False from r).elim
  |some _=>rfl
theorem fQ.getD{o:Option V}{u:Option Value}{d:V}{d':Value}(r:fQ o u)(c:RelV d d'):RelV (o.getD d) (u.getD d'):=by
 cases o with
 |none=>cases u with
  |none=>exact c
  |some _=>exact(show False from r).elim
 |some _=>cases u with
  |none=>exact(show False from r).elim
  |some _=>exact r
theorem KV.val{kvs:List (κ×V)}{vs:List (κ×Value)}(r:KV kvs vs)(k:κ):fQ (d9 kvs k) (valueAt vs k):=by
 unfold KV at r
 induction r with
 |nil=>exact True.intro
 | @cons p q ps qs h t ih=>
  obtain⟨h1,c⟩:=h;by_cases e:p.1=k
  ·have e':q.1=k:=h1.symm.trans e;have b:valueAt (q::qs) k=some q.2:=by simp[valueAt,List.find?_cons,e']
   rw[fW e,b];exact c
  ·have e':¬q.1=k:=λz=>e (h1.trans z);have b:valueAt (q::qs) k=valueAt qs k:=by simp[valueAt,List.find?_cons,e']
   rw[d8 e,b];exact ih
theorem KV.any{kvs:List (κ×V)}{vs:List (κ×Value)}(r:KV kvs vs)(k:κ):(kvs.any λkv=>decide (kv.1=k))=vs.any λkv=>decide (kv.1=k):=by
 unfold KV at r
 induction r with
 |nil=>rfl
 |cons h t ih=>rw[List.any_cons,List.any_cons,ih,h.1]
theorem KV.repl{kvs:List (κ×V)}{vs:List (κ×Value)}(r:KV kvs vs)(k:κ)(c:RelV y u):
  KV (kvs.map λkv=>if kv.1=k then(kv.1,y) else kv) (vs.map λkv=>if kv.1=k then(kv.1,u) else kv):=by
 unfold KV at r ⊢
 induction r with
 |nil=>exact .nil
 | @cons p q ps qs h t ih=>
  rw[List.map_cons,List.map_cons];refine .cons ?_ ih;obtain⟨h1,B⟩:=h;by_cases e:p.1=k
  ·rw[if_pos e,if_pos (h1.symm.trans e)];exact⟨h1,c⟩
  ·rw[if_neg e,if_neg (λz=>e (h1.trans z))];exact⟨h1,B⟩
theorem KV.put{kvs:List (κ×V)}{vs:List (κ×Value)}(r:KV kvs vs)(k:κ)(c:RelV y u):KV (putK kvs k y) (stored vs k u):=by
 unfold putK stored;rw[r.any k];by_cases e:(vs.any λkv=>decide (kv.1=k))=true
 ·rw[if_pos e,if_pos e];exact r.repl k c
 ·rw[if_neg e,if_neg e];exact Paired.snoc r ⟨rfl,c⟩
theorem KV.keys{kvs:List (κ×V)}{vs:List (κ×Value)}(r:KV kvs vs):kvs.map (·.1)=vs.map (·.1):=by
 unfold KV at r
 induction r with
 |nil=>rfl
 |cons h t ih=>rw[List.map_cons,List.map_cons,ih,h.1]
theorem KV.length{kvs:List (κ×V)}{vs:List (κ×Value)}(r:KV kvs vs):kvs.length=vs.length:=Paired.length r
end
theorem gQ{k:Key}(r:RelV (kV k) u):(bg P w).is k u=true:=by
 cases k with
 |inl i=>obtain⟨t,e⟩:=(show ∃t,u=Value.int i t from r);subst e;exact oB P w i t
 |inr x=>obtain⟨t,e⟩:=(show ∃t,u=Value.str x t from r);subst e;exact oA P w x t
theorem lY{P:Program}{w:World}:∀{ks:List Key}{us:List Value},bn (ks.map kV) us->ItemsAre (bg P w) ks us
 |[],_,r=>by rw[List.map_nil] at r;cases r;exact .nil
 |k::ks,_,r=>by
  rw[List.map_cons] at r;cases r with
  |cons h t=>exact .cons (gQ h) (lY t)
abbrev KT(H:Hp):List (List Key×V)->List (List Key×Addr×Value)->Prop:=Paired λp q=>p.1=q.1/\H q.2.1=some (.tup (p.1.map kV))/\RelV p.2 q.2.2
theorem KT.val(r:KT H kvs xs)(k:List Key):fQ (d9 kvs k) ((atKey xs k).map (·.2)):=by
 induction r with
 |nil=>exact True.intro
 | @cons p q ps qs h t ih=>
  obtain⟨h1,_,c⟩:=h;by_cases e:p.1=k
  ·have e':q.1=k:=h1.symm.trans e;have b:atKey (q::qs) k=some q.2:=by simp[atKey,List.find?_cons,e']
   rw[fW e,b];exact c
  ·have e':¬q.1=k:=λz=>e (h1.trans z);have b:atKey (q::qs) k=atKey qs k:=by simp[atKey,List.find?_cons,e']
   rw[d8 e,b];exact ih
theorem KT.repl(r:KT H kvs xs)(k:List Key)(B:RelV y u):
  KT H (kvs.map λkv=>if kv.1=k then(kv.1,y) else kv) (xs.map (putAt k u)):=by
 induction r with
 |nil=>exact .nil
 | @cons p q ps qs h t ih=>
  rw[List.map_cons,List.map_cons];refine .cons ?_ ih;obtain⟨h1,c,F⟩:=h;unfold putAt;by_cases e:p.1=k
  ·rw[if_pos e,if_pos (h1.symm.trans e)];exact⟨h1,c,B⟩
  ·rw[if_neg e,if_neg (λz=>e (h1.trans z))];exact⟨h1,c,F⟩
theorem KT.put(r:KT H kvs xs)(k:List Key){b:Addr}(B:H b=some (.tup (k.map kV)))(c:RelV y u):
  KT H (putK kvs k y) (storedH xs k b u):=by
 have e:(kvs.any λkv=>decide (kv.1=k))=(atKey xs k).isSome:=by rw[j5,(r.val k).isSome_eq,Option.isSome_map]
 unfold putK storedH;rw[e];by_cases q:(atKey xs k).isSome=true
 ·rw[if_pos q,if_pos q];exact r.repl k c
 ·rw[if_neg q,if_neg q];exact Paired.snoc r ⟨rfl,B,c⟩
theorem KT.keeps(r:KT H kvs xs)(c:∀b ys,H b=some (.tup ys)->H' b=some (.tup ys)):KT H' kvs xs:=
 Paired.mapP r λ_ _ z=>⟨z.1,c _ _ z.2.1,z.2.2⟩
section
variable{P:Program}{w:World}{H:Hp}{h:Heap}{a:Addr}
theorem y_{u:HO}(ok:gX P w H h)(e:Rd H a u):cj P w H h a u:=e.ok ok
theorem fM{kvs:List (Key×V)}(ok:gX P w H h)(e:Rd H a (.dK kvs)):kvs.length<=sizeLine/\(a==sysModules)=false/\∃vs,KV kvs vs/\h.DictOf (bg P w) a vs:=
 show cj P w H h a (.dK kvs) from y_ ok e
theorem sq{kvs:List (Key×V)}(ok:gX P w H h)(e:H a=some (.dK kvs)):kvs.length<=sizeLine/\(a==sysModules)=false/\∃vs,KV kvs vs/\h.DictOf (bg P w) a vs:=fM ok (.inl e)
theorem hX{ks:List Key}(ok:gX P w H h)(e:H a=some (.tup (ks.map kV))):(tupleKind (bg P w)).is h ks a:=by
 obtain⟨_,its,r,o,h1,B,n,c⟩:=(show cj P w H h a (.tup (ks.map kV)) from ok a _ e);exact⟨o,its.toArray,n,h1,B.1,c,by simpa using lY r⟩
theorem jr(ok:gX P w H h)(e:Rd H a (.dT kvs)):kvs.length<=sizeLine/\(a==sysModules)=false/\
  ∃xs,KT H kvs xs/\h.DictOfH (tupleKind (bg P w)) a xs:=by
 obtain⟨z,y,xs,r,o,es,ep,h1,J,I,F,B⟩:=(show cj P w H h a (.dT kvs) from y_ ok e);refine⟨z,y,xs,r,o,es,ep,h1,J,I,F,λx c=>?_,B⟩
 have all:∀{l:List (List Key×V)}{m:List (List Key×Addr×Value)},KT H l m->∀x∈m,(tupleKind (bg P w)).is h x.1 x.2.1:=by
  intro l m q
  induction q with
  |nil=>intro x c;exact nomatch c
  | @cons p q ps qs hq t ih=>
   intro x c;rcases List.mem_cons.mp c with e|c
   ·subst e;exact hX ok (by rw[<-hq.1];exact hq.2.1)
   ·exact ih x c
 exact all r x c
theorem DA(ok:gX P w H h)(e:H a=some (.dT kvs)):kvs.length<=sizeLine/\(a==sysModules)=false/\
  ∃xs,KT H kvs xs/\h.DictOfH (tupleKind (bg P w)) a xs:=jr ok (.inl e)
end
def gL(H:Hp)(a:Addr)(y:V)(r:Option V):Prop:=
 (∃kvs k,Rd H a (.dK kvs)/\y=kV k/\r=d9 kvs k)∨∃kvs k b,Rd H a (.dT kvs)/\y=.ref b/\H b=some (.tup (k.map kV))/\r=d9 kvs k
def xc(H:Hp)(a:Addr)(y v:V)(H':Hp):Prop:=
 (∃kvs k,H a=some (.dK kvs)/\y=kV k/\kvs.length<sizeLine/\H'=upd H a (.dK (putK kvs k v)))∨
 ∃kvs k b,H a=some (.dT kvs)/\y=.ref b/\H b=some (.tup (k.map kV))/\kvs.length<sizeLine/\H'=upd H a (.dT (putK kvs k v))
theorem gL.k{H:Hp}{a:Addr}{kvs:List (Key×V)}{k:Key}(e:H a=some (.dK kvs)):gL H a (kV k) (d9 kvs k):= .inl ⟨kvs,k,.inl e,rfl,rfl⟩
theorem xc.k{H:Hp}{a:Addr}{kvs:List (Key×V)}{k:Key}{v:V}(e:H a=some (.dK kvs))(c:kvs.length<sizeLine):xc H a (kV k) v (upd H a (.dK (putK kvs k v))):= .inl ⟨kvs,k,e,rfl,c,rfl⟩
section
variable{X:Cx}{pins:List (Addr×Obj)}{σ:St}{H:Hp}{s:Shared}{a:Addr}{y v:V}{u r:Value}{o:Option V}{A:Around}{E:Value->Shared->Prop}
theorem Inv.big(I:Inv X pins σ H s):sysModules<s.heap.objs.size:=by
 have h:mainGlobals<s.heap.objs.size:=(I.mod.glob.keeps I.bk).lt;exact Nat.lt_trans (by decide) h
theorem tP(Z:A.units+1<cLine)(I:Inv X pins σ H s)(g:gL H a y (some v))(Y:RelV y u)(h:∀B s',Inv X pins σ H s'->RelV v B->Q B s'):
  wpAny (model X.prog X.w) A (getItem (.ref a) u) Q E s:=by
 rcases g with⟨kvs,k,e,ey,l⟩|⟨kvs,k,b,e,ey,eb,l⟩
 ·subst ey;obtain⟨z,hd,vs,rel,U⟩:=fM I.hok e;obtain⟨B,F,c⟩:=fQ.some_of (v:=v) (o:=valueAt vs k) (by rw[l];exact rel.val k)
  exact wpAny_getItem_of (gQ Y) U.mapOf F (h B _ (I.tok _) c)
 ·subst ey;cases(show u=Value.ref b from Y);obtain⟨z,hd,xs,rel,U⟩:=jr I.hok e;obtain⟨B,F,c⟩:=fQ.some_of (v:=v) (o:=(atKey xs k).map (·.2)) (by rw[l];exact rel.val k)
  obtain⟨p,hp,J⟩:=Option.map_eq_some_iff.mp F;refine wpAny_getItem_heap (tupleKind_room_in1 Z) (hX I.hok eb) U hp ?_;rw[J];exact h B _ (I.tok _) c
theorem ET(F:A.units+1<cLine)(I:Inv X pins σ H s)(g:gL H a y o)(B:RelV y u)(h:∀s',Inv X pins σ H s'->Q (.bool o.isSome) s'):
  wpAny (model X.prog X.w) A (compareOp .In u (.ref a)) Q E s:=by
 rcases g with⟨kvs,k,e,ey,l⟩|⟨kvs,k,b,e,ey,eb,l⟩
 ·subst ey;obtain⟨z,hd,vs,rel,c⟩:=fM I.hok e;refine wpAny_in_of (gQ B) hd c.mapOf ?_;rw[<-(rel.val k).isSome_eq,<-l];exact h _ (I.tok _)
 ·subst ey;cases(show u=Value.ref b from B);obtain⟨z,hd,xs,rel,c⟩:=jr I.hok e;refine wpAny_in_heap (tupleKind_room_in1 F) (hX I.hok eb) hd c ?_;have q:=(rel.val k).isSome_eq;rw[Option.isSome_map] at q;rw[<-q,<-l];exact h _ (I.tok _)
theorem yO(F:A.units+1<cLine)(I:Inv X pins σ H s)(g:gL H a y o)(B:RelV y u)(h:∀s',Inv X pins σ H s'->Q (.bool (!o.isSome)) s'):
  wpAny (model X.prog X.w) A (compareOp .NotIn u (.ref a)) Q E s:=by
 rcases g with⟨kvs,k,e,ey,l⟩|⟨kvs,k,b,e,ey,eb,l⟩
 ·subst ey;obtain⟨z,hd,vs,rel,c⟩:=fM I.hok e;refine wpAny_notIn_of (gQ B) hd c.mapOf ?_;rw[<-(rel.val k).isSome_eq,<-l];exact h _ (I.tok _)
 ·subst ey;cases(show u=Value.ref b from B);obtain⟨z,hd,xs,rel,c⟩:=jr I.hok e;refine wpAny_notIn_heap (tupleKind_room_in1 F) (hX I.hok eb) hd c ?_;have q:=(rel.val k).isSome_eq;rw[Option.isSome_map] at q;rw[<-q,<-l];exact h _ (I.tok _)
theorem jV{h':Heap}{t':Nat}{c:HO}(I:Inv X pins σ H s)(B:DN (H a))(hs:Heap.SameBut a s.heap h')(F:∃q,h'.get? a=some q)(new:cj X.prog X.w (upd H a c) h' a c):
  Inv X pins σ (upd H a c) {s with heap:=h',toks:=t'}:=
 I.write (x:=a) (e:=a) B (.inl rfl) (λb q J z=>(hs.2 b J).trans z) F new
theorem kS{h':Heap}{kvs:List (Key×V)}{vs:List (Key×Value)}(z:kvs.length<=sizeLine)(hd:(a==sysModules)=false)(rel:KV kvs vs)(c:h'.DictOf (bg P w) a vs):
  cj P w H' h' a (.dK kvs):=⟨z,hd,vs,rel,c⟩
theorem tO{Q:Unit->Shared->Prop}(hu:A.units+1<cLine)(I:Inv X pins σ H s)(g:xc H a y v H')(Z:RelV y u)(rv:RelV v r)(h:∀s',Inv X pins σ H' s'->Q () s'):
  wpAny (model X.prog X.w) A (setItem (.ref a) u r) Q E s:=by
 rcases g with⟨kvs,k,e,ey,l,eH⟩|⟨kvs,k,b,e,ey,eb,l,eH⟩
 ·subst ey eH;obtain⟨z,hd,vs,rel,Y⟩:=sq I.hok e;have J:vs.length<=sizeLine:=by rw[<-rel.length];exact z
  have U:(putK kvs k v).length<=sizeLine:=by have:=dE kvs k v;omega
  refine wpAny_setItem_pairs (hsz:=J) (gQ Z) Y λh' B hs=>h _ ?_;have he:∃q,h'.get? a=some q:=let⟨q,_,_,F,_⟩:=B;⟨q,F⟩;exact jV I (by rw[e];exact True.intro) hs he (kS U hd (rel.put k rv) B)
 ·subst ey eH;cases(show u=Value.ref b from Z);obtain⟨z,hd,xs,rel,Y⟩:=DA I.hok e;have J:xs.length<=sizeLine:=by rw[<-Paired.length rel];exact z
  have U:(putK kvs k v).length<=sizeLine:=by have:=dE kvs k v;omega
  refine wpAny_setItem_heap (hsz:=J) (tupleKind_room_in1 hu) (hX I.hok eb) Y λh' B hs=>h _ ?_;obtain⟨q,es,ep,F,h2,h3,h4,_,h5⟩:=B;refine jV I (by rw[e];exact True.intro) hs ⟨q,F⟩ ⟨U,hd,_,(rel.put k eb rv).keeps λc ys ec=>?_,q,es,ep,F,h2,h3,h4,h5⟩
  rw[aL (fc ec e (λz=>nomatch z))];exact ec
end
section
variable{X:Cx}{pins:List (Addr×Obj)}{σ:St}{H:Hp}{s:Shared}{a:Addr}{kvs:List (Key×V)}{A:Around}{E:Value->Shared->Prop}
theorem DB(I:Inv X pins σ H s)(e:Rd H a (.dK kvs))(h:∀t s',Inv X pins σ H s'->Q (.int kvs.length t) s'):wpAny (model X.prog X.w) A (call (.builtin "len") [.ref a]) Q E s:=by
 obtain⟨z,hd,vs,rel,c⟩:=fM I.hok e;refine call_len_dict hd c (by rw[<-rel.length];rw[sizeLine_eq] at z;omega) ?_
 rw[<-rel.length];exact h _ _ (I.tok _)
end
theorem pj{pins:List (Addr×Obj)}{σ:St}{s:Shared}{o:Option V}(I:Inv X pins σ H s)(g:gL H a y o):s.TypeIs (.ref a) "dict":=by
 rcases g with⟨kvs,k,e,_,_⟩|⟨kvs,k,b,e,_,_,_⟩
 ·obtain⟨_,_,vs,_,c⟩:=fM I.hok e;exact c.typeIs
 ·obtain⟨_,_,xs,_,c⟩:=jr I.hok e;exact c.typeIs
def CH(td ty tv:TE):TS:=λD σ H=>tv σ H λv H1=>td σ H1 λx H2=>ty σ H2 λy H3=>∃a H4,x=.ref a/\xc H3 a y v H4/\D.nx σ H4
section
variable{X:Cx}{o i value:Expr}{pos pos':Pos}{td ty tv:TE}
theorem xW(J:X.A.units+1<cLine)(ho:PE X o td)(hi:PE X i ty)(F:PE X value tv)(hs:swapsWith value (some (.Subscript o i pos')) pos.line X.env=pure false):
  PS X (.Assign [.Subscript o i pos'] value pos) (CH td ty tv):=by
 intro pins s σ H D I h;refine wpAny_Assign_Subscript (bW (F pins s σ H _ I h) λr B ⟨v,H1,I1,rv,q1⟩=>bW (ho pins B σ H1 _ I1 q1) λu c ⟨x,H2,I2,rx,q2⟩=>bW (hi pins c σ H2 _ I2 q2) λiv Z ⟨y,H3,I3,ry,a,H4,ex,g,q3⟩=>?_) hs;subst ex;obtain rfl:u=Value.ref a:=rx;exact tO J I3 g ry rv λY U=>⟨σ,H4,U,q3⟩
end
theorem wK(h:Heap)(c:sysModules<h.objs.size):cj P w H (h.push {cls:= .type "dict",data:= .dict #[]}) h.objs.size (.dK []):=
 ⟨Nat.zero_le _,beq_eq_false_iff_ne.mpr (Ne.symm (au c)),[],.nil,Heap.DictOf.new h⟩
section
end
def mI:List (TE×TE)->St->Hp->(List (V×V)->Hp->Prop)->Prop
 |[],_,H,Q=>Q [] H
 |(tk,tv)::r,σ,H,Q=>tk σ H λx H1=>tv σ H1 λy H2=>mI r σ H2 λps H3=>Q ((x,y)::ps) H3
abbrev VV:List (V×V)->List (Value×Value)->Prop:=Paired λp q=>RelV p.1 q.1/\RelV p.2 q.2
def DM(X:Cx)(pos:Pos)(keys:List (Option Expr))(values:List Expr)(trs:List (TE×TE)):Prop:=
 ∀(pins:List (Addr×Obj))(s:Shared)(σ:St)(H:Hp)(Q:List (V×V)->Hp->Prop),Inv X pins σ H s->mI trs σ H Q->
  wpAny (model X.prog X.w) X.A (evalPairs (pairTrees keys values X.env pos)) (λvs s'=>∃ps H',Inv X pins σ H' s'/\VV ps vs/\Q ps H') X.xe s
theorem xX{pos:Pos}:DM X pos [] [] []:=λpins s σ H Q I h=>pairTrees_nil_walk ⟨[],H,I,.nil,h⟩
theorem vE{pos:Pos}{k v:Expr}{ks:List (Option Expr)}{vs:List Expr}{tk tv:TE}{c:List (TE×TE)}(hk:PE X k tk)(J:PE X v tv)(hr:DM X pos ks vs c):
  DM X pos (some k::ks) (v::vs) ((tk,tv)::c):=λpins s σ H Q I h=>
 pairTrees_cons_walk (bW (hk pins s σ H _ I h) λu F ⟨x,H1,I1,rx,q1⟩=>bW (J pins F σ H1 _ I1 q1) λU B ⟨y,H2,I2,ry,q2⟩=>
  bW (hr pins B σ H2 _ I2 q2) λws Y ⟨ps,H3,I3,rel,q3⟩=>⟨(x,y)::ps,H3,I3,.cons ⟨rx,ry⟩ rel,q3⟩)
def f8(kvs more:List (Key×V)):List (Key×V):=more.foldl (λacc kv=>putK acc kv.1 kv.2) kvs
theorem KV.merge:∀{more:List (Key×V)}{rs:List (Key×Value)}{kvs:List (Key×V)}{vs:List (Key×Value)},KV more rs->KV kvs vs->KV (f8 kvs more) (merged vs rs):=by
 intro more rs kvs vs r;unfold KV at r
 induction r generalizing kvs vs with
 |nil=>intro q;exact q
 | @cons p q ps qs h t ih=>
  intro c
  have e:KV (putK kvs p.1 p.2) (stored vs q.1 q.2):=by have:=c.put p.1 h.2;rw[<-h.1];exact this
  exact ih e
theorem gP:∀(more kvs:List (Key×V)),(f8 kvs more).length<=kvs.length+more.length
 |[],kvs=>by show kvs.length<=kvs.length+0;omega
 |p::r,kvs=>by have h1:=gP r (putK kvs p.1 p.2);have c:=dE kvs p.1 p.2;show(f8 (putK kvs p.1 p.2) r).length<=_;rw[List.length_cons];omega
theorem k5{P:Program}{w:World}:∀{kvs:List (Key×V)}{ws:List (Value×Value)},VV (kvs.map λkv=>(kV kv.1,kv.2)) ws->∃rs,Carries (bg P w) ws rs/\KV kvs rs
 |[],_,r=>by rw[List.map_nil] at r;cases r;exact⟨[],True.intro,.nil⟩
 |p::kvs,_,r=>by
  rw[List.map_cons] at r;cases r with
  | @cons a b as bs h t=>obtain⟨rs,c,q⟩:=k5 (P:=P) (w:=w) t;obtain⟨F,B⟩:=b;exact⟨(p.1,B)::rs,⟨gQ h.1,rfl,c⟩,.cons ⟨rfl,h.2⟩ q⟩
def Cq(trs:List (TE×TE)):TE:=λσ H Q=>∀p,H p=none->mI trs σ (upd H p (.dK [])) λps H2=>H2 p=some (.dK [])/\∃kvs:List (Key×V),ps=kvs.map (λkv=>(kV kv.1,kv.2))/\kvs.length<=15/\Q (.ref p) (upd H2 p (.dK (f8 [] kvs)))
theorem x4{pos:Pos}{keys:List (Option Expr)}{values:List Expr}{B:List (TE×TE)}(h:DM X pos keys values B)(F:keys.all (·.isSome)=true)(hl:keys.length=values.length)(h0:keys≠[])
  (U:keys.length<=15):PE X (.Dict keys values pos) (Cq B):=by
 intro pins s σ H Q I q;have hn:=I.hok.fresh (ac s.heap.objs.size);have I1:=I.laid (a:=s.heap.objs.size) (o:= .dK []) (h':=s.heap.push {cls:= .type "dict",data:= .dict #[]}) (t':=s.toks) (λ_ _ q=>ae _ q) (ac _) (wK s.heap I.big);refine wpAny_Dict_walk (knd:=bg X.prog X.w) F hl h0 U (bW (h pins _ σ _ _ I1 (q _ hn)) λws s2 hp=>?_);obtain⟨ps,H2,Y,rel,e,kvs,ep,lk,q2⟩:=hp;subst ep;obtain⟨rs,c,rk⟩:=k5 (P:=X.prog) (w:=X.w) rel;obtain⟨z,hd,vs0,Z,dd⟩:=sq Y.hok e;cases Z;refine⟨rs,c,dd,λh' J hs=>⟨.ref s.heap.objs.size,_,?_,rfl,q2⟩⟩
 have hz:(f8 [] kvs).length<=sizeLine:=by have h1:=gP kvs [];rw[List.length_nil] at h1;rw[sizeLine_eq];omega
 have he:∃q,h'.get? s.heap.objs.size=some q:=let⟨q,_,_,hq,_⟩:=J;⟨q,hq⟩;exact jV Y (by rw[e];exact True.intro) hs he (kS hz hd (rk.merge .nil) J)
structure M1(X:Cx)(o:Expr)(m:Str)(apos:Pos)(e:Expr)(cpos:Pos):Prop where
 base:attributeBase o m X.env (eval o X.env)=eval o X.env
 few:((backTo cpos (starEach [e] X.env)).all (λx=> !x.1)&&(backToKw cpos (keywordEach [] X.env)).all (λx=>x.1.isSome)
  &&decide (([e]:List Expr).length+([]:List Keyword).length+(if([]:List Keyword).isEmpty then 0 else 1)<30))=true
 line:(apos.endLine==cpos.line)=true
 trees:backTo cpos (starEach [e] X.env)=[(false,eval e X.env)]
structure M2(X:Cx)(o:Expr)(m:Str)(apos:Pos)(e f:Expr)(cpos:Pos):Prop where
 base:attributeBase o m X.env (eval o X.env)=eval o X.env
 few:((backTo cpos (starEach [e,f] X.env)).all (λx=> !x.1)&&(backToKw cpos (keywordEach [] X.env)).all (λx=>x.1.isSome)
  &&decide (([e,f]:List Expr).length+([]:List Keyword).length+(if([]:List Keyword).isEmpty then 0 else 1)<30))=true
 line:(apos.endLine==cpos.line)=true
 trees:backTo cpos (starEach [e,f] X.env)=[(false,eval e X.env),(false,eval f X.env)]
def D4(H:Hp)(a:Addr):Prop:=(∃kvs,Rd H a (.dK kvs))∨∃kvs,Rd H a (.dT kvs)
theorem hZ{pins:List (Addr×Obj)}{σ:St}{s:Shared}(I:Inv X pins σ H s)(d:D4 H a):
  s.TypeIs (.ref a) "dict" /\(∀b,Value.ref a=.ref b->∃c,s.heap.get? b=some c/\c.dict=none)/\(a==sysModules)=false:=by
 rcases d with⟨kvs,e⟩|⟨kvs,e⟩
 ·obtain⟨_,hd,vs,_,B⟩:=fM I.hok e;refine⟨B.typeIs,λb q=>?_,hd⟩;cases q;obtain⟨c,_,_,h1,F,_⟩:=B;exact⟨c,h1,F.2.1⟩
 ·obtain⟨_,hd,xs,_,B⟩:=jr I.hok e;refine⟨B.typeIs,λb q=>?_,hd⟩;cases q;obtain⟨c,_,_,h1,F,_⟩:=B;exact⟨c,h1,F.2.1⟩
section
variable{X:Cx}{pins:List (Addr×Obj)}{σ:St}{H:Hp}{s:Shared}{a:Addr}{y d:V}{u r:Value}{o:Option V}{A:Around}{E:Value->Shared->Prop}
theorem BH(U:A.units+1<cLine)(I:Inv X pins σ H s)(g:gL H a y o)(J:RelV y u)(h:∀B s',Inv X pins σ H s'->RelV (o.getD .non) B->Q B s'):
  wpAny (model X.prog X.w) A (call (.builtin "dict.get") [.ref a,u]) Q E s:=by
 rcases g with⟨kvs,k,e,ey,l⟩|⟨kvs,k,b,e,ey,eb,l⟩
 ·subst ey;obtain⟨z,hd,vs,rel,c⟩:=fM I.hok e;refine call_meetsIn PySem.F.slot_dict_get c.typeIs PySem.F.entry_dict_get (PySem.F.args_dict_get_2 _ _) (meets_dict_get (bg X.prog X.w) a (gQ J) hd) ⟨_,c.mapOf,h _ _ (I.tok _) ?_⟩;rw[l];exact(rel.val k).getD rfl
 ·subst ey;cases(show u=Value.ref b from J);obtain⟨z,hd,xs,rel,c⟩:=jr I.hok e;refine call_meetsIn PySem.F.slot_dict_get c.typeIs PySem.F.entry_dict_get (PySem.F.args_dict_get_2 _ _) (meetsH_dict_get (tupleKind (bg X.prog X.w)) a b hd) ⟨tupleKind_room_in1 U,k,xs,hX I.hok eb,c,h _ _ (I.tok _) ?_⟩;rw[l];exact(rel.val k).getD rfl
theorem BG(Y:A.units+1<cLine)(I:Inv X pins σ H s)(g:gL H a y o)(J:RelV y u)(U:RelV d r)(h:∀B s',Inv X pins σ H s'->RelV (o.getD d) B->Q B s'):
  wpAny (model X.prog X.w) A (call (.builtin "dict.get") [.ref a,u,r]) Q E s:=by
 rcases g with⟨kvs,k,e,ey,l⟩|⟨kvs,k,b,e,ey,eb,l⟩
 ·subst ey;obtain⟨z,hd,vs,rel,c⟩:=fM I.hok e;refine call_meetsIn PySem.F.slot_dict_get c.typeIs PySem.F.entry_dict_get (PySem.F.args_dict_get_3 _ _ _) (meets_dict_get_default (bg X.prog X.w) a (gQ J) hd r) ⟨_,c.mapOf,h _ _ (I.tok _) ?_⟩;rw[l];exact(rel.val k).getD U
 ·subst ey;cases(show u=Value.ref b from J);obtain⟨z,hd,xs,rel,c⟩:=jr I.hok e;refine call_meetsIn PySem.F.slot_dict_get c.typeIs PySem.F.entry_dict_get (PySem.F.args_dict_get_3 _ _ _) (meetsH_dict_get_default (tupleKind (bg X.prog X.w)) a b hd r) ⟨tupleKind_room_in1 Y,k,xs,hX I.hok eb,c,h _ _ (I.tok _) ?_⟩;rw[l];exact(rel.val k).getD U
end
def zX(td ty:TE):TE:=λσ H Q=>td σ H λx H1=>∃a,x=.ref a/\D4 H1 a/\ty σ H1 λy H2=>∃o,gL H2 a y o/\Q (o.getD .non) H2
def zW(td ty tx:TE):TE:=λσ H Q=>td σ H λx H1=>∃a,x=.ref a/\D4 H1 a/\ty σ H1 λy H2=>tx σ H2 λz H3=>∃o,gL H3 a y o/\Q (o.getD z) H3
section
variable{X:Cx}{o e f:Expr}{apos cpos:Pos}{td ty tx:TE}
theorem vN(hu:X.A.units+1<cLine)(ho:PE X o td)(he:PE X e ty)(m:M1 X o "get" apos e cpos):PE X (.Call (.Attribute o "get" apos) [e] [] cpos) (zX td ty):=by intro pins s σ H Q I h;refine wpAny_Call_method m.base m.few m.line PySem.F.plainAttrs_dict PySem.F.slot_dict_get PySem.F.type_dict_get (bW (ho pins s σ H _ I h) λu Y hp=>?_);obtain⟨x,H1,B,Z,a,ex,d,q1⟩:=hp;subst ex;obtain rfl:u=Value.ref a:=Z;obtain⟨U,J,_⟩:=hZ B d;refine⟨U,J,?_⟩;rw[m.trees];refine Calls.callWith_builtin rfl (Calls.evalArgs_plain (Calls.spliced_cons (bW (he pins Y σ H1 _ B q1) λiv s2 ⟨y,H2,I2,ry,ov,g,q2⟩=>Calls.spliced_nil ?_)));exact BH hu I2 g ry λw' s3 I3 c=>⟨_,H2,I3,c,q2⟩
theorem vM(hu:X.A.units+1<cLine)(ho:PE X o td)(he:PE X e ty)(hf:PE X f tx)(m:M2 X o "get" apos e f cpos):PE X (.Call (.Attribute o "get" apos) [e,f] [] cpos) (zW td ty tx):=by
 intro pins s σ H Q I h;refine wpAny_Call_method m.base m.few m.line PySem.F.plainAttrs_dict PySem.F.slot_dict_get PySem.F.type_dict_get (bW (ho pins s σ H _ I h) λu Z hp=>?_);obtain⟨x,H1,B,rx,a,ex,d,q1⟩:=hp;subst ex;obtain rfl:u=Value.ref a:=rx;obtain⟨U,J,_⟩:=hZ B d;refine⟨U,J,?_⟩;rw[m.trees]
 refine Calls.callWith_builtin rfl (Calls.evalArgs_plain (Calls.spliced_cons (bW (he pins Z σ H1 _ B q1) λiv Y ⟨y,H2,I2,ry,q2⟩=>
  Calls.spliced_cons (bW (hf pins Y σ H2 _ I2 q2) λfv s3 ⟨z,H3,I3,rz,ov,g,q3⟩=>Calls.spliced_nil ?_))))
 exact BG hu I3 g ry rz λw' s4 I4 c=>⟨_,H3,I4,c,q3⟩
end
section
variable{X:Cx}{pins:List (Addr×Obj)}{σ:St}{H:Hp}{s:Shared}{a:Addr}{kvs:List (Key×V)}{A:Around}{E:Value->Shared->Prop}
theorem wR(I:Inv X pins σ H s)(e:Rd H a (.dK kvs))(h:∀p s',H p=none->Inv X pins σ (upd H p (.dK kvs)) s'->Q (.ref p) s'):wpAny (model X.prog X.w) A (call (.type "dict") [.ref a]) Q E s:=by
 obtain⟨z,hd,vs,rel,F⟩:=fM I.hok e;refine kt_call_dict hd F (by rw[<-rel.length];exact z) λh' c hs=>?_
 refine h _ _ (I.hok.fresh (ac _)) (I.laid (a:=s.heap.objs.size) (o:= .dK kvs) (t':=s.toks) (λb q B=>?_) (ac _) (kS z (beq_eq_false_iff_ne.mpr (Ne.symm (au I.big))) rel c));exact(hs.2 b (au (am B))).trans (ae _ B)
end
section
end
end L2
namespace Go
variable{f i v:Nat}
section
variable{ways:Nat->List Nat}
noncomputable def all(pile:List (Nat×Nat))(O:List Nat):List Nat:=O++pile.map (·.1)
def step(ways:Nat->List Nat):List (Nat×Nat)->List Nat->List (Nat×Nat)×List Nat
 |[],O=>([],O)
 |(v,i)::r,O=>match(ways v)[i]? with
  |none=>(r,O++[v])
  |some f=>if f∈all ((v,i)::r) O then((v,i+1)::r,O) else((f,0)::(v,i+1)::r,O)
inductive bm(ways:Nat->List Nat):Nat->Prop where
 |zero:bm ways 0
 |next {f v:Nat}(c:bm ways f)(h:v∈ways f):bm ways v
structure Inv(ways:Nat->List Nat)(pile:List (Nat×Nat))(O:List Nat):Prop where
 nd:(all pile O).Nodup
 zero:∃l,all pile O=l++[0]
 lead:∀v∈all pile O,v≠0->∃f,v∈ways f/\[v,f].Sublist (all pile O)
 cO:∀v∈O,∀w∈ways v,w∈all pile O
 cP:∀p∈pile,∀w∈(ways p.1).take p.2,w∈all pile O
 come:∀v∈all pile O,bm ways v
theorem i9:Inv ways [(0,0)] []:=by
 refine⟨by simp[all],⟨[],rfl⟩,λv c I=>?_,(λv c=>nomatch c),λp F w B=>?_,λv c=>?_⟩
 ·exact absurd (by simpa[all] using c) I
 ·cases F with
  |head=>simp at B
  |tail _ h=>cases h
 ·have:v=0:=by simpa[all] using c
  subst this;exact .zero
theorem nF{v i:Nat}{r:List (Nat×Nat)}{O:List Nat}:all r (O++[v])=all ((v,i)::r) O:=by simp[all]
theorem w5{j:Nat}{r:List (Nat×Nat)}{O:List Nat}:(all ((v,i)::r) O).Sublist (all ((f,0)::(v,j)::r) O):=by unfold all;exact(List.Sublist.refl O).append (List.sublist_cons_self f _)
theorem lJ{l:List Nat}{w:Nat}(h:l[i]? =some f)(c:w∈l.take (i+1)):w∈l.take i∨w=f:=by rw[List.take_add_one,h] at c;simpa using c
theorem we{pile:List (Nat×Nat)}{O:List Nat}(I:Inv ways pile O):Inv ways (step ways pile O).1 (step ways pile O).2:=by
 cases pile with
 |nil=>exact I
 |cons p r=>
  obtain⟨v,i⟩:=p;cases q:(ways v)[i]? with
  |none=>
   rw[show step ways ((v,i)::r) O=(r,O++[v]) by simp only[step,q]]
   have e:= @nF v i r O;have Z:(ways v).take i=ways v:=List.take_of_length_le (List.getElem?_eq_none_iff.mp q);refine⟨by rw[e];exact I.nd,by rw[e];exact I.zero,by rw[e];exact I.lead,λx B w c=>?_,λp F w c=>?_,by rw[e];exact I.come⟩
   ·rw[e];rcases List.mem_append.mp B with B|B
    ·exact I.cO x B w c
    ·have:x=v:=by simpa using B
     subst this;exact I.cP (x,i) List.mem_cons_self w (by rw[Z];exact c)
   ·rw[e];exact I.cP p (List.mem_cons_of_mem _ F) w c
  |some f=>
   have hf:f∈ways v:=ak q;by_cases k:f∈all ((v,i)::r) O
   ·rw[show step ways ((v,i)::r) O=((v,i+1)::r,O) by simp only[step,q];rw[if_pos k]]
    refine⟨I.nd,I.zero,I.lead,I.cO,λp F w c=>?_,I.come⟩;rcases List.mem_cons.mp F with rfl|F
    ·rcases lJ q c with c|rfl
     ·exact I.cP (v,i) List.mem_cons_self w c
     ·exact k
    ·exact I.cP p (List.mem_cons_of_mem _ F) w c
   ·rw[show step ways ((v,i)::r) O=((f,0)::(v,i+1)::r,O) by simp only[step,q];rw[if_neg k]]
    have sb:(all ((v,i)::r) O).Sublist (all ((f,0)::(v,i+1)::r) O):=w5
    have Y:∀{w},w∈all ((f,0)::(v,i+1)::r) O↔w=f∨w∈all ((v,i)::r) O:=λ{w}=>by
     simp only[all,List.map_cons,List.mem_append,List.mem_cons];constructor
     ·rintro(h|h|h|h)
      ·exact .inr (.inl h)
      ·exact .inl h
      ·exact .inr (.inr (.inl h))
      ·exact .inr (.inr (.inr h))
     ·rintro(h|h|h|h)
      ·exact .inr (.inl h)
      ·exact .inl h
      ·exact .inr (.inr (.inl h))
      ·exact .inr (.inr (.inr h))
    refine⟨?_,?_,λx B hn=>?_,λx B w c=>Y.mpr (.inr (I.cO x B w c)),λp F w c=>?_,λx B=>?_⟩
    ·have nd:=I.nd;unfold all at nd k ⊢;simp only[List.map_cons] at nd k ⊢;rw[List.nodup_append] at nd ⊢;simp only[List.mem_append] at k;refine⟨nd.1,List.nodup_cons.mpr ⟨λh=>k (.inr h),nd.2.1⟩,λa ha b hb=>?_⟩;rcases List.mem_cons.mp hb with rfl|hb
     ·exact λz=>k (.inl (z▸ha))
     ·exact nd.2.2 a ha b hb
    ·obtain⟨l,Z⟩:=I.zero;have:∃l',(v,i+1)::r=l'++[]:=⟨_,(List.append_nil _).symm⟩;unfold all at Z ⊢;simp only[List.map_cons] at Z ⊢;have J:(v::r.map (·.1))≠[]:=by simp
     refine⟨O++f::(v::r.map (·.1)).dropLast,?_⟩
     have U:(v::r.map (·.1)).getLast J=0:=by
      have h1:(O++v::r.map (·.1)).getLast (by simp)=0:=by simp only[Z,List.getLast_append,List.getLast_singleton];simp
      rw[List.getLast_append_of_ne_nil (by simp) J] at h1
      exact h1
     have h2:=List.dropLast_concat_getLast J;rw[U] at h2;rw[List.append_assoc,List.cons_append,h2]
    ·rcases Y.mp B with rfl|B
     ·refine⟨v,hf,?_⟩;unfold all;simp only[List.map_cons];exact(List.nil_sublist O).append (.cons_cons _ (.cons_cons _ (List.nil_sublist _)))
     ·obtain⟨g,h1,h2⟩:=I.lead x B hn;exact⟨g,h1,h2.trans sb⟩
    ·rcases List.mem_cons.mp F with rfl|F
     ·simp at c
     ·rcases List.mem_cons.mp F with rfl|F
      ·rcases lJ q c with c|rfl
       ·exact Y.mpr (.inr (I.cP (v,i) List.mem_cons_self w c))
       ·exact Y.mpr (.inl rfl)
      ·exact Y.mpr (.inr (I.cP p (List.mem_cons_of_mem _ F) w c))
    ·rcases Y.mp B with rfl|B
     ·exact .next (I.come v (by simp[all])) hf
     ·exact I.come x B
theorem rZ{O:List Nat}(I:Inv ways [] O):v∈O↔bm ways v:=by
 have e:all [] O=O:=by simp[all]
 constructor
 ·intro h;exact I.come v (by rw[e];exact h)
 ·intro h
  induction h with
  |zero=>obtain⟨l,B⟩:=I.zero;rw[e] at B;rw[B];simp
  |next c h ih=>have:=I.cO _ ih _ h;rwa [e] at this
theorem mK:∀{l:List Nat}{a b:Nat},l.Nodup->[a,b].Sublist l->l.idxOf a<l.idxOf b
 |[],_,_,_,h=>by cases h
 |x::l,a,b,nd,h=>by
  obtain⟨h1,I⟩:=List.nodup_cons.mp nd;rw[List.idxOf_cons,List.idxOf_cons];cases h with
  |cons _ h=>
   have F:a∈l:=h.subset List.mem_cons_self;have c:b∈l:=h.subset (List.mem_cons_of_mem _ List.mem_cons_self);have J:(x==a)=false:=by simp;intro z;subst z;exact h1 F
   have B:(x==b)=false:=by simp;intro z;subst z;exact h1 c
   rw[J,B];have:=mK I h;simp only[cond_false];omega
  |cons_cons _ h=>
   have c:b∈l:=h.subset List.mem_cons_self;have B:(x==b)=false:=by simp;intro z;subst z;exact h1 c
   rw[B];simp
theorem sd:∀{l:List Nat}{a b:Nat},a∈l->b∈l->l.idxOf a=l.idxOf b->a=b
 |[],_,_,h,_,_=>by cases h
 |x::l,a,b,ha,hb,e=>by
  rw[List.idxOf_cons,List.idxOf_cons] at e;by_cases ea:x=a
  ·by_cases eb:x=b
   ·rw[<-ea,<-eb]
   ·have h1:(x==a)=true:=by simpa using ea
    have c:(x==b)=false:=by simpa using eb
    rw[h1,c] at e;simp at e
  ·by_cases eb:x=b
   ·have h1:(x==a)=false:=by simpa using ea
    have c:(x==b)=true:=by simpa using eb
    rw[h1,c] at e;simp at e
   ·have h1:(x==a)=false:=by simpa using ea
    have c:(x==b)=false:=by simpa using eb
    rw[h1,c] at e
    have F:a∈l:=by
     rcases List.mem_cons.mp ha with z|z
     ·exact absurd z.symm ea
     ·exact z
    have B:b∈l:=by
     rcases List.mem_cons.mp hb with z|z
     ·exact absurd z.symm eb
     ·exact z
    exact sd F B (by simpa using e)
theorem lQ{O:List Nat}(I:Inv ways [] O){x:Nat}(F:x∈O):O.idxOf x<=O.idxOf 0:=by
 have e:all [] O=O:=by simp[all]
 obtain⟨l,B⟩:=I.zero;have nd:=I.nd;rw[e] at B nd;by_cases z:x=0
 ·subst z;exact ac _
 ·rw[B] at F;have c:x∈l:=by simpa[z] using F
  refine Nat.le_of_lt (mK nd ?_);rw[B];exact List.Sublist.append (List.singleton_sublist.mpr c) (List.Sublist.refl [0])
theorem lR{O:List Nat}(I:Inv ways [] O){b:Nat}(F:b∈O)(B:b≠0):∃f,b∈ways f/\f∈O/\O.idxOf b<O.idxOf f:=by
 have e:all [] O=O:=by simp[all]
 have nd:=I.nd;rw[e] at nd;obtain⟨f,h1,c⟩:=I.lead b (by rw[e];exact F) B
 rw[e] at c;exact⟨f,h1,c.subset (by simp),mK nd c⟩
theorem mJ{w:Nat->Nat}{p q:Nat->Bool}{f:Nat}(J:p f=true)(I:q f=false)(B:∀x,x≠f->q x=p x):∀{l:List Nat},l.Nodup->f∈l->((l.filter p).map w).sum=((l.filter q).map w).sum+w f
 |[],_,h=>by cases h
 |x::l,nd,h=>by
  obtain⟨h1,Y⟩:=List.nodup_cons.mp nd;by_cases e:x=f
  ·subst e;have same:∀{m:List Nat},x∉m->m.filter p=m.filter q:=λ{m} c=>List.filter_congr λy U=>(B y λz=>c (z▸U)).symm;rw[List.filter_cons_of_pos J,List.filter_cons_of_neg (by simp[I]),same h1,List.map_cons,List.sum_cons,Nat.add_comm]
  ·have c:f∈l:=by
    rcases List.mem_cons.mp h with z|z
    ·exact absurd z.symm e
    ·exact z
   have F:=mJ (w:=w) J I B Y c;have ex:=B x e;cases k:p x with
   |true=>
    rw[List.filter_cons_of_pos k,List.filter_cons_of_pos (by rw[ex];exact k),List.map_cons,List.map_cons,List.sum_cons,List.sum_cons,F]
    omega
   |false=>
    rw[List.filter_cons_of_neg (by simp[k]),List.filter_cons_of_neg (by simp[ex,k])]
    exact F
def left(ways:Nat->List Nat)(n:Nat)(pile:List (Nat×Nat))(O:List Nat):Nat:=(((List.range n).filter λv=>decide (v∉all pile O)).map λv=>(ways v).length+1).sum+(pile.map λp=>(ways p.1).length - p.2+1).sum
theorem s_{n:Nat}{r:List (Nat×Nat)}{O:List Nat}(F:∀v f,f∈ways v->f<n):left ways n (step ways ((v,i)::r) O).1 (step ways ((v,i)::r) O).2<left ways n ((v,i)::r) O:=by
 cases q:(ways v)[i]? with
 |none=>
  rw[show step ways ((v,i)::r) O=(r,O++[v]) by simp only[step,q]]
  unfold left;dsimp only;rw[@nF v i r O,List.map_cons,List.sum_cons];omega
 |some f=>
  have I:f∈ways v:=ak q;have hi:i<(ways v).length:=(aw q).1;by_cases k:f∈all ((v,i)::r) O
  ·rw[show step ways ((v,i)::r) O=((v,i+1)::r,O) by simp only[step,q];rw[if_pos k]]
   unfold left;rw[show all ((v,i+1)::r) O=all ((v,i)::r) O from rfl,List.map_cons,List.map_cons,List.sum_cons,List.sum_cons];dsimp only;omega
  ·rw[show step ways ((v,i)::r) O=((f,0)::(v,i+1)::r,O) by simp only[step,q];rw[if_neg k]]
   unfold left
   have c:∀x,x∈all ((f,0)::(v,i+1)::r) O↔x=f∨x∈all ((v,i)::r) O:=λx=>by
    simp only[all,List.map_cons,List.mem_append,List.mem_cons];constructor
    ·rintro(h|h|h|h)
     ·exact .inr (.inl h)
     ·exact .inl h
     ·exact .inr (.inr (.inl h))
     ·exact .inr (.inr (.inr h))
    ·rintro(h|h|h|h)
     ·exact .inr (.inl h)
     ·exact .inl h
     ·exact .inr (.inr (.inl h))
     ·exact .inr (.inr (.inr h))
   have s:=mJ (w:=λv=>(ways v).length+1) (p:=λx=>decide (x∉all ((v,i)::r) O)) (q:=λx=>decide (x∉all ((f,0)::(v,i+1)::r) O)) (f:=f) (by simpa using k) (by simp[c]) (λx B=>by simp[c,B]) (List.nodup_range (n:=n)) (List.mem_range.mpr (F v f I))
   rw[s,List.map_cons,List.map_cons,List.map_cons,List.sum_cons,List.sum_cons,List.sum_cons];dsimp only;omega
end
end Go
namespace Dom
variable{b c r x y:Nat}{l l1 l2:List Nat}
section
variable{E:Nat->Nat->Prop}{rank:Nat->Nat}{N:Nat->Option Nat}
inductive Way(E:Nat->Nat->Prop):List Nat->Nat->Prop where
 |nil:Way E [0] 0
 |cons {l:List Nat}{x y:Nat}(w:Way E l x)(e:E x y):Way E (y::l) y
noncomputable def cn(E:Nat->Nat->Prop)(d x:Nat):Prop:=∀l,Way E l x->d∈l
noncomputable def bm(E:Nat->Nat->Prop)(x:Nat):Prop:=∃l,Way E l x
theorem Way.last(w:Way E l x):x∈l:=by
 cases w with
 |nil=>exact List.mem_cons_self
 |cons w e=>exact List.mem_cons_self
theorem fk:cn E x x:=λ_ w=>w.last
theorem cn.lead{d:Nat}(h:cn E d y)(c:d≠y)(e:E x y):cn E d x:=λl w=>by
 rcases List.mem_cons.mp (h _ (.cons w e)) with z|z
 ·exact absurd z c
 ·exact z
inductive Chain(N:Nat->Option Nat):Nat->Nat->Prop where
 |self {x y:Nat}(h:N x=some y):Chain N x x
 |step {x y c:Nat}(hx:x≠0)(h:N x=some y)(t:Chain N y c):Chain N x c
structure Rk(E:Nat->Nat->Prop)(rank:Nat->Nat):Prop where
 inj:∀x y,bm E x->bm E y->rank x=rank y->x=y
 top:∀x,bm E x->rank x<=rank 0
structure Ok(E:Nat->Nat->Prop)(rank:Nat->Nat)(N:Nat->Option Nat):Prop where
 zero:N 0=some 0
 dom:∀x y,N x=some y->bm E x
 up:∀x y,x≠0->N x=some y->rank x<rank y/\∃z,N y=some z
 rul:∀x y d,x≠0->N x=some y->cn E d x->d≠x->cn E d y
theorem Chain.there(t:Chain N x c):∃y,N c=some y:=by
 induction t with
 |self h=>exact⟨_,h⟩
 |step _ _ _ ih=>exact ih
theorem Chain.le(K:Ok E rank N)(t:Chain N x c):rank x<=rank c/\(rank x=rank c->x=c):=by
 induction t with
 |self h=>exact⟨ac _,λ_=>rfl⟩
 | @step x y c hx h t ih=>
  have:=(K.up x y hx h).1;exact⟨by omega,λe=>by omega⟩
theorem Chain.trans(t:Chain N x y)(u:Chain N y c):Chain N x c:=by
 induction t with
 |self h=>exact u
 |step hx h _ ih=>exact .step hx h (ih u)
noncomputable def gU(rank:Nat->Nat)(N:Nat->Option Nat):Nat->Nat->Nat->Option Nat
 |0,_,_=>none
 |k+1,a,b=>if a=b then some a else if rank a<rank b then(N a).bind λa'=>gU rank N k a' b else(N b).bind λb'=>gU rank N k a b'
theorem k4(R:Rk E rank)(K:Ok E rank N):∀(k a b:Nat),(∃y,N a=some y)->(∃y,N b=some y)->(rank 0 - rank a)+(rank 0 - rank b)<k->∃r,gU rank N k a b=some r/\(∃y,N r=some y)/\∀c,Chain N r c↔Chain N a c/\Chain N b c
 |0,a,b,_,_,h=>by omega
 |k+1,a,b,⟨ya,ha⟩,⟨yb,hb⟩,h=>by
  unfold gU;by_cases e:a=b
  ·subst e;rw[if_pos rfl];exact⟨a,rfl,⟨ya,ha⟩,λc=>⟨λt=>⟨t,t⟩,λt=>t.1⟩⟩
  ·rw[if_neg e];have ta:=R.top a (K.dom a ya ha);have tb:=R.top b (K.dom b yb hb);by_cases hr:rank a<rank b
   ·rw[if_pos hr,ha];have I:a≠0:=λz=>by subst z;omega
    obtain⟨Z,B,F⟩:=K.up a ya I ha;have t2:=R.top ya (K.dom ya B F);obtain⟨r,Y,U,J⟩:=k4 R K k ya b ⟨B,F⟩ ⟨yb,hb⟩ (by omega)
    refine⟨r,Y,U,λc=>?_⟩;rw[J];refine⟨λt=>⟨.step I ha t.1,t.2⟩,λt=>⟨?_,t.2⟩⟩;cases t.1 with
    |self _=>have:=(t.2.le K).1;omega
    |step _ h' t'=>rw[ha] at h';cases h';exact t'
   ·rw[if_neg hr,hb];have hne:rank a≠rank b:=λz=>e (R.inj a b (K.dom a _ ha) (K.dom b _ hb) z);have I:b≠0:=λz=>by subst z;omega
    obtain⟨Z,B,F⟩:=K.up b yb I hb;have t2:=R.top yb (K.dom yb B F);obtain⟨r,Y,U,J⟩:=k4 R K k a yb ⟨ya,ha⟩ ⟨B,F⟩ (by omega)
    refine⟨r,Y,U,λc=>?_⟩;rw[J];refine⟨λt=>⟨t.1,.step I hb t.2⟩,λt=>⟨t.1,?_⟩⟩;cases t.2 with
    |self _=>have:=(t.1.le K).1;omega
    |step _ h' t'=>rw[hb] at h';cases h';exact t'
def meet(rank:Nat->Nat)(N:Nat->Option Nat)(k:Nat):Nat->List Nat->Option Nat
 |r,[]=>some r
 |r,p::ps=>(gU rank N k p r).bind λr'=>meet rank N k r' ps
theorem rS(R:Rk E rank)(K:Ok E rank N){k:Nat}(hk:2*rank 0<k):∀(ps:List Nat)(r:Nat),(∃y,N r=some y)->(∀p∈ps,∃y,N p=some y)->∃q,meet rank N k r ps=some q/\(∃y,N q=some y)/\∀c,Chain N q c↔Chain N r c/\∀p∈ps,Chain N p c
 |[],r,hr,_=>⟨r,rfl,hr,λc=>⟨λt=>⟨t,λ_ h=>nomatch h⟩,λt=>t.1⟩⟩
 |p::ps,r,hr,hp=>by
  obtain⟨q,e1,e2,Z⟩:=k4 R K k p r (hp p List.mem_cons_self) hr (by omega)
  obtain⟨I,Y,U,J⟩:=rS R K hk ps q e2 λp F=>hp p (List.mem_cons_of_mem _ F);refine⟨I,?_,U,λc=>?_⟩
  ·show(gU rank N k p r).bind _=_;rw[e1];exact Y
  ·rw[J,Z];refine⟨λt=>⟨t.1.2,λB h=>?_⟩,λt=>⟨⟨t.2 p List.mem_cons_self,t.1⟩,λB h=>t.2 B (List.mem_cons_of_mem _ h)⟩⟩;rcases List.mem_cons.mp h with rfl|h
   ·exact t.1.1
   ·exact t.2 B h
noncomputable def put(N:Nat->Option Nat)(b r:Nat):Nat->Option Nat:=λx=>if x=b then some r else N x
theorem e_:put N b r b=some r:=by simp[put]
theorem fY(h:x≠b):put N b r x=N x:=by simp[put,h]
theorem ko(R:Rk E rank)(K:Ok E rank N){d:Nat}:∀(k x:Nat),rank 0 - rank x<k->(∃y,N x=some y)->cn E d x->Chain N x d/\∀c,Chain N x c->Chain N c d->cn E d c
 |0,x,h,_,_=>by omega
 |k+1,x,h,⟨y,hy⟩,hr=>by
  by_cases e:d=x
  ·subst e;refine⟨.self hy,λc t u=>?_⟩;have h1:=t.le K;have J:=u.le K;have:d=c:=h1.2 (by omega)
   subst this;exact hr
  ·have B:x≠0:=λz=>by
    subst z;have:=hr [0] .nil;exact e (by simpa using this)
   obtain⟨I,z,F⟩:=K.up x y B hy;have ty:=R.top y (K.dom y z F);obtain⟨q1,q2⟩:=ko R K k y (by omega) ⟨z,F⟩ (K.rul x y d B hy hr e)
   refine⟨.step B hy q1,λc t u=>?_⟩;cases t with
   |self _=>exact hr
   |step _ h' t'=>rw[hy] at h';cases h';exact q2 c t' u
theorem Ok.put(R:Rk E rank)(K:Ok E rank N){b r I:Nat}{ps:List Nat}(hb:b≠0)(cb:bm E b)(F:I∈ps)(h0:rank b<rank I)(U:∀p∈ps,E p b/\∃y,N p=some y)(hr:∃y,N r=some y)
  (hc:∀c,Chain N r c↔∀p∈ps,Chain N p c):Ok E rank (put N b r)/\rank b<rank r:=by
 obtain⟨yr,B⟩:=hr
 have J:rank b<rank r:=by have:=(((hc r).mp (.self B) I F).le K).1;omega
 have hne:r≠b:=λz=>by subst z;omega
 refine⟨⟨by rw[fY (Ne.symm hb)];exact K.zero,λx y h=>?_,λx y Z h=>?_,λx y d Z h hd hn=>?_⟩,J⟩
 ·by_cases e:x=b
  ·subst e;exact cb
  ·rw[fY e] at h;exact K.dom x y h
 ·by_cases e:x=b
  ·subst e;rw[e_] at h;cases h;exact⟨J,yr,by rw[fY hne];exact B⟩
  ·rw[fY e] at h;obtain⟨u1,z,u2⟩:=K.up x y Z h;refine⟨u1,?_⟩;by_cases e2:y=b
   ·subst e2;exact⟨r,e_⟩
   ·exact⟨z,by rw[fY e2];exact u2⟩
 ·by_cases e:x=b
  ·subst e;rw[e_] at h;cases h;have key:∀p∈ps,Chain N p d/\∀c,Chain N p c->Chain N c d->cn E d c:=λp Y=>ko R K (rank 0 - rank p+1) p (by omega) (U p Y).2 (hd.lead hn (U p Y).1)
   exact(key I F).2 r ((hc r).mp (.self B) I F) ((hc d).mpr λp Y=>(key p Y).1)
  ·rw[fY e] at h;exact K.rul x y d Z h hd hn
theorem tI(B:∀x b r,b≠0->N b=some r->E x b->bm E x->∀c,Chain N r c->Chain N x c)(w:Way E l b):∀c,Chain N b c->c∈l:=by
 induction w with
 |nil=>
  intro c t;cases t with
  |self _=>exact List.mem_cons_self
  |step hz _ _=>exact absurd rfl hz
 | @cons l x y w e ih=>
  intro c t;cases t with
  |self _=>exact List.mem_cons_self
  |step hz h t=>exact List.mem_cons_of_mem _ (ih c (B x y _ hz h e ⟨l,w⟩ c t))
theorem sN(R:Rk E rank)(K:Ok E rank N)(F:∀x b r,b≠0->N b=some r->E x b->bm E x->∀c,Chain N r c->Chain N x c)(B:∃y,N b=some y):Chain N b c↔cn E c b:=
 ⟨λt l w=>tI F w c t,λh=>(ko R K (rank 0 - rank b+1) b (by omega) B h).1⟩
theorem ie{P:Nat->Option Nat}(h:∀x y,N x=some y->∃z,P x=some z/\(x≠0->Chain P z y))(t:Chain N x c):Chain P x c:=by
 induction t with
 | @self x y hx=>obtain⟨z,B,_⟩:=h x y hx;exact .self B
 | @step x y c hn hx t ih=>obtain⟨z,B,q⟩:=h x y hx;exact .step hn B ((q hn).trans ih)
theorem Fy(K:Ok E rank N){a:Nat}(t:Chain N x a)(u:Chain N x b)(h:rank a<=rank b):Chain N a b:=by
 induction t with
 |self _=>exact u
 | @step x y a hx hy t ih=>
  have h1:=(K.up x y hx hy).1;have c:=(t.le K).1;cases u with
  |self _=>omega
  |step _ h' u'=>rw[hy] at h';cases h';exact ih u' h
noncomputable def mix(rank:Nat->Nat)(P Q:Nat->Option Nat)(t:Nat):Nat->Option Nat:=λx=>if t<rank x then Q x else P x
variable{P Q:Nat->Option Nat}{t:Nat}
theorem ck(h:t<rank x):mix rank P Q t x=Q x:=by simp[mix,h]
theorem dq(h:¬t<rank x):mix rank P Q t x=P x:=by simp[mix,h]
theorem Ok.mix(KP:Ok E rank P)(KQ:Ok E rank Q)(U:∀x,bm E x->∃y,P x=some y)(J:∀x,bm E x->∃y,Q x=some y):Ok E rank (mix rank P Q t):=by
 have I:∀x,bm E x->∃y,Dom.mix rank P Q t x=some y:=λx h=>by
  by_cases e:t<rank x
  ·rw[ck e];exact J x h
  ·rw[dq e];exact U x h
 refine⟨?_,λx y h=>?_,λx y c h=>?_,λx y d c h=>?_⟩
 ·by_cases e:t<rank 0
  ·rw[ck e];exact KQ.zero
  ·rw[dq e];exact KP.zero
 all_goals by_cases e:t<rank x
 ·rw[ck e] at h;exact KQ.dom x y h
 ·rw[dq e] at h;exact KP.dom x y h
 ·rw[ck e] at h;obtain⟨F,z,B⟩:=KQ.up x y c h;exact⟨F,I y (KQ.dom y z B)⟩
 ·rw[dq e] at h;obtain⟨F,z,B⟩:=KP.up x y c h;exact⟨F,I y (KP.dom y z B)⟩
 ·rw[ck e] at h;exact KQ.rul x y d c h
 ·rw[dq e] at h;exact KP.rul x y d c h
theorem hV(KQ:Ok E rank Q)(h:t<rank x):Chain (mix rank P Q t) x c↔Chain Q x c:=by
 constructor
 ·intro u
  induction u with
  |self hy=>rw[ck h] at hy;exact .self hy
  | @step x y c hx hy u ih=>rw[ck h] at hy;exact .step hx hy (ih (Nat.lt_trans h (KQ.up x y hx hy).1))
 ·intro u
  induction u with
  |self hy=>exact .self (by rw[ck h];exact hy)
  | @step x y c hx hy u ih=>exact .step hx (by rw[ck h];exact hy) (ih (Nat.lt_trans h (KQ.up x y hx hy).1))
theorem low(KP:Ok E rank P)(F:∀x,bm E x->∃y,Q x=some y)(u:Chain P x r)(h:rank r<=t+1):Chain (mix rank P Q t) x r:=by
 induction u with
 | @self x y hy=>
  by_cases e:t<rank x
  ·obtain⟨z,B⟩:=F x (KP.dom x y hy);exact .self (y:=z) (by rw[ck e];exact B)
  ·exact .self (y:=y) (by rw[dq e];exact hy)
 | @step x y c hx hy u ih=>
  have h1:=(KP.up x y hx hy).1;have I:=(u.le KP).1;exact .step hx (y:=y) (by rw[dq (by omega)];exact hy) (ih h)
structure iO(E:Nat->Nat->Prop)(rank:Nat->Nat)(P:Nat->Option Nat):Prop where
 ok:Ok E rank P
 all:∀x,bm E x->∃y,P x=some y
 met:∀b r,b≠0->P b=some r->∀c,(∀p,E p b->bm E p->Chain P p c)->Chain P r c
 fwd:∀b r f,b≠0->P b=some r->E f b->bm E f->rank b<rank f->Chain P f r
structure Turn(E:Nat->Nat->Prop)(rank:Nat->Nat)(P Q:Nat->Option Nat):Prop where
 ok:Ok E rank Q
 all:∀x,bm E x->∃y,Q x=some y
 eq:∀b q,b≠0->Q b=some q->∀c,Chain (mix rank P Q (rank b)) q c↔∀p,E p b->bm E p->Chain (mix rank P Q (rank b)) p c
theorem mF(R:Rk E rank)(F:iO E rank P)(T:Turn E rank P Q):∀(k y r q:Nat),rank 0 - rank y<k->y≠0->P y=some r->Q y=some q->Chain P r q
 |0,y,r,q,h,_,_,_=>by omega
 |k+1,y,r,q,h,hy,hr,hq=>by
  have sub:∀x c,Chain (mix rank P Q (rank y)) x c->Chain P x c:=λx c u=>ie (λx z B=>by
   by_cases e:rank y<rank x
   ·rw[ck e] at B;obtain⟨w,U⟩:=F.all x (T.ok.dom x z B);have:=R.top x (T.ok.dom x z B);exact⟨w,U,λJ=>mF R F T k x w z (by omega) J U B⟩
   ·rw[dq e] at B;refine⟨z,B,λJ=>?_⟩;obtain⟨_,v,I⟩:=F.ok.up x z J B;exact .self I) u
  obtain⟨Y,v,I⟩:=T.ok.up y q hy hq;have hs:Chain (mix rank P Q (rank y)) q q:= .self (y:=v) (by rw[ck Y];exact I)
  exact F.met y r hy hr q λp e Z=>sub _ _ ((T.eq y q hy hq q).mp hs p e Z)
theorem nP(R:Rk E rank)(F:iO E rank P)(T:Turn E rank P Q)(par:∀b,b≠0->bm E b->∃f,E f b/\bm E f/\rank b<rank f):
  ∀(k t y r q:Nat),rank 0 - rank y<k->y≠0->rank y<=t->P y=some r->Q y=some q->Chain (mix rank P Q t) r q
 |0,t,y,r,q,h,_,_,_,_=>by omega
 |k+1,t,y,r,q,h,hy,ht,hr,hq=>by
  obtain⟨f,e,hf,Z⟩:=par y hy (F.ok.dom y r hr);obtain⟨u1,v,hv⟩:=T.ok.up y q hy hq;have hs:Chain (mix rank P Q (rank y)) q q:= .self (y:=v) (by rw[ck u1];exact hv)
  have A0:=(T.eq y q hy hq q).mp hs f e hf;have hC:=((mF R F T _ y r q (aI _) hy hr hq).le F.ok).1
  have key:∀c,t<=c->rank r<=c+1->Chain (mix rank P Q c) r q:=λc h1 h2=>by
   have A:Chain (mix rank P Q c) f q:=ie (λx z I=>by
    by_cases e1:rank y<rank x
    ·rw[ck e1] at I;have:=R.top x (T.ok.dom x z I);by_cases e2:c<rank x
     ·refine⟨z,by rw[ck e2];exact I,λU=>?_⟩
      obtain⟨l1,w,J⟩:=T.ok.up x z U I;exact .self (y:=w) (by rw[ck (by omega)];exact J)
     ·obtain⟨w,J⟩:=F.all x (T.ok.dom x z I);exact⟨w,by rw[dq e2];exact J,λU=>nP R F T par k c x w z (by omega) U (by omega) J I⟩
    ·rw[dq e1] at I;refine⟨z,by rw[dq (by omega)];exact I,λU=>?_⟩
     obtain⟨l1,w,J⟩:=F.ok.up x z U I;by_cases e3:c<rank z
     ·obtain⟨w2,Y⟩:=T.all z (F.ok.dom z w J);exact .self (y:=w2) (by rw[ck e3];exact Y)
     ·exact .self (y:=w) (by rw[dq e3];exact J)) A0
   have B:Chain (mix rank P Q c) f r:=low F.ok T.all (F.fwd y r f hy hr e hf Z) h2;exact Fy (Ok.mix F.ok T.ok F.all T.all) B A hC
  by_cases e:rank r<=t+1
  ·exact key t (ac _) e
  ·have:=key (rank r - 1) (by omega) (by omega)
   exact(hV T.ok (by omega)).mpr ((hV T.ok (by omega)).mp this)
theorem uE(R:Rk E rank)(F:iO E rank P)(T:Turn E rank P Q)(par:∀b,b≠0->bm E b->∃f,E f b/\bm E f/\rank b<rank f):iO E rank Q:=by
 refine⟨T.ok,T.all,λb q I B c hc=>?_,λb q f I B e hf hlt=>?_⟩
 ·obtain⟨Y,v,hv⟩:=T.ok.up b q I B;refine(hV (P:=P) T.ok Y).mp ((T.eq b q I B c).mpr λp e hp=>ie (λx z J=>?_) (hc p e hp));by_cases e1:rank b<rank x
  ·refine⟨z,by rw[ck e1];exact J,λZ=>?_⟩
   obtain⟨l1,w,U⟩:=T.ok.up x z Z J;exact .self (y:=w) (by rw[ck (by omega)];exact U)
  ·obtain⟨w,U⟩:=F.all x (T.ok.dom x z J);exact⟨w,by rw[dq e1];exact U,λZ=>nP R F T par _ (rank b) x w z (aI _) Z (by omega) U J⟩
 ·obtain⟨Y,v,hv⟩:=T.ok.up b q I B;have hs:Chain (mix rank P Q (rank b)) q q:= .self (y:=v) (by rw[ck Y];exact hv)
  exact(hV T.ok hlt).mp ((T.eq b q I B q).mp hs f e hf)
theorem sD(R:Rk E rank)(F:iO E rank P)(T:Turn E rank P Q){q:Nat}(c:y≠0)(hr:P y=some r)(B:Q y=some q):rank r<=rank q/\(rank r=rank q->r=q):=
 (mF R F T _ y r q (aI _) c hr B).le F.ok
theorem nQ(R:Rk E rank)(F:iO E rank P)(T:Turn E rank P P)(B:bm E b):Chain P b c↔cn E c b:=by
 have J:∀t,mix rank P P t=P:=λt=>by funext x;simp[mix]
 refine sN R F.ok (λx b r B hr e I c h=>?_) (F.all b B);have:=T.eq b r B hr c;rw[J] at this;exact this.mp h x e I
structure Turn1(E:Nat->Nat->Prop)(rank:Nat->Nat)(Q:Nat->Option Nat):Prop where
 ok:Ok E rank Q
 all:∀x,bm E x->∃y,Q x=some y
 eq:∀b q,b≠0->Q b=some q->∀c,Chain (mix rank (λ_=>none) Q (rank b)) q c↔∀p,E p b->bm E p->rank b<rank p->Chain (mix rank (λ_=>none) Q (rank b)) p c
theorem lI(T:Turn1 E rank Q):iO E rank Q:=by
 refine⟨T.ok,T.all,λb q I B c hc=>?_,λb q f I B e hf F=>?_⟩
 ·obtain⟨J,v,U⟩:=T.ok.up b q I B;exact(hV T.ok J).mp ((T.eq b q I B c).mpr λp e Y Z=>(hV T.ok Z).mpr (hc p e Y))
 ·obtain⟨J,v,U⟩:=T.ok.up b q I B;have hs:Chain (mix rank (λ_=>none) Q (rank b)) q q:= .self (y:=v) (by rw[ck J];exact U)
  exact(hV T.ok F).mp ((T.eq b q I B q).mp hs f e hf F)
def go(upd:(Nat->Option Nat)->Nat->Nat):(Nat->Option Nat)->List Nat->Nat->Option Nat
 |N,[]=>N
 |N,b::bs=>go upd (put N b (upd N b)) bs
variable{upd:(Nat->Option Nat)->Nat->Nat}
theorem gd:∀{bs:List Nat}{N:Nat->Option Nat}{x:Nat},x∉bs->go upd N bs x=N x
 |[],_,_,_=>rfl
 |b::bs,N,x,h=>by
  have c:x≠b:=λz=>by subst z;exact h List.mem_cons_self
  rw[go,gd (λz=>h (List.mem_cons_of_mem _ z)),fY c]
theorem jb:∀{l1 l2:List Nat}{N:Nat->Option Nat},go upd N (l1++l2)=go upd (go upd N l1) l2
 |[],_,_=>rfl
 |b::l1,l2,N=>by rw[List.cons_append,go,go,jb]
theorem ww(nd:(l1++b::l2).Nodup)(h1:∀x∈l1,rank b<rank x)(B:∀x∈l2,rank x<rank b):go upd P l1=mix rank P (go upd P (l1++b::l2)) (rank b):=by
 funext x;rw[List.nodup_append] at nd;by_cases e:x∈l1
 ·have c:x∉b::l2:=λz=>nd.2.2 x e x z rfl;rw[ck (h1 x e),jb,gd c]
 ·rw[gd e];by_cases e2:x∈b::l2
  ·have:¬rank b<rank x:=by
    rcases List.mem_cons.mp e2 with rfl|e2
    ·omega
    ·have:=B x e2;omega
   rw[dq this]
  ·have c:x∉l1++b::l2:=λz=>(List.mem_append.mp z).elim e e2;by_cases k:rank b<rank x
   ·rw[ck k,gd c]
   ·rw[dq k]
theorem zw(nd:(l1++b::l2).Nodup):go upd P (l1++b::l2) b=some (upd (go upd P l1) b):=by have h:=(List.nodup_append.mp nd).2.1;rw[jb,go,gd (List.nodup_cons.mp h).1,e_]
structure Upd(E:Nat->Nat->Prop)(rank:Nat->Nat)(pre:Nat->List Nat)(upd:(Nat->Option Nat)->Nat->Nat):Prop where
 lead:∀b p,p∈pre b↔E p b/\bm E p
 par:∀b,b≠0->bm E b->∃f,E f b/\bm E f/\rank b<rank f
 met:∀N b,Ok E rank N->b≠0->bm E b->(∃f∈pre b,∃y,N f=some y)->(∃y,N (upd N b)=some y)/\∀c,Chain N (upd N b) c↔∀p∈pre b,(∃y,N p=some y)->Chain N p c
variable{pre:Nat->List Nat}
theorem l7(R:Rk E rank)(U:Upd E rank pre upd):∀{l l2:List Nat}{N:Nat->Option Nat},Ok E rank N->(l++l2).Pairwise (λx y=>rank y<rank x)->(∀x∈l,bm E x/\x≠0)->(∀x,bm E x->x∈l++l2∨∃y,N x=some y)->
  Ok E rank (go upd N l)/\∀x,bm E x->x∈l2∨∃y,go upd N l x=some y
 |[],_,_,K,_,_,A=>⟨K,A⟩
 |b::l,l2,N,K,hs,h,A=>by
  obtain⟨J,I⟩:=h b List.mem_cons_self;obtain⟨f,e,cf,hl⟩:=U.par b I J;have hs':=List.pairwise_cons.mp hs
  have Z:∃y,N f=some y:=by
   rcases A f cf with z|z
   ·rcases List.mem_cons.mp z with z|z
    ·subst z;omega
    ·have:=hs'.1 f z;omega
   ·exact z
  have Y:=(U.lead b f).mpr ⟨e,cf⟩;obtain⟨m1,m2⟩:=U.met N b K I J ⟨f,Y,Z⟩;have key:∀{p},p∈(pre b).filter (λp=>(N p).isSome)↔p∈pre b/\∃y,N p=some y:=λ{p}=>by rw[List.mem_filter,Option.isSome_iff_exists]
  have K':=(Ok.put R K (ps:=(pre b).filter λp=>(N p).isSome) I J (key.mpr ⟨Y,Z⟩) hl (λp B=>⟨((U.lead b p).mp (key.mp B).1).1,(key.mp B).2⟩) m1 λc=>(m2 c).trans ⟨λh p B=>h p (key.mp B).1 (key.mp B).2,λh p B hd=>h p (key.mpr ⟨B,hd⟩)⟩).1
  have A':∀x,bm E x->x∈l++l2∨∃y,put N b (upd N b) x=some y:=λx F=>by
   by_cases z:x=b
   ·subst z;exact .inr ⟨_,e_⟩
   ·rw[fY z];rcases A x F with w|w
    ·rcases List.mem_cons.mp w with w|w
     ·exact absurd w z
     ·exact .inl w
    ·exact .inr w
  exact l7 R U (l:=l) K' hs'.2 (λx F=>h x (List.mem_cons_of_mem _ F)) A'
theorem parts{bs:List Nat}(hs:bs.Pairwise λx y=>rank y<rank x)(e:bs=l1++b::l2):(l1++b::l2).Nodup/\(∀x∈l1,rank b<rank x)/\∀x∈l2,rank x<rank b:=by
 have nd:bs.Nodup:=hs.imp λh=>by intro z;subst z;omega
 rw[e] at nd hs;rw[List.pairwise_append] at hs;exact⟨nd,λx c=>hs.2.2 x c b List.mem_cons_self,λx c=>(List.pairwise_cons.mp hs.2.1).1 x c⟩
theorem qW(R:Rk E rank)(F:iO E rank P)(U:Upd E rank pre upd){bs:List Nat}(hs:bs.Pairwise λx y=>rank y<rank x)(Y:∀x,x∈bs↔bm E x/\x≠0):Turn E rank P (go upd P bs):=by
 obtain⟨K,A⟩:=l7 R U (l:=bs) (l2:=[]) F.ok (by simpa using hs) (λx B=>(Y x).mp B) λx B=>.inr (F.all x B)
 have A:∀x,bm E x->∃y,go upd P bs x=some y:=λx B=>(A x B).resolve_left (λz=>nomatch z);refine⟨K,A,λb q Z I c=>?_⟩;obtain⟨l1,l2,e⟩:=List.append_of_mem ((Y b).mpr ⟨K.dom b q I,Z⟩);obtain⟨nd,h1,h2⟩:=parts hs e;have cb:=K.dom b q I;rw[e,zw nd] at I;cases I;rw[e,<-ww nd h1 h2];obtain⟨K1,_⟩:=l7 R U (l:=l1) (l2:=b::l2) F.ok (by rw[<-e];exact hs) (λx B=>(Y x).mp (by rw[e];exact aS _ B)) λx B=>.inr (F.all x B)
 have A1:∀x,bm E x->∃y,go upd P l1 x=some y:=λx B=>by
  by_cases z:x∈l1
  ·obtain⟨y,hy⟩:=A x B;rw[e,jb,gd (λw=>(List.nodup_append.mp nd).2.2 x z x w rfl)] at hy;exact⟨y,hy⟩
  ·rw[gd z];exact F.all x B
 obtain⟨f,ef,cf,_⟩:=U.par b Z cb;rw[(U.met _ b K1 Z cb ⟨f,(U.lead b f).mpr ⟨ef,cf⟩,A1 f cf⟩).2 c];exact⟨λh p J cp=>h p ((U.lead b p).mpr ⟨J,cp⟩) (A1 p cp),λh p J _=>h p ((U.lead b p).mp J).1 ((U.lead b p).mp J).2⟩
noncomputable def f7:Nat->Option Nat:=λx=>if x=0 then some 0 else none
theorem mY:Ok E rank f7:=by
 have h:∀x y,f7 x=some y->x=0:=λx y h=>by
  by_cases e:x=0
  ·exact e
  ·simp[f7,e] at h
 exact⟨rfl,λx y c=>by cases h x y c;exact⟨[0],.nil⟩,λx y B c=>absurd (h x y c) B,λx y d B c=>absurd (h x y c) B⟩
theorem nR(R:Rk E rank)(U:Upd E rank pre upd){bs:List Nat}(hs:bs.Pairwise λx y=>rank y<rank x)(J:∀x,x∈bs↔bm E x/\x≠0):Turn1 E rank (go upd f7 bs):=by
 have A0:∀x,bm E x->x∈bs∨∃y,f7 x=some y:=λx B=>by
  by_cases z:x=0
  ·subst z;exact .inr ⟨0,rfl⟩
  ·exact .inl ((J x).mpr ⟨B,z⟩)
 obtain⟨K,A⟩:=l7 R U (l:=bs) (l2:=[]) (mY (E:=E) (rank:=rank)) (by simpa using hs) (λx B=>(J x).mp B) (by simpa using A0)
 have A:∀x,bm E x->∃y,go upd f7 bs x=some y:=λx B=>(A x B).resolve_left (λz=>nomatch z);refine⟨K,A,λb q Y I c=>?_⟩;obtain⟨l1,l2,e⟩:=List.append_of_mem ((J b).mpr ⟨K.dom b q I,Y⟩);obtain⟨nd,h1,h2⟩:=parts hs e;have cb:=K.dom b q I;obtain⟨f,ef,Z,hl⟩:=U.par b Y cb;have h0:rank b<rank 0:=az hl (R.top f Z)
 have em:mix rank (λ_=>none) (go upd f7 bs) (rank b)=go upd f7 l1:=by
  rw[e,ww (P:=f7) nd h1 h2,<-e];funext x;by_cases k:rank b<rank x
  ·rw[ck k,ck k]
  ·rw[dq k,dq k];have:x≠0:=λz=>by subst z;exact k h0
   simp[f7,this]
 have set:∀x,bm E x->((∃y,go upd f7 l1 x=some y)↔rank b<rank x):=λx B=>by
  rw[<-em];by_cases k:rank b<rank x
  ·rw[ck k];exact⟨λ_=>k,λ_=>A x B⟩
  ·rw[dq k];exact⟨(λ⟨y,h⟩=>nomatch h),λh=>absurd h k⟩
 obtain⟨K1,_⟩:=l7 R U (l:=l1) (l2:=b::l2) (mY (E:=E) (rank:=rank)) (by rw[<-e];exact hs) (λx B=>(J x).mp (by rw[e];exact aS _ B)) (by rw[<-e];exact A0)
 rw[e,zw nd] at I;cases I;rw[em,(U.met _ b K1 Y cb ⟨f,(U.lead b f).mpr ⟨ef,Z⟩,(set f Z).mpr hl⟩).2 c];exact⟨λh p F cp hr=>h p ((U.lead b p).mpr ⟨F,cp⟩) ((set p cp).mpr hr),λh p F hd=>h p ((U.lead b p).mp F).1 ((U.lead b p).mp F).2 ((set p ((U.lead b p).mp F).2).mp hd)⟩
end
end Dom
namespace PySem.SeqAt
open AutoSeq1 (wpAny_loadPart')
open MeetsSeq
noncomputable def DQ(h:Heap)(d:Addr):Prop:=∃es ep,h.get? d=some {cls:= .type "dict",dict:=none,data:= .dict es ep,slots:= #[]}
section
end
end PySem.SeqAt
namespace L2
open PySem PySem.Spec PyProof.Rows
variable{scope:Scope}{x y:Str}{pos px:Pos}{ifs:List Expr}{elt iter:Expr}{s:Shared}{X:Cx}{pins:List (Addr×Obj)}{fp:List Addr}
noncomputable def jh(cells:List (Str×Addr)):List (Str×NameKind)->List (Str×Addr)->List (Str×Addr)
 |[],cs=>cs
 |(n,k)::r,cs=>if k== .free then jh cells r ((n,(cells.lookup n).getD 0)::cs) else jh cells r cs
theorem iH{env:Env}:∀(names:List (Str×NameKind))(cs:List (Str×Addr)),(∀x∈names,x.2=.free->∃c,env.cells.lookup x.1=some c)->
  (forIn names cs λ(x:Str×NameKind)(r:List (Str×Addr))=>(do
   if x.2==NameKind.free then
    let a <-cellOf env x.1
    pure (ForInStep.yield ((x.1,a)::r))
   else pure (ForInStep.yield r):Sem (ForInStep (List (Str×Addr)))))=(pure (jh env.cells names cs):Sem (List (Str×Addr)))
 |[],cs,_=>rfl
 |(n,k)::r,cs,h=>by
  have F:=λcs=>iH (env:=env) r cs λx I=>h x (List.mem_cons_of_mem _ I);rw[List.forIn_cons];cases hk:(k==NameKind.free) with
  |true=>
   obtain⟨c,J⟩:=h (n,k) List.mem_cons_self (by simpa using hk)
   have B:env.cells.lookup n=some c:=J;simp only[jh,hk,if_true,cellOf,B,Option.getD_some,pure_bind];exact F _
  |false=>simp only[jh,hk,Bool.false_eq_true,if_false,pure_bind];exact F _
theorem fN{env:Env}(h:∀x∈scope.names,x.2=.free->∃c,env.cells.lookup x.1=some c):closureFor scope env=pure (jh env.cells scope.names []):=by rw[<-iH scope.names [] h];unfold closureFor;simp only[bind_pure]
theorem ny{cells:List (Str×Addr)}{y:Str}{c:Addr}:∀{names:List (Str×NameKind)}{cs:List (Str×Addr)},(jh cells names cs).lookup y=some c->((y,NameKind.free)∈names/\c=(cells.lookup y).getD 0)∨cs.lookup y=some c
 |[],cs,h=>.inr h
 |(n,k)::r,cs,h=>by
  unfold jh at h;cases hk:(k==NameKind.free) with
  |true=>
   have B:k=.free:=by simpa using hk
   subst B;rw[if_pos (by rfl)] at h
   rcases ny h with⟨a,b⟩|q
   ·exact .inl ⟨List.mem_cons_of_mem _ a,b⟩
   ·cases hy:y==n with
    |true=>
     rw[List.lookup_cons,hy] at q;have:y=n:=by simpa using hy
     subst this;exact .inl ⟨List.mem_cons_self,(ai q).symm⟩
    |false=>rw[List.lookup_cons,hy] at q;exact .inr q
  |false=>
   rw[hk] at h;rcases ny (by simpa using h) with⟨a,b⟩|q
   ·exact .inl ⟨List.mem_cons_of_mem _ a,b⟩
   ·exact .inr q
theorem gv{cells:List (Str×Addr)}{y:Str}:∀{names:List (Str×NameKind)}{cs:List (Str×Addr)},(∀c,cs.lookup y=some c->c=(cells.lookup y).getD 0)->((y,NameKind.free)∈names∨cs.lookup y=some ((cells.lookup y).getD 0))->
  (jh cells names cs).lookup y=some ((cells.lookup y).getD 0)
 |[],cs,_,h=>by
  rcases h with h|h
  ·simp at h
  ·exact h
 |(n,k)::r,cs,hc,h=>by
  unfold jh;cases hk:(k==NameKind.free) with
  |true=>
   have B:k=.free:=by simpa using hk
   subst B;rw[if_pos (by rfl)]
   cases hy:y==n with
   |true=>
    have:y=n:=by simpa using hy
    subst this;refine gv (λc e=>?_) (.inr ?_)
    ·rw[List.lookup_cons,hy] at e;exact(ai e).symm
    ·rw[List.lookup_cons,hy]
   |false=>
    refine gv (λc e=>?_) ?_
    ·rw[List.lookup_cons,hy] at e;exact hc c e
    ·rcases h with h|h
     ·rcases List.mem_cons.mp h with e|e
      ·injection e with e1 _;rw[e1] at hy;simp at hy
      ·exact .inl e
     ·right;rw[List.lookup_cons,hy];exact h
  |false=>
   have h':(y,NameKind.free)∈r∨List.lookup y cs=some ((List.lookup y cells).getD 0):=by
    rcases h with h|h
    ·rcases List.mem_cons.mp h with e|e
     ·injection e with _ e2;rw[<-e2] at hk;simp at hk
     ·exact .inl e
    ·exact .inr h
   have q:=gv (names:=r) (cs:=cs) hc h';simpa using q
theorem bQ{env:Env}{names:List (Str×NameKind)}{k:NameKind}:(names.map λ(n,k)=>if(k==NameKind.free&&env.scope.kind== .function&&env.kindOf n==some .cell) then(n,NameKind.cell) else(n,k)).lookup x=some k->
  names.lookup x=some k∨(k=.cell/\names.lookup x=some .free):=by
 induction names with
 |nil=>intro h;simp at h
 |cons p r ih=>
  obtain⟨n,c⟩:=p;intro h;have h:List.lookup x ((if(c==NameKind.free&&env.scope.kind== .function&&env.kindOf n==some .cell)=true then(n,NameKind.cell) else(n,c))::_)=some k:=h
  cases hx:x==n with
  |true=>
   by_cases hc:(c==NameKind.free&&env.scope.kind== .function&&env.kindOf n==some .cell)=true
   ·rw[if_pos hc] at h;simp only[List.lookup_cons,hx] at h;cases h;refine .inr ⟨rfl,?_⟩;simp only[List.lookup_cons,hx];simp only[Bool.and_eq_true] at hc;have:c=.free:=by simpa using hc.1.1
    rw[this]
   ·rw[if_neg hc] at h;simp only[List.lookup_cons,hx] at h ⊢;exact .inl h
  |false=>
   have h':List.lookup x (r.map λ(n,k)=>if(k==NameKind.free&&env.scope.kind== .function&&env.kindOf n==some .cell) then(n,NameKind.cell) else(n,k))=some k:=by
    by_cases hc:(c==NameKind.free&&env.scope.kind== .function&&env.kindOf n==some .cell)=true
    ·rw[if_pos hc] at h;simpa only[List.lookup_cons,hx] using h
    ·rw[if_neg hc] at h;simpa only[List.lookup_cons,hx] using h
   simp only[List.lookup_cons,hx];exact ih h'
theorem ju{prog:Program}{w:World}{A:Around}{R:Result->Shared->Prop}{target:Expr}{it acc:Value}{env:Env}(I:Nat->Shared->Prop)
  (turn:∀n s,I n s->wpAny (model prog w) A (pyNext it) (λr s₁=>match r with
   |none=>R (.ok .next) s₁
   |some v=>wpAny (model prog w) A (letOwnedTupleGo target it v) (λ_ s₁'=>wpAny (model prog w) A (assign target env v) (λ_ s₂=>
     wpAny (model prog w) A (forIn ifs true λc r=>if r=true then do let ok <-isTrue c env (eval c env);pure (ForInStep.yield ok) else pure (ForInStep.yield r)) (λok s₃=>
      if ok=true then wpAny (model prog w) A (eval elt env) (λx s₄=>
       wpAny (model prog w) A (call (.builtin "list.append") [acc,x]) (λ_ s₅=>∃m,m<n/\I m s₅) (notedBy (model prog w) A env λe s'=>R (.error e) s') s₄) (notedBy (model prog w) A env λe s'=>R (.error e) s') s₃
      else ∃m,m<n/\I m s₃) (notedBy (model prog w) A env λe s'=>R (.error e) s') s₂) (notedBy (model prog w) A env λe s'=>R (.error e) s') s₁') (notedBy (model prog w) A env λe s'=>R (.error e) s') s₁) (notedBy (model prog w) A env λe s'=>R (.error e) s') s)
  (n:Nat)(h:I n s):
  codeAny (model prog w) A (.compLoop (.ListComp elt [⟨target,iter,ifs,0⟩] scope pos) 0 it acc env) R s:=by
 refine codeAny_loop rfl I (λn s B=>?_) n h;show wpAny _ A ((compTurn (.ListComp elt [⟨target,iter,ifs,0⟩] scope pos) 0 it acc env).onRaise (λx=>do noteFrame x env;theTreesLotGoes x)) _ _ s
 refine wpAny_noted ?_;rw[compTurn_list];refine aa (wpAny_standAt (aa (aW (turn n s B) (λr s₁ h₁=>?_) λ_ _ h'=>h')));cases r with
 |none=>exact ah h₁
 |some v=>
  refine aa (aW h₁ (λ_ s₁' h₁'=>?_) λ_ _ h'=>h');refine aa (aW h₁' (λ_ s₂ h₂=>aa (aW h₂ (λok s₃ h₃=>?_) λ_ _ h'=>h')) λ_ _ h'=>h');cases ok with
  |false=>exact ah ⟨rfl,h₃⟩
  |true=>exact aa (aa (aW h₃ (λx s₄ h₄=>aa (aW h₄ (λ_ s₅ h₅=>ah (ah ⟨rfl,h₅⟩)) λ_ _ h'=>h')) λ_ _ h'=>h'))
noncomputable def zv(z:Str):Str:=⟨#[46]++z.cps⟩
def iN(scope:Scope)(N:List Str):List Str:=N.map λz=>if scope.names.lookup z=some .local then zv z else z
def bJ(X:Cx)(x:Str)(scope:Scope)(fp:List Addr)(s:Shared)(H:Hp):Cx where
 prog:=X.prog
 w:=X.w
 K:=X.K
 mg:=X.mg
 base:=X.base
 A:=X.A
 N:=x::iN scope X.N
 s₀:=s
 H₀:=H
 env:=compEnvC scope (jh X.env.cells scope.names []) s.heap.objs.size X.env
 outer:=X.stack
 stack:=X.stack
 ex:=fp
 calm:=X.calm
 fn:=λ_=>false
 pn:=X.pn
 xe:=λ_ _=>False
structure CompScope(X:Cx)(x:Str)(scope:Scope):Prop where
 kind:scope.kind=.function
 nocell:∀y∈scope.names,y.2≠ .cell
 locs:∀y∈scope.names,y.2=.local->scope.names.lookup y.1=some .local
 own:scope.names.lookup x=some .local
 frees:∀y∈scope.names,y.2=.free->X.env.kindOf y.1=some .cell∨X.env.kindOf y.1=some .free
 apart:∀z∈X.N,scope.names.lookup z=some .local->scope.names.lookup (zv z)=none
theorem CompScope.cells(C:CompScope X x scope)(ok:X.Ok):∀y∈scope.names,y.2=.free->∃c,X.env.cells.lookup y.1=some c:=λy B F=>ok.has y.1 (C.frees y B F)
theorem CompScope.cell_of{c:Addr}(C:CompScope X x scope)(ok:X.Ok)(h:(jh X.env.cells scope.names []).lookup y=some c):(y,NameKind.free)∈scope.names/\X.env.cells.lookup y=some c:=by
 rcases ny h with⟨a,b⟩|q
 ·obtain⟨c',e⟩:=C.cells ok _ a rfl;have e':X.env.cells.lookup y=some c':=e;rw[e',Option.getD_some] at b;exact⟨a,by rw[b];exact e'⟩
 ·simp at q
theorem gH{σ:St}{H:Hp}(I:Inv X pins σ H s)(C:CompScope X x scope)(U:∀b∈fp,eZ X pins H b)(ho:∀b∈fp,∃o,s.heap.get? b=some o):
  (bJ X x scope fp s H).Ok where
 mod:=I.ok.mod
 kind:=C.kind
 glob:=I.ok.glob
 blt:=I.ok.blt
 above:=ac _
 inj:=λy z c h1 h2=>I.ok.inj y z c (C.cell_of I.ok h1).2 (C.cell_of I.ok h2).2
 has:=λy B=>by
  have B:(relabel scope X.env).names.lookup y=some .cell∨(relabel scope X.env).names.lookup y=some .free:=B
  have J:scope.names.lookup y=some .free:=by
   rcases B with B|B
   ·rcases bQ B with q|⟨_,q⟩
    ·exact absurd rfl (C.nocell _ (aQ q))
    ·exact q
   ·rcases bQ B with q|⟨z,_⟩
    ·exact q
    ·cases z
  exact⟨_,gv (λc e=>by simp at e) (.inl (aQ J))⟩
 cab:=λy c h _=>nomatch h
 hd:=I.ok.hd
 frames:=I.ok.frames
 stk:= .inl rfl
 exf:=λb F=>by obtain⟨o,e⟩:=ho b F;obtain⟨f0,f1,f2,Z,Y,f5⟩:=U b F;exact⟨au (am e),λy c h=>Y y c (C.cell_of I.ok h).2⟩
 bs:=I.bs
 bsz:=aR I.ok.bsz I.sz
 noex:=λb o e F=>by
  obtain⟨f0,f1,f2,Z,Y,f5⟩:=U b F;rcases Z with z|z
  ·exact I.ok.noex b o e z
  ·exact absurd (az (am (I.ok.bs b o e).1) z) (be _)
 exfs:=λb F hs=>by
  obtain⟨f0,f1,f2,Z,Y,f5⟩:=U b F;rcases List.mem_cons.mp (I.stkSub b hs) with z|z
  ·exact f1 z
  ·exact f2 z
 funs:=I.stack
 frf:=I.stkFree
theorem pw{σ:St}{H:Hp}{h':Heap}{tk:Nat}{m:Str->Option Value}(I:Inv X pins σ H s)(C:CompScope X x scope)(hf:∀b∈fp,eZ X pins H b)(ho:∀b∈fp,∃o,s.heap.get? b=some o)
  (hn:h'.Ns s.heap.objs.size m)(k:∀b o,s.heap.get? b=some o->h'.get? b=some o):Inv (bJ X x scope fp s H) pins (none::σ) H {s with heap:=h',toks:=tk}:=by
 refine⟨gH I C hf ho,rfl,I.bare,Un.kept k,⟨m,hn,λi y v h1 h2 h3=>?_⟩,λy c h=>?_,I.hok.fresh (ac _),λy c h=>I.freeC y c (C.cell_of I.ok h).2,λp hp=>?_,I.hok.kept k,?_⟩
 ·cases i with
  |zero=>simp at h2
  |succ i=>
   have h1:(iN scope X.N)[i]? =some y:=by simpa[bJ] using h1
   unfold iN at h1;rw[aj] at h1;obtain⟨J,h1',F⟩:=Option.map_eq_some_iff.mp h1;have h2:σ[i]? =some (some v):=by simpa using h2
   have h3:(relabel scope X.env).names.lookup y=some .local∨(relabel scope X.env).names.lookup y=some .cell∨(relabel scope X.env).names.lookup y=some .free:=h3
   have U:∃kd,scope.names.lookup y=some kd:=by rcases h3 with q|q|q<;>rcases bQ q with q|⟨_,q⟩<;>exact⟨_,q⟩
   have nl:¬scope.names.lookup J=some .local:=λhl=>by rw[if_pos hl] at F;obtain⟨kd,q⟩:=U;rw[<-F,C.apart J (ak h1') hl] at q;cases q
   rw[if_neg nl] at F;subst F
   have Z:scope.names.lookup J=some .free:=by
    rcases h3 with q|q|q
    ·rcases bQ q with q|⟨z,_⟩
     ·exact absurd q nl
     ·cases z
    ·rcases bQ q with q|⟨_,q⟩
     ·exact absurd rfl (C.nocell _ (aQ q))
     ·exact q
    ·rcases bQ q with q|⟨z,_⟩
     ·exact q
     ·cases z
   have B:=aQ Z;obtain⟨m0,hn0,hl0⟩:=I.loc
   have Y:DY X.env.scope J:=by
    rcases C.frees _ B rfl with q|q
    ·exact .inr (.inl q)
    ·exact .inr (.inr q)
   obtain⟨u,r,l⟩:=hl0 i J v h1' h2 Y;refine⟨u,r,.inr ⟨?_,?_⟩⟩
   ·rcases h3 with q|q|q
    ·rcases bQ q with q|⟨z,_⟩
     ·rw[Z] at q;cases q
     ·cases z
    ·exact .inl q
    ·exact .inr q
   ·rcases l with⟨lk,_⟩|⟨_,c,hc,hcell⟩
    ·rcases C.frees _ B rfl with q|q
     ·rw[lk] at q;cases q
     ·rw[lk] at q;cases q
    ·refine⟨c,?_,?_⟩
     ·show(jh X.env.cells scope.names []).lookup J=some c;have q:=gv (cells:=X.env.cells) (y:=J) (names:=scope.names) (cs:=[]) (λc e=>by simp at e) (.inl B)
      rw[hc,Option.getD_some] at q;exact q
     ·obtain⟨o,e,d⟩:=hcell;exact⟨o,k _ _ e,d⟩
 ·obtain⟨v,o,e,d⟩:=I.cell y c (C.cell_of I.ok h).2;exact⟨v,o,k _ _ e,d⟩
 ·obtain⟨e,n,ne,nf,d⟩:=I.pin p hp;refine⟨k _ _ e,n,au (am e),λz=>?_,d⟩;rcases List.mem_cons.mp (I.stkSub _ z) with q|q
  ·exact ne q
  ·exact nf q
 ·show(none::σ).length=(x::iN scope X.N).length;rw[List.length_cons,List.length_cons,I.len,iN,List.length_map]
def xu:TT:=λ_ H Q=>Q true H
def xj(X:Cx)(ifs:List Expr)(t:TT):Prop:=
 ∀(pins:List (Addr×Obj))(s:Shared)(σ:St)(H:Hp)(Q:Bool->Hp->Prop),Inv X pins σ H s->t σ H Q->
  wpAny (model X.prog X.w) X.A (forIn ifs true λc r=>if r=true then do let ok <-isTrue c X.env (eval c X.env);pure (ForInStep.yield ok) else pure (ForInStep.yield r)) (TP X pins σ Q) X.xe s
theorem jM:xj X [] xu:=λ_ _ _ H _ I h=>wpAny_tests_nil ⟨H,I,h⟩
theorem xT{c:Expr}{t:TT}(h:PT X c t):xj X [c] t:=λpins s σ H Q I q=>wpAny_tests_one (h pins s σ H Q I q)
def qZ(wi:TI)(tc:TT)(te:TE):TE:=λσ H Q=>wi σ H λJ H1=>∀D,H1 D=none->∃W:Nat->Nat->List V->Hp->Prop,(∃m,W 0 m [] (upd H1 D (.lst [])))/\∀i m ys H2,W i m ys H2->
 (J.stop i H2/\Q (.ref D) H2)∨(J.go i H2/\∃N:List V->Hp->Prop,(∀ys' H',N ys' H'->∃m',m'<m/\W (i+1) m' ys' H')/\
  ∀x H',J.yld i H2 x H'->tc (some x::σ) H' λb H3=>if b=true then te (some x::σ) H3 λy H4=>H4 D=some (.lst ys)/\ys.length<sizeLine/\N (ys++[y]) (upd H4 D (.lst (ys++[y]))) else N ys H3)
theorem pv{σ σ':St}{H H':Hp}{s':Shared}{h':Heap}(I:Inv X pins σ H s)(Y:∀b∈fp,eZ X pins H b)(J:Inv (bJ X x scope fp s H) pins σ' H' s')
  (U:Heap.SameBut s.heap.objs.size s'.heap h'):Inv X pins σ H' {s' with heap:=h'}:=by
 have hC:H' s.heap.objs.size=none:=J.free;have ne:∀b o,s.heap.get? b=some o->b≠s.heap.objs.size:=λb o e=>au (am e)
 have u:Un (tH X.stack) fp H H' s.heap h':=
  ⟨λb o e n B F=>(U.2 b (ne b o e)).trans (J.base.keep b o e n B F),λb o e n B F=>by
    obtain⟨sl,q⟩:=J.base.slot b o e n B F;exact⟨sl,(U.2 b (ne b o e)).trans q⟩,J.base.free,λb o e F=>by
    obtain⟨o',q⟩:=J.base.there b o e F;exact⟨o',(U.2 b (ne b o e)).trans q⟩,J.base.tups,J.base.frzs,J.base.tbls⟩
 have Z:gX X.prog X.w H' h':=λb ob e=>by
  refine(J.hok b ob e).stay (λc w' hc q=>(U.2 c ?_).trans q) (λ_ q=>q) λ_ _ q=>q;intro z;rcases hc with y|y
  ·rw[z] at y;rw[<-y,hC] at e;cases e
  ·rw[z,hC] at y;cases y
 exact I.call' (s':={s' with heap:=h'}) J.os u Z J.bare λb B=>⟨(Y b B).2.2.2.1,(Y b B).2.1,(Y b B).2.2.2.2.1,(Y b B).2.2.2.2.2⟩
theorem mi{wi:TI}{tc:TT}{te:TE}(hc:X.calm=true)(C:CompScope X x scope)(hx:(x::iN scope X.N).Nodup)(hN:X.N.Nodup)
  (hi:PI X (.Name x px) iter wi)(ht:∀fp s H,xj (bJ X x scope fp s H) ifs tc)(he:∀fp s H,PE (bJ X x scope fp s H) elt te)
  (hs:∀x,foldedSetIterable iter X.env x=pure x){σ:St}{H:Hp}{Q:VK}(I:Inv X pins σ H s)(h:qZ wi tc te σ H Q)
  {use:Option (Value->Sem Unit)}{QQ:Value->Shared->Prop}{ppos:Pos}
  (fin:∀{fp:List Addr}{F s5:Shared}{Y H4:Hp}{D:Addr}{o:Option V},Inv X pins σ Y F->(∀b∈fp,eZ X pins Y b)->Inv (bJ X x scope fp F Y) pins (o::σ) H4 s5->Q (.ref D) H4->compPost (model X.prog X.w) X.A X.xe use QQ (.ref D) F.heap.objs.size (.ok .next) s5):
  wpAny (model X.prog X.w) X.A (comprehension (.ListComp elt [⟨.Name x px,iter,ifs,0⟩] scope pos) scope X.env ppos (newList []) false (eval iter X.env) use) QQ X.xe s:=by
 refine wpAny_comprehension_free rfl hs (fN (C.cells I.ok)) C.kind C.locs (bW (hi pins s σ H _ I h) λv s1 h1=>bW h1 λitv B h2=>?_);obtain⟨it,fp,tn,J,H2,e,I2,T,st2,f2,R⟩:=h2;subst e;have hD:H2 B.heap.objs.size=none:=I2.hok.fresh (ac _);obtain⟨W,⟨m0,w0⟩,turn⟩:=R _ hD;refine wpAny_newObj_type (wpAny_newFunctionEnv C.nocell (by intro y hy;simp at hy) (λh₁ hns₁ hsb₁=>?_) C.kind)
 dsimp only at hns₁ hsb₁ ⊢
 have I3:Inv X pins σ (upd H2 B.heap.objs.size (.lst [])) {B with heap:=B.heap.push {cls:= .type "list",dict:=none,data:= .seq ([]:List Value).toArray}}:=
  I2.laid (t':=B.toks) (o:= .lst []) (λb ob q=>ae _ q) (ac _) ⟨Nat.zero_le _,[],0,.nil,aq _ rfl⟩
 have f3:∀b∈fp,eZ X pins (upd H2 B.heap.objs.size (.lst [])) b:=λb U=>by
  obtain⟨o,e,_⟩:=T.obj _ _ st2 b U;obtain⟨g0,g⟩:=f2 b U;exact⟨by rw[aL (au (am e))];exact g0,g⟩
 have o3:∀b∈fp,∃o,(B.heap.push {cls:= .type "list",dict:=none,data:= .seq ([]:List Value).toArray}).get? b=some o:=λb U=>by obtain⟨o,e,_⟩:=T.obj _ _ st2 b U;exact⟨o,ae _ e⟩
 have old:∀b o,(B.heap.push {cls:= .type "list",dict:=none,data:= .seq ([]:List Value).toArray}).get? b=some o->h₁.get? b=some o:=λb o e=>
  hsb₁.extBut b o (au (am e)) (ae _ e)
 have K0:=pw (x:=x) (scope:=scope) (fp:=fp) (h':=h₁) (tk:=B.toks) I3 C f3 o3 hns₁ old;have st3:tn 0 h₁:=T.keep _ _ _ st2 λb _ o e=>old b o (ae _ e);generalize hs3:({B with heap:=B.heap.push {cls:= .type "list",dict:=none,data:= .seq ([]:List Value).toArray}}:Shared)=F at I3 K0;have es3:B.heap.push {cls:= .type "list",dict:=none,data:= .seq ([]:List Value).toArray}=F.heap:=by rw[<-hs3]
 generalize hH3:upd H2 B.heap.objs.size (.lst [])=Y at I3 K0 f3 w0
 have stat:∀{H':Hp},(∀b∈fp,H' b=none)->∀b∈fp,eZ (bJ X x scope fp F Y) pins H' b:=λ{H'} hn b U=>by
  obtain⟨o,e⟩:=o3 b U;rw[es3] at e;obtain⟨g0,g1,g2,g3,g4,g5⟩:=f3 b U;refine⟨hn b U,au (am e),λz=>?_,.inl U,λy c h=>g4 y c (C.cell_of I.ok h).2,g5⟩;rcases List.mem_cons.mp (I3.stkSub _ z) with q|q
  ·exact g1 q
  ·exact g2 q
 have nd':(x::iN scope X.N).Nodup:=hx;have lx:(relabel scope X.env).names.lookup x=some .local:=lookup_relabel_local C.own
 have loop:codeAny (model X.prog X.w) X.A (.compLoop (.ListComp elt [⟨.Name x px,iter,ifs,0⟩] scope pos) 0 (.ref it) (.ref B.heap.objs.size) (bJ X x scope fp F Y).env)
   (compPost (model X.prog X.w) X.A X.xe use QQ (Value.ref B.heap.objs.size) F.heap.objs.size) {F with heap:=h₁,toks:=B.toks}:=by
  refine ju (λn s'=>∃i o ys H',Inv (bJ X x scope fp F Y) pins (o::σ) H' s'/\tn i s'.heap/\(∀b∈fp,H' b=none)/\W i n ys H') ?_ m0 ⟨0,none,[],Y,K0,st3,λb U=>(f3 b U).1,w0⟩;rintro n s4 ⟨i,o,ys,H4,I4,st4,fr4,w4⟩;rcases turn i n ys H4 w4 with⟨stop,qn⟩|⟨go,N,hNN,step⟩
  ·refine bW (T.done (bJ X x scope fp F Y) rfl rfl rfl hc i pins s4 (o::σ) H4 _ I4 (stat fr4) st4 stop) λr s5 ⟨hr,I5⟩=>?_;subst hr;exact fin I3 f3 I5 qn
  ·refine bW (T.item (bJ X x scope fp F Y) rfl rfl rfl hc i pins s4 (o::σ) H4 _ I4 (stat fr4) st4 go) λr s5 hp=>?_;obtain⟨u,hr,h5⟩:=hp;subst hr;refine bW h5 λ_ s6 hp=>?_;obtain⟨y,H6,I6,r6,y6,Z,fr6⟩:=hp;have I6':=I6.pinned (stat fr6) (T.obj _ _ Z);refine wpAny_assign_Name (j8 (i:=0) I6' nd' rfl (.inl lx) r6 (λs7 I7=>?_) (.inr lx))
   have keepS:∀{o':Option V}{H':Hp}{s':Shared},Inv (bJ X x scope fp F Y) (pins++iY fp s6.heap) (o'::σ) H' s'->tn (i+1) s'.heap/\∀b∈fp,H' b=none:=λ{o' H' s'} I'=>by refine⟨T.keep _ _ _ Z λb U o e=>(I'.pin (b,o) (aK _ (aK _ (dv U e)))).1,λb U=>?_⟩;obtain⟨o,e,d⟩:=T.obj _ _ Z b U;exact(I'.pin (b,o) (aK _ (aK _ (dv U e)))).2.1
   refine aW (ht fp F Y _ s7 (some y::σ) H6 _ I7 (step y H6 y6)) (λb s8 ⟨H8,I8,q8⟩=>?_) λ_ _ z=>False.elim z;cases b with
   |false=>rw[if_neg aH] at q8 ⊢;obtain⟨m',hm,w8⟩:=hNN ys H8 q8;obtain⟨a1,a2⟩:=keepS I8;exact⟨m',hm,i+1,some y,ys,H8,I8.unpinned,a1,a2,w8⟩
   |true=>rw[if_pos rfl] at q8 ⊢;refine aW (he fp F Y _ s8 (some y::σ) H8 _ I8 q8) (λv9 s9 ⟨y9,H9,I9,r9,hacc,hsz,q9⟩=>?_) λ_ _ z=>False.elim z;refine aW (i5 (X:=bJ X x scope fp F Y) _ s9 (some y::σ) H9 (.ref B.heap.objs.size) [y9] _ [v9] (λ_ H'=>N (ys++[y9]) H') I9 rfl (.cons r9 .nil) ⟨_,_,_,rfl,rfl,hacc,hsz,q9⟩) (λ_ s10 ⟨_,H10,I10,_,q10⟩=>?_) λ_ _ z=>False.elim z;obtain⟨m',hm,w10⟩:=hNN _ H10 q10;obtain⟨a1,a2⟩:=keepS I10;exact⟨m',hm,i+1,some y,_,H10,I10.unpinned,a1,a2,w10⟩
 have eC:(B.heap.push {cls:= .type "list",dict:=none,data:= .seq ([]:List Value).toArray}).objs.size=F.heap.objs.size:=by rw[es3]
 rw[eC];have es4:({heap:=h₁,gens:=B.gens,drawn:=B.drawn,toks:=B.toks+([]:List (Str×Value)).length,os:=B.os}:Shared)={F with heap:=h₁,toks:=B.toks}:=by rw[<-hs3];rfl
 rw[es4];exact codeAny_compStart_list loop (T.self _ 0 _ _ _ st3 loop)
theorem rK{B:TI}{F:TT}{te:TE}(hc:X.calm=true)(C:CompScope X x scope)(hx:(x::iN scope X.N).Nodup)(hN:X.N.Nodup)
  (hi:PI X (.Name x px) iter B)(ht:∀fp s H,xj (bJ X x scope fp s H) ifs F)(he:∀fp s H,PE (bJ X x scope fp s H) elt te)
  (hs:∀x,foldedSetIterable iter X.env x=pure x:=by intro _;rfl):PE X (.ListComp elt [⟨.Name x px,iter,ifs,0⟩] scope pos) (qZ B F te):=by
 intro pins s σ H Q I h;rw[eval_ListComp];refine mi (use:=none) hc C hx hN hi ht he hs I h λI3 f3 J Y=>?_;obtain⟨Z,c,_⟩:=id J.loc;exact⟨Z,c,λh' U=>⟨.ref _,_,pv I3 f3 J U,rfl,Y⟩⟩
theorem qd{py:Pos}{spos:Pos}{wi:TI}{tc:TT}{te:TE}{i:Nat}(hc:X.calm=true)(C:CompScope X x scope)(hx:(x::iN scope X.N).Nodup)(Y:X.N.Nodup)
  (hi:PI X (.Name x px) iter wi)(ht:∀fp s H,xj (bJ X x scope fp s H) ifs tc)(he:∀fp s H,PE (bJ X x scope fp s H) elt te)
  (hs:∀x,foldedSetIterable iter X.env x=pure x)(hy:X.N[i]? =some y)(hl:Loc X.env.scope y)(hf:X.fn y=true∨X.env.scope.names.lookup y=some .local):
  PS X (.Assign [.Name y py] (.ListComp elt [⟨.Name x px,iter,ifs,0⟩] scope pos) spos) (pT (qZ wi tc te) (fe i)):=by
 have B:∃b,swapsWith (.ListComp elt [⟨.Name x px,iter,ifs,0⟩] scope pos) (some (.Name y py)) spos.line X.env=pure b:=⟨_,rfl⟩;obtain⟨b,B⟩:=B;cases b with
 |false=>exact qe Y hy hl (rK hc C hx Y hi ht he hs) B hf
 |true=>
  intro pins s σ H D I h;rw[exec_Assign_Name_used _ _ _ _ B];refine aa (wpAny_standAt (aa ?_));show wpAny _ X.A (do let _ <-comprehension (.ListComp elt [⟨.Name x px,iter,ifs,0⟩] scope pos) scope X.env _ (newList []) false (eval iter X.env) (some (assign (.Name y py) X.env))) _ _ s
  refine aa (aW (mi (use:=some (assign (.Name y py) X.env)) (QQ:=λ_ s'=>SP X pins D .next s') hc C hx Y hi ht he hs I h λ{fp U s5 H3 H4 Dd o} F f3 I5 qn=>?_) (λ_ s' hq=>ah (ah hq)) λ_ _ e=>e)
  have I6:Inv X pins σ H4 s5:=by have:=pv F f3 I5 (Heap.SameBut.refl _ _);exact this
  obtain⟨m5,hn5,_⟩:=id I5.loc;have hC0:H4 U.heap.objs.size=none:=I5.free;have J:X.env.locals≠U.heap.objs.size:=au F.lt;show wpAny _ X.A (assign (.Name y py) X.env (.ref Dd)) _ _ _;refine wpAny_assign_Name (iS (v:= .ref Dd) I6 Y hy hl rfl (λs7 I7 hch=>?_) hf);obtain⟨a,sb,ha⟩:=hch
  have hCa:U.heap.objs.size≠a:=by
   rcases ha with rfl|ha
   ·exact J.symm
   ·obtain⟨v,q⟩:=F.cell y a ha;exact(au q.lt).symm
  refine⟨m5,hn5.sameBut sb hCa,λh' Z=>⟨_,H4,?_,qn⟩⟩;refine I7.turned (t':=s7.toks) (it:=U.heap.objs.size) (λb o B e=>(Z.2 b B).trans e) hC0 J.symm (.inr F.sz) (λz c e=>?_) λp hp=>?_
  ·obtain⟨v,q⟩:=F.cell z c e;exact au q.lt
  ·exact au (am (F.pin p hp).1)
end L2
namespace Ev
open PySem PySem.Spec PyProof.Rows L2
variable{xs ys:List V}{a p:Addr}{H H':Hp}{m m' n:Nat}{ι ι':Nat->Addr}{vs:List (Key×V)}
inductive D where
 |non|bl (b:Bool)|int (i:Int)|str (x:Str)|tup (xs:List D)|fl (xs:List D)|ref (n:Nat)
 deriving Inhabited
inductive O where
 |lst (xs:List D)|dct (kvs:List (Key×D))|ins (c:Str)(fs:List (Str×D))
noncomputable abbrev a9:=List O
inductive R(α:Type) where
 |ok (a:α)(st:a9)
 |bad
abbrev M(α:Type):=a9->R α
noncomputable def ret{α:Type}(a:α):M α:=λst=>.ok a st
noncomputable def a_{α β:Type}(m:M α)(f:α->M β):M β:=λst=>match m st with
 | .ok a st'=>f a st'
 | .bad=>.bad
noncomputable def stuck{α:Type}:M α:=λ_=>.bad
noncomputable def dI{α:Type}(o:Option α):M α:=λst=>match o with
 |some a=>.ok a st
 |none=>.bad
noncomputable def items:O->Option (List D)
 | .lst xs=>some xs
 |_=>none
inductive Sh where
 |sc (v:V)|t (xs:List D)|l (xs:List D)|d (kvs:List (Key×D))
noncomputable def shape(st:a9):D->Option Sh
 | .non=>some (.sc .non)
 | .bl b=>some (.sc (.bl b))
 | .int i=>some (.sc (.int i))
 | .str x=>some (.sc (.str x))
 | .tup xs=>some (.t xs)
 | .fl xs=>some (.l xs)
 | .ref n=>match st[n]? with
  |some (.lst xs)=>some (.l xs)
  |some (.dct kvs)=>some (.d kvs)
  |_=>none
noncomputable def cY(f:D->D->Option Bool):List D->List D->Option Bool
 |[],[]=>some true
 |[],_::_=>some false
 |_::_,[]=>some false
 |a::as,b::bs=>match f a b,cY f as bs with
  |some x,some y=>some (x&&y)
  |_,_=>none
noncomputable def oR:Key->Bool
 | .inl _=>true
 | .inr _=>false
noncomputable def nK(f:D->D->Option Bool)(a b:D):Option Bool:=match a,b with
 | .ref i,.ref j=>if i=j then some true else f a b
 |_,_=>f a b
def dF(n:Nat)(st:a9)(a b:D):Option Bool:=match n with
 |0=>none
 |n+1=>match shape st a,shape st b with
  |some (.sc x),some (.sc y)=>some (nL x y)
  |some (.t xs),some (.t ys)=>cY (nK (dF n st)) xs ys
  |some (.l xs),some (.l ys)=>cY (nK (dF n st)) xs ys
  |some (.d xs),some (.d ys)=>if xs.map (·.1)=ys.map (·.1)/\(xs.map (·.1)).all oR=true then cY (nK (dF n st)) (xs.map (·.2)) (ys.map (·.2)) else none
  |some (.d _),some _=>none
  |some _,some (.d _)=>none
  |some _,some _=>some false
  |_,_=>none
def xi(K:aA)(H:Hp)(a:Addr)(xs:List V):Prop:=
 (∃o,H a=some (.frz o (.lst xs)))∨
  ∃(o:Obj)(its:Array Value)(n:Nat),K.lookup a=some o/\o.cls=.type "list" /\o.dict=none/\o.data=.seq its n/\its.size<=sizeLine/\bn xs its.toList
theorem xi.sql{K:aA}(h:xi K H a xs):dD K H a xs:=by
 rcases h with h|h
 ·exact .inl (.inr h)
 ·exact .inr h
mutual
inductive VRel(K:aA)(H:Hp)(ι:Nat->Addr)(m:Nat):D->V->Prop where
 |non:VRel K H ι m .non .non
 |bl (b:Bool):VRel K H ι m (.bl b) (.bl b)
 |int (i:Int):VRel K H ι m (.int i) (.int i)
 |str (x:Str):VRel K H ι m (.str x) (.str x)
 |tup {a:Addr}{ds:List D}{xs:List V}(h:fP K H a xs)(r:VRels K H ι m ds xs):VRel K H ι m (.tup ds) (.ref a)
 |fl {a:Addr}{ds:List D}{xs:List V}(h:xi K H a xs)(r:VRels K H ι m ds xs):VRel K H ι m (.fl ds) (.ref a)
 |ref {n:Nat}(h:n<m):VRel K H ι m (.ref n) (.ref (ι n))
inductive VRels(K:aA)(H:Hp)(ι:Nat->Addr)(m:Nat):List D->List V->Prop where
 |nil:VRels K H ι m [] []
 |cons {d:D}{v:V}{ds:List D}{vs:List V}(h:VRel K H ι m d v)(t:VRels K H ι m ds vs):VRels K H ι m (d::ds) (v::vs)
end
structure Ext0(H H':Hp)(ι ι':Nat->Addr)(m m':Nat):Prop where
 le:m<=m'
 ad:∀n,n<m->ι' n=ι n
 tp:∀b xs,H b=some (.tup xs)->H' b=some (.tup xs)
 fz:∀b o u,H b=some (.frz o u)->H' b=some (.frz o u)
structure Ext(H H':Hp)(ι ι':Nat->Addr)(m m':Nat):Prop extends Ext0 H H' ι ι' m m' where
 fr:∀b o,H b=some o->(∀n,n<m->ι n≠b)->H' b=some o/\∀n,n<m'->ι' n≠b
theorem Ext.refl(H:Hp)(ι:Nat->Addr)(m:Nat):Ext H H ι ι m m:=⟨⟨ac _,λ_ _=>rfl,λ_ _ h=>h,λ_ _ _ h=>h⟩,λ_ _ h k=>⟨h,k⟩⟩
theorem Ext.trans{H1 J:Hp}{ι1 ι2:Nat->Addr}{F B:Nat}(a:Ext H H1 ι ι1 m F)(b:Ext H1 J ι1 ι2 F B):Ext H J ι ι2 m B:=
 ⟨⟨aR a.le b.le,λn I=>(b.ad n (az I a.le)).trans (a.ad n I),λc xs e=>b.tp c xs (a.tp c xs e),λc o u e=>b.fz c o u (a.fz c o u e)⟩,λc o e k=>by obtain⟨Y,U⟩:=a.fr c o e k;exact b.fr c o Y U⟩
theorem fP.ext{K:aA}(e:Ext0 H H' ι ι' m m')(h:fP K H a xs):fP K H' a xs:=by
 rcases h with(h|⟨o,h⟩)|h
 ·exact .inl (.inl (e.tp _ _ h))
 ·exact .inl (.inr ⟨o,e.fz _ _ _ h⟩)
 ·exact .inr h
theorem xi.ext{K:aA}(e:Ext0 H H' ι ι' m m')(h:xi K H a xs):xi K H' a xs:=by
 rcases h with⟨o,h⟩|h
 ·exact .inl ⟨o,e.fz _ _ _ h⟩
 ·exact .inr h
mutual
theorem VRel.ext0{K:aA}(e:Ext0 H H' ι ι' m m'):∀{d:D}{v:V},VRel K H ι m d v->VRel K H' ι' m' d v
 |_,_,.non=>.non
 |_,_,.bl b=>.bl b
 |_,_,.int i=>.int i
 |_,_,.str x=>.str x
 |_,_,.tup h r=>.tup (fP.ext e h) (VRels.ext0 e r)
 |_,_,.fl h r=>.fl (xi.ext e h) (VRels.ext0 e r)
 |_,_,.ref (n:=n) h=>by rw[<-e.ad n h];exact .ref (az h e.le)
theorem VRels.ext0{K:aA}(e:Ext0 H H' ι ι' m m'):∀{ds:List D}{vs:List V},VRels K H ι m ds vs->VRels K H' ι' m' ds vs
 |_,_,.nil=>.nil
 |_,_,.cons h t=>.cons (VRel.ext0 e h) (VRels.ext0 e t)
end
theorem VRel.ext{K:aA}{d:D}{v:V}(h:VRel K H ι m d v)(e:Ext H H' ι ι' m m'):VRel K H' ι' m' d v:=VRel.ext0 e.toExt0 h
theorem VRels.ext{K:aA}{d:List D}{v:List V}(h:VRels K H ι m d v)(e:Ext H H' ι ι' m m'):VRels K H' ι' m' d v:=VRels.ext0 e.toExt0 h
section
variable{K:aA}{H:Hp}{ι:Nat->Addr}{m:Nat}
theorem VRels.length:∀{ds:List D}{vs:List V},VRels K H ι m ds vs->ds.length=vs.length
 |_,_,.nil=>rfl
 |_,_,.cons _ t=>by rw[List.length_cons,List.length_cons,t.length]
theorem VRels.get:∀{ds:List D}{vs:List V}{i:Nat}{d:D},VRels K H ι m ds vs->ds[i]? =some d->∃v,vs[i]? =some v/\VRel K H ι m d v
 |_,_,_,_,.nil,e=>by simp at e
 |_,_,0,_,.cons r _,e=>by simp at e;subst e;exact⟨_,rfl,r⟩
 |_,_,i+1,d,.cons _ t,e=>by
  obtain⟨v,h1,c⟩:=t.get (i:=i) (d:=d) (by simpa using e)
  exact⟨v,by simpa using h1,c⟩
theorem VRels.append:∀{ds es:List D}{vs ws:List V},VRels K H ι m ds vs->VRels K H ι m es ws->VRels K H ι m (ds++es) (vs++ws)
 |_,_,_,_,.nil,s=>s
 |_,_,_,_,.cons r t,s=>.cons r (t.append s)
theorem VRels.set:∀{ds:List D}{vs:List V}{d:D}{v:V}(i:Nat),VRels K H ι m ds vs->VRel K H ι m d v->VRels K H ι m (ds.set i d) (vs.set i v)
 |_,_,_,_,_,.nil,_=>.nil
 |_,_,_,_,0,.cons _ t,r=>.cons r t
 |_,_,_,_,i+1,.cons q t,r=>.cons q (t.set i r)
theorem VRels.take:∀{ds:List D}{vs:List V}(n:Nat),VRels K H ι m ds vs->VRels K H ι m (ds.take n) (vs.take n)
 |_,_,0,_=>.nil
 |_,_,_+1,.nil=>.nil
 |_,_,n+1,.cons r t=>.cons r (t.take n)
theorem VRels.drop:∀{ds:List D}{vs:List V}(n:Nat),VRels K H ι m ds vs->VRels K H ι m (ds.drop n) (vs.drop n)
 |_,_,0,h=>h
 |_,_,_+1,.nil=>.nil
 |_,_,n+1,.cons _ t=>t.drop n
end
inductive DRels(K:aA)(H:Hp)(ι:Nat->Addr)(m:Nat):List (Key×D)->List (Key×V)->Prop where
 |nil:DRels K H ι m [] []
 |cons {k:Key}{d:D}{v:V}{ds:List (Key×D)}{vs:List (Key×V)}(h:VRel K H ι m d v)(t:DRels K H ι m ds vs):DRels K H ι m ((k,d)::ds) ((k,v)::vs)
theorem DRels.ext0{K:aA}(e:Ext0 H H' ι ι' m m'){ds:List (Key×D)}(h:DRels K H ι m ds vs):DRels K H' ι' m' ds vs:=by
 induction h with
 |nil=>exact .nil
 |cons h t ih=>exact .cons (VRel.ext0 e h) ih
theorem DRels.ext{K:aA}{ds:List (Key×D)}(h:DRels K H ι m ds vs)(e:Ext H H' ι ι' m m'):DRels K H' ι' m' ds vs:=h.ext0 e.toExt0
theorem DRels.length{K:aA}{ds:List (Key×D)}(h:DRels K H ι m ds vs):ds.length=vs.length:=by
 induction h with
 |nil=>rfl
 |cons h t ih=>rw[List.length_cons,List.length_cons,ih]
theorem DRels.append{K:aA}{ds es:List (Key×D)}{ws:List (Key×V)}(h:DRels K H ι m ds vs)(k:DRels K H ι m es ws):DRels K H ι m (ds++es) (vs++ws):=by
 induction h with
 |nil=>exact k
 |cons h t ih=>exact .cons h ih
inductive FRels(K:aA)(H:Hp)(ι:Nat->Addr)(m:Nat):List (Str×D)->List (Str×V)->Prop where
 |nil:FRels K H ι m [] []
 |cons {k:Str}{d:D}{v:V}{ds:List (Str×D)}{vs:List (Str×V)}(h:VRel K H ι m d v)(t:FRels K H ι m ds vs):FRels K H ι m ((k,d)::ds) ((k,v)::vs)
theorem FRels.ext0{K:aA}(e:Ext0 H H' ι ι' m m'){ds:List (Str×D)}{vs:List (Str×V)}(h:FRels K H ι m ds vs):FRels K H' ι' m' ds vs:=by
 induction h with
 |nil=>exact .nil
 |cons h t ih=>exact .cons (VRel.ext0 e h) ih
theorem FRels.look{K:aA}{f:Str}{ds:List (Str×D)}{vs:List (Str×V)}(h:FRels K H ι m ds vs){d:D}(e:ds.lookup f=some d):∃v,vs.lookup f=some v/\VRel K H ι m d v:=by
 induction h with
 |nil=>cases e
 | @cons k d' v ds vs h t ih=>
  rw[List.lookup_cons] at e ⊢;cases q:f==k with
  |true=>rw[q] at e;cases e;exact⟨v,rfl,h⟩
  |false=>rw[q] at e;exact ih e
noncomputable def putD(f:Str)(d:D):List (Str×D)->List (Str×D)
 |[]=>[(f,d)]
 |(g,x)::r=>if g=f then(g,d)::r else(g,x)::putD f d r
theorem FRels.put{K:aA}{f:Str}{d:D}{v:V}(q:VRel K H ι m d v){ds:List (Str×D)}{vs:List (Str×V)}(h:FRels K H ι m ds vs):FRels K H ι m (putD f d ds) (eh f v vs):=by
 induction h with
 |nil=>exact .cons q .nil
 | @cons k d' v' ds vs h t ih=>
  unfold putD eh;by_cases e:k=f
  ·rw[if_pos e,if_pos e];exact .cons q t
  ·rw[if_neg e,if_neg e];exact .cons h ih
theorem FRels.length{K:aA}{ds:List (Str×D)}{vs:List (Str×V)}(h:FRels K H ι m ds vs):ds.length=vs.length:=by
 induction h with
 |nil=>rfl
 |cons h t ih=>rw[List.length_cons,List.length_cons,ih]
def pJ(K:aA)(H:Hp)(ι:Nat->Addr)(m:Nat)(a:Addr):O->Prop
 | .lst ds=>∃xs,H a=some (.lst xs)/\VRels K H ι m ds xs
 | .dct kvs=>∃vs,H a=some (.dK vs)/\DRels K H ι m kvs vs
 | .ins x fs=>∃C dx vs,PySem.W.nsIn K mainGlobals x=some (some (.ref C))/\H a=some (.ins C dx vs)/\FRels K H ι m fs vs/\fs.length<=900
theorem pJ.move{K:aA}{o:O}(h:pJ K H ι m a o)(E:Ext0 H H' ι ι' m m')(B:H' a=H a):pJ K H' ι' m' a o:=by
 cases o with
 |lst ds=>obtain⟨xs,h1,c⟩:=h;exact⟨xs,B.trans h1,VRels.ext0 E c⟩
 |dct ds=>obtain⟨xs,h1,c⟩:=h;exact⟨xs,B.trans h1,c.ext0 E⟩
 |ins x fs=>obtain⟨C,dx,xs,h0,h1,c,F⟩:=h;exact⟨C,dx,xs,h0,B.trans h1,c.ext0 E,F⟩
theorem pJ.there{K:aA}{o:O}(h:pJ K H ι m a o):∃u,H a=some u/\(∀xs,u≠ .tup xs)/\∀B w,u≠ .frz B w:=by
 cases o with
 |lst ds=>obtain⟨xs,h1,c⟩:=h;exact⟨_,h1,(λ_ z=>by cases z),(λ_ _ z=>by cases z)⟩
 |dct ds=>obtain⟨xs,h1,c⟩:=h;exact⟨_,h1,(λ_ z=>by cases z),(λ_ _ z=>by cases z)⟩
 |ins x fs=>obtain⟨C,dx,xs,h0,h1,c⟩:=h;exact⟨_,h1,(λ_ z=>by cases z),(λ_ _ z=>by cases z)⟩
structure Sim(K:aA)(H:Hp)(ι:Nat->Addr)(st:a9):Prop where
 inj:∀i j,i<st.length->j<st.length->ι i=ι j->i=j
 ob:∀n o,st[n]? =some o->pJ K H ι st.length (ι n) o
theorem Sim.laid{K:aA}{st:a9}(S:Sim K H ι st)(F:H p=none){ho:HO}{o:O}
  (hr:∀ι',(∀n,n<st.length->ι' n=ι n)->ι' st.length=p->pJ K (upd H p ho) ι' (st.length+1) p o):
  ∃ι',Ext H (upd H p ho) ι ι' st.length (st.length+1)/\ι' st.length=p/\Sim K (upd H p ho) ι' (st++[o]):=by
 have U:∀n o,st[n]? =some o->ι n≠p:=λn o e=>by have q:=S.ob n o e;obtain⟨u,h1,_⟩:=q.there;exact aJ h1 F
 have E:Ext H (upd H p ho) ι (λn=>if n=st.length then p else ι n) st.length (st.length+1):=⟨⟨Nat.le_succ _,λn B=>by simp[Nat.ne_of_lt B],λb xs e=>by rw[aL (aJ e F)];exact e,λb c u e=>by rw[aL (aJ e F)];exact e⟩,λb c e k=>by
  refine⟨by rw[aL (aJ e F)];exact e,λn B=>?_⟩
  by_cases hn':n=st.length
  ·rw[if_pos hn'];exact(aJ e F).symm
  ·rw[if_neg hn'];exact k n (by omega)⟩
 refine⟨λn=>if n=st.length then p else ι n,E,by simp,?_⟩
 have lt:∀{n},n<st.length->∃o,st[n]? =some o:=λ{n} B=>⟨st[n],by simp[B]⟩
 refine⟨λi j hi Z e=>?_,λn c e=>?_⟩
 ·rw[aB,List.length_singleton] at hi Z;by_cases hi':i=st.length
  ·by_cases hj':j=st.length
   ·omega
   ·have q:p=ι j:=by simpa[hi',hj'] using e
    obtain⟨c,Y⟩:=lt (show j<st.length by omega)
    exact absurd q.symm (U j c Y)
  ·by_cases hj':j=st.length
   ·have q:ι i=p:=by simpa[hi',hj'] using e
    obtain⟨c,Y⟩:=lt (show i<st.length by omega)
    exact absurd q (U i c Y)
   ·exact S.inj i j (by omega) (by omega) (by simpa[hi',hj'] using e)
 ·rw[aB,List.length_singleton];by_cases B:n=st.length
  ·subst B;rw[aE (ac _),Nat.sub_self] at e;have e':o=c:=by simpa using e
   subst e';have:=hr (λn=>if n=st.length then p else ι n) (λn B=>by simp[Nat.ne_of_lt B]) (by simp)
   simpa using this
  ·have J:n<st.length:=by have:=(aw e).1;rw[aB,List.length_singleton] at this;omega
   rw[aC J] at e;have old:=S.ob n c e;have I:ι n≠p:=U n c e;have hι:(if n=st.length then p else ι n)=ι n:=by rw[if_neg B]
   rw[hι];exact old.move E.toExt0 (aL I)
theorem Sim.write{K:aA}{st:a9}(S:Sim K H ι st){ds es:List D}(e:st[n]? =some (.lst ds))(r:VRels K H ι st.length es ys):
  Ext H (upd H (ι n) (.lst ys)) ι ι st.length st.length/\Sim K (upd H (ι n) (.lst ys)) ι (st.set n (.lst es)):=by
 obtain⟨xs,h1,J⟩:=S.ob n _ e;have B:n<st.length:=(aw e).1
 have E:Ext H (upd H (ι n) (.lst ys)) ι ι st.length st.length:=by
  refine⟨⟨ac _,λ_ _=>rfl,λb zs q=>?_,λb o u q=>?_⟩,λb o q k=>⟨by rw[aL (k n B).symm];exact q,k⟩⟩
  ·rw[aL (fc q h1 (by intro z;cases z))];exact q
  ·rw[aL (fc q h1 (by intro z;cases z))];exact q
 refine⟨E,λi j hi I=>S.inj i j (by simpa using hi) (by simpa using I),λk o q=>?_⟩
 rw[aF];by_cases hk:k=n
 ·subst hk;rw[aO B] at q;cases q;exact⟨ys,bF,r.ext E⟩
 ·rw[aM (Ne.symm hk)] at q;have F:k<st.length:=(aw q).1;have c:ι k≠ι n:=λz=>hk (S.inj k n F B z);have old:=S.ob k o q;exact old.move E.toExt0 (aL c)
theorem Sim.add{K:aA}{st:a9}(S:Sim K H ι st){ds:List D}(I:H p=some (.lst ys))(ap:∀n,n<st.length->ι n≠p)(r:VRels K H ι st.length ds ys):
  ∃ι',(∀n,n<st.length->ι' n=ι n)/\ι' st.length=p/\Sim K H ι' (st++[.lst ds]):=by
 have up:Ext0 H H ι (λn=>if n=st.length then p else ι n) st.length (st.length+1):=⟨Nat.le_succ _,λn c=>by simp[Nat.ne_of_lt c],λ_ _ e=>e,λ_ _ _ e=>e⟩
 refine⟨λn=>if n=st.length then p else ι n,λn c=>by simp[Nat.ne_of_lt c],by simp,⟨λi j hi J e=>?_,λn F e=>?_⟩⟩
 ·rw[aB,List.length_singleton] at hi J;by_cases hi':i=st.length
  ·by_cases hj':j=st.length
   ·omega
   ·exact absurd (show ι j=p by simpa[hi',hj'] using e.symm) (ap j (by omega))
  ·by_cases hj':j=st.length
   ·exact absurd (show ι i=p by simpa[hi',hj'] using e) (ap i (by omega))
   ·exact S.inj i j (by omega) (by omega) (by simpa[hi',hj'] using e)
 ·rw[aB,List.length_singleton];by_cases c:n=st.length
  ·subst c;rw[aE (ac _),Nat.sub_self] at e;have e':O.lst ds=F:=by simpa using e
   subst e';refine⟨ys,?_,VRels.ext0 up r⟩;simpa using I
  ·have B:n<st.length:=by have:=(aw e).1;rw[aB,List.length_singleton] at this;omega
   rw[aC B] at e;have old:=S.ob n F e;have hι:(if n=st.length then p else ι n)=ι n:=by rw[if_neg c]
   rw[hι];exact old.move up rfl
theorem Sim.writeD{K:aA}{st:a9}(S:Sim K H ι st){kvs c:List (Key×D)}{ys:List (Key×V)}(e:st[n]? =some (.dct kvs))(r:DRels K H ι st.length c ys):
  Ext H (upd H (ι n) (.dK ys)) ι ι st.length st.length/\Sim K (upd H (ι n) (.dK ys)) ι (st.set n (.dct c)):=by
 obtain⟨xs,h1,U⟩:=S.ob n _ e;have F:n<st.length:=(aw e).1
 have E:Ext H (upd H (ι n) (.dK ys)) ι ι st.length st.length:=by
  refine⟨⟨ac _,λ_ _=>rfl,λb zs q=>?_,λb o u q=>?_⟩,λb o q k=>⟨by rw[aL (k n F).symm];exact q,k⟩⟩
  ·rw[aL (fc q h1 (by intro z;cases z))];exact q
  ·rw[aL (fc q h1 (by intro z;cases z))];exact q
 refine⟨E,λi j hi J=>S.inj i j (by simpa using hi) (by simpa using J),λk o q=>?_⟩
 rw[aF];by_cases hk:k=n
 ·subst hk;rw[aO F] at q;cases q;exact⟨ys,bF,r.ext E⟩
 ·rw[aM (Ne.symm hk)] at q;have I:k<st.length:=(aw q).1;have B:ι k≠ι n:=λz=>hk (S.inj k n I F z);have old:=S.ob k o q;exact old.move E.toExt0 (aL B)
theorem Sim.addD{K:aA}{st:a9}(S:Sim K H ι st){ys:List (Key×V)}{ds:List (Key×D)}(I:H p=some (.dK ys))(ap:∀n,n<st.length->ι n≠p)(r:DRels K H ι st.length ds ys):
  ∃ι',(∀n,n<st.length->ι' n=ι n)/\ι' st.length=p/\Sim K H ι' (st++[.dct ds]):=by
 have up:Ext0 H H ι (λn=>if n=st.length then p else ι n) st.length (st.length+1):=⟨Nat.le_succ _,λn c=>by simp[Nat.ne_of_lt c],λ_ _ e=>e,λ_ _ _ e=>e⟩
 refine⟨λn=>if n=st.length then p else ι n,λn c=>by simp[Nat.ne_of_lt c],by simp,⟨λi j hi J e=>?_,λn F e=>?_⟩⟩
 ·rw[aB,List.length_singleton] at hi J;by_cases hi':i=st.length
  ·by_cases hj':j=st.length
   ·omega
   ·exact absurd (show ι j=p by simpa[hi',hj'] using e.symm) (ap j (by omega))
  ·by_cases hj':j=st.length
   ·exact absurd (show ι i=p by simpa[hi',hj'] using e) (ap i (by omega))
   ·exact S.inj i j (by omega) (by omega) (by simpa[hi',hj'] using e)
 ·rw[aB,List.length_singleton];by_cases c:n=st.length
  ·subst c;rw[aE (ac _),Nat.sub_self] at e;have e':O.dct ds=F:=by simpa using e
   subst e';refine⟨ys,?_,r.ext0 up⟩;simpa using I
  ·have B:n<st.length:=by have:=(aw e).1;rw[aB,List.length_singleton] at this;omega
   rw[aC B] at e;have old:=S.ob n F e;have hι:(if n=st.length then p else ι n)=ι n:=by rw[if_neg c]
   rw[hι];exact old.move up rfl
end Ev
namespace PySem.SeqAt
open AutoSeq1 (wpAny_loadPart')
open MeetsSeq
variable{ns:List Int}{es es2:Array DictEntry}{ep ep2:Nat}{a b l:Addr}{f:Nat->Bool}
noncomputable def KD(es:Array DictEntry)(ns:List Int):Prop:=es.size=ns.length/\∀(i:Nat)(e:DictEntry)(n:Int),es[i]? =some e->ns[i]? =some n->(∃t,e.key=.int n t)/\e.hash=hashInt n
def yX(h:Heap)(d:Addr)(ns:List Int)(us:List Value):Prop:=
 ∃es ep,h.get? d=some {cls:= .type "dict",dict:=none,data:= .dict es ep,slots:= #[]}/\es.toList.map (·.val)=us/\ns.Nodup/\KD es ns
theorem C8(hk:KD es ns)(prog:Program)(w:World):KeysOf (intKind prog w) es:=by
 obtain⟨c,hk⟩:=hk;intro e B;obtain⟨i,hi,rfl⟩:=Array.getElem_of_mem B;have J:ns[i]? =some (ns[i]'(by omega)):=by simp[<-c,hi]
 obtain⟨⟨t,I⟩,F⟩:=hk i es[i] _ (by simp[hi]) J
 exact⟨ns[i]'(by omega),by rw[I];exact intKind_is _ _ _ _,F⟩
theorem Dj(nd:ns.Nodup)(hk:KD es ns)(prog:Program)(w:World){i:Nat}{n:Int}(h:ns[i]? =some n):es.findIdx? (λe=>(intKind prog w).is n e.key)=some i:=by
 obtain⟨F,hk⟩:=hk;obtain⟨hi,rfl⟩:=aw h
 have key:∀j (c:j<es.size),(intKind prog w).is ns[i] es[j].key=decide (ns[i]=ns[j]'(by omega)):=λj c=>by
  obtain⟨⟨t,B⟩,_⟩:=hk j es[j] (ns[j]'(by omega)) (by simp[c]) (by simp)
  rw[B];exact KeyKind.is_eq_decide (intKind_is _ _ _ _) _
 rw[Array.findIdx?_eq_some_iff_getElem];refine⟨by omega,by rw[key i (by omega)];simp,λj c=>?_⟩
 rw[key j (by omega)]
 have:ns[i]≠ns[j]:=λe=>by
  have:=List.pairwise_iff_getElem.mp nd j i (by omega) hi c
  exact this e.symm
 simp[this]
section
variable{prog:Program}{w:World}{A:Around}{E:Value->Shared->Prop}{s:Shared}
theorem yG{Q:Array DictEntry->Shared->Prop}(ho:s.heap.get? a=some {cls:= .type "dict",dict:=none,data:= .dict es ep,slots:= #[]})(h:Q es s):wpAny (model prog w) A (dictEntries a) Q E s:=by unfold dictEntries;exact aa (wpAny_loadPart' ho (ah h))
theorem Fh{Q:Nat->Shared->Prop}(ho:s.heap.get? a=some {cls:= .type "dict",dict:=none,data:= .dict es ep,slots:= #[]})(h:Q ep s):wpAny (model prog w) A (dictEpoch a) Q E s:=by unfold dictEpoch;exact aa (wpAny_loadPart' ho (ah h))
theorem ke{id:String}{Q:Bool->Shared->Prop}(zl:(l==sysModules)=false)(zb:(b==sysModules)=false)(I:s.heap.get? l=some {cls:= .type "dict",dict:=none,data:= .dict es ep,slots:= #[]})(Y:s.heap.get? b=some {cls:= .type "dict",dict:=none,data:= .dict es2 ep2,slots:= #[]})
  (nd:ns.Nodup)(h1:KD es ns)(h2:KD es2 ns)(he:∀(j:Nat)(e J:DictEntry),es[j]? =some e->es2[j]? =some J->EqAt A s e.val J.val (f j))(h:Q ((List.range es.size).all f) s):
  wpAny (model prog w) A (Builtin.Dict.samePairs id l b) Q E s:=by
 have e1:=h1.1;have J:=h2.1;unfold Builtin.Dict.samePairs Builtin.Dict.showsAll;rw[zl,zb];refine aa (ah (aa (ah (aa (yG I (aa (yG Y ?_)))))));rw[if_neg (by simp[e1,J])]
 refine aa (Fh I ?_);rw[Std.Legacy.Range.forIn_eq_forIn_range'];refine aa (wpAny_forIn_list _ (λrest q s'=>s'=s/\q=(none,())/\∃k,k+rest.length=es.size/\rest=List.range' k rest.length/\(List.range k).all f=true) _ (λi rest q s' hI=>?_) (λq s' hI=>?_) _ _ ?_)
 ·obtain⟨rfl,rfl,k,hk,hr,Z⟩:=hI
  have U:i=k/\rest=List.range' (k+1) rest.length:=by rw[List.length_cons,List.range'_succ] at hr;injection hr with q1 q2;exact⟨q1,q2⟩
  obtain⟨rfl,c⟩:=U;rw[List.length_cons] at hk;have hi:i<es.size:=by omega
  refine aa (yG I ?_);rw[show es[i]? =some es[i] by simp[hi]]
  dsimp only;have hn:ns[i]? =some (ns[i]'(by omega)):=by simp
  obtain⟨⟨t,k1⟩,k2⟩:=h1.2 i es[i] _ (by simp[hi]) hn
  refine aa (wpAny_holding (aa ?_));rw[k2];refine wpAny_dictFind_of (knd:=intKind prog w) (k:=ns[i]'(by omega)) (by rw[k1];exact intKind_is _ _ _ _) Y rfl (C8 h2 prog w) ?_
  rw[Dj nd h2 prog w hn];dsimp only;refine aa (yG Y ?_);have B:i<es2.size:=by omega
  rw[show es2[i]? =some es2[i] by simp[B]]
  dsimp only;refine wpAny_holding (he i _ _ (by simp[hi]) (by simp[B]) prog w _ _ ?_)
  cases hf:f i with
  |false=>
   have F:(List.range es.size).all f=false:=by
    rw[List.all_eq_false];exact⟨i,List.mem_range.mpr hi,by simp[hf]⟩
   rw[F] at h;exact ah (ah h)
  |true=>
   refine aa (Fh I ?_);rw[if_neg (by simp)]
   refine ah ⟨rfl,rfl,i+1,by omega,c,?_⟩
   rw[List.range_succ,List.all_append,Z];simp[hf]
 ·obtain⟨rfl,rfl,k,hk,hr,Z⟩:=hI;have:k=es.size:=by simpa using hk
  subst this;rw[Z] at h;exact ah h
 ·refine⟨rfl,rfl,0,by simp[Std.Legacy.Range.size],by simp[Std.Legacy.Range.size],rfl⟩
theorem tN(I:(l==sysModules)=false)(J:(b==sysModules)=false)(nd:ns.Nodup)(h1:KD es ns)(Y:KD es2 ns):
  Meets (Builtin.«dict.__eq__» ⟨[.ref l,.ref b],[]⟩) (λA R s=>s.heap.get? l=some {cls:= .type "dict",dict:=none,data:= .dict es ep,slots:= #[]}/\s.heap.get? b=some {cls:= .type "dict",dict:=none,data:= .dict es2 ep2,slots:= #[]}/\
   (∀(j:Nat)(e e2:DictEntry),es[j]? =some e->es2[j]? =some e2->EqAt A.in1 s e.val e2.val (f j))/\R (.ok (.ret (.bool ((List.range es.size).all f)))) s):=
 .of_wp λprog w A R s h=>by
  obtain⟨Z,g,d,tk,os⟩:=s;obtain⟨c,B,U,h⟩:=h
  wp_walk using wpAny_loadPart' c,wpAny_loadPart' B
  refine wpAny_of_eq F.sub_dict_dict ?_;refine aa (ah (aa (ah (aa (ke (f:=f) I J c B nd h1 Y U ?_)))));exact ah ⟨_,rfl,by simpa using h⟩
theorem tM(I:(l==sysModules)=false)(J:(b==sysModules)=false)(nd:ns.Nodup)(h1:KD es ns)(Y:KD es2 ns):
  Meets (Builtin.«dict.__ne__» ⟨[.ref l,.ref b],[]⟩) (λA R s=>s.heap.get? l=some {cls:= .type "dict",dict:=none,data:= .dict es ep,slots:= #[]}/\s.heap.get? b=some {cls:= .type "dict",dict:=none,data:= .dict es2 ep2,slots:= #[]}/\
   (∀(j:Nat)(e e2:DictEntry),es[j]? =some e->es2[j]? =some e2->EqAt A.in1 s e.val e2.val (f j))/\R (.ok (.ret (.bool (!(List.range es.size).all f)))) s):=
 .of_wp λprog w A R s h=>by
  obtain⟨Z,g,d,tk,os⟩:=s;obtain⟨c,B,U,h⟩:=h
  wp_walk using wpAny_loadPart' c,wpAny_loadPart' B
  refine wpAny_of_eq F.sub_dict_dict ?_;refine aa (ah (aa (ah (aa (ke (f:=f) I J c B nd h1 Y U ?_)))));refine ah ⟨_,rfl,?_⟩;cases q:(List.range es.size).all f<;>rw[q] at h<;>exact h
end
section
variable{A:Around}{s:Shared}
theorem RcAt.dicts{us vs:List Value}(J:(l==sysModules)=false)(U:(b==sysModules)=false)(hl:yX s.heap l ns us)(hb:yX s.heap b ns vs)(hu:A.units<cLine)(he:∀j (h1:j<us.length)(h2:j<vs.length),EqAt A.in1 s us[j] vs[j] (f j)):
  RcAt A s (.ref l) (.ref b) ((List.range us.length).all f)/\RcNeAt A s (.ref l) (.ref b) (!(List.range us.length).all f):=by
 obtain⟨es,ep,ho,rfl,nd,Z⟩:=hl;obtain⟨es2,ep2,c,rfl,_,Y⟩:=hb
 have B:∀(j:Nat)(e I:DictEntry),es[j]? =some e->es2[j]? =some I->EqAt A.in1 s e.val I.val (f j):=λj e I q1 q2=>by
  obtain⟨i1,rfl⟩:=Array.getElem?_eq_some_iff.mp q1;obtain⟨i2,rfl⟩:=Array.getElem?_eq_some_iff.mp q2;have:=he j (by simpa using i1) (by simpa using i2)
  simpa using this
 rw[List.length_map,Array.length_toList]
 exact⟨λprog w E Q h=>richCompare_meets_room (op:= .Eq) ⟨_,ho,rfl⟩ ⟨_,c,rfl⟩ F.slot_dict_eq F.entry_dict_eq (F.args_dict_eq_2 _ _) (tN J U nd Z Y) ⟨ho,c,B,(λx=>nomatch x),h⟩ hu,
  λprog w E Q h=>richCompare_meets_room (op:= .NotEq) ⟨_,ho,rfl⟩ ⟨_,c,rfl⟩ F.slot_dict_ne F.entry_dict_ne (F.args_dict_ne_2 _ _) (tM J U nd Z Y) ⟨ho,c,B,(λx=>nomatch x),h⟩ hu⟩
end
end PySem.SeqAt
set_option genInjectivity false
namespace Ev
variable{α β:Type}{u v:Value}{x y:V}{s:Shared}{A:Around}{a l:Addr}{m n:Nat}{ι:Nat->Addr}{H:Hp}{st:a9}{σ:L2.St}{pins:List (Addr×Obj)}{X:Cx}
theorem bs{o:Option α}{f:α->Option β}{b:β}(h:o.bind f=some b):∃a,o=some a/\f a=some b:=by
 cases o with
 |none=>cases h
 |some a=>exact⟨a,rfl,h⟩
theorem f6{c:Prop}[Decidable c]{x:Option β}{b:β}(h:(if c then x else none)=some b):c/\x=some b:=by
 by_cases k:c
 ·rw[if_pos k] at h;exact⟨k,h⟩
 ·rw[if_neg k] at h;cases h
theorem EE{c:Prop}[Decidable c]{x y:Option β}{b:β}(h:(if c then x else y)=some b):(c/\x=some b)∨y=some b:=by
 by_cases k:c
 ·rw[if_pos k] at h;exact .inl ⟨k,h⟩
 ·rw[if_neg k] at h;exact .inr h
theorem om{o:Option α}{G:Option β}{F:α->Option β}{b:β}(h:o.elim G F=some b):(∃a,o=some a/\F a=some b)∨(o=none/\G=some b):=by
 cases o with
 |none=>exact .inr ⟨rfl,h⟩
 |some a=>exact .inl ⟨a,rfl,h⟩
theorem map_some{f:α->β}{o:Option α}{b:β}(h:o.map f=some b):∃a,o=some a/\b=f a:=by
 cases o with
 |none=>cases h
 |some a=>exact⟨a,rfl,(ai h).symm⟩
noncomputable def one{α:Type}:List α->Option α
 |[a]=>some a
 |_=>none
theorem dA{l:List α}{a:α}(h:one l=some a):l=[a]:=by rcases l with _|⟨b,_|⟨c,l⟩⟩<;>cases h;rfl
noncomputable def oi{α:Type}:List α->Option (α×α)
 |[a,b]=>some (a,b)
 |_=>none
theorem gD{l:List α}{p:α×α}(h:oi l=some p):l=[p.1,p.2]:=by rcases l with _|⟨b,_|⟨c,_|⟨d,l⟩⟩⟩<;>cases h;rfl
open PySem PySem.Spec PyProof.Rows L2
open PySem.SeqAt
theorem BQ(B:RelV y u)(c:RelV x v)(I:cV y=true)(F:cV x=true):RcAt A s u v (nL y x):=by
 cases y with
 |non=>
  cases B;cases x with
  |non=>cases c;exact RcAt.none_none
  |bl b=>cases c;exact RcAt.none_bool b
  |int b=>obtain⟨tb,rfl⟩:=c;exact RcAt.none_int b tb
  |str b=>obtain⟨tb,rfl⟩:=c;exact RcAt.none_str b tb
  |_=>exact kK F
 |bl a=>
  cases B;cases x with
  |non=>cases c;exact RcAt.bool_none a
  |bl b=>cases c;exact RcAt.bool_bool a b
  |int b=>obtain⟨tb,rfl⟩:=c;exact RcAt.bool_int a b tb
  |str b=>obtain⟨tb,rfl⟩:=c;exact RcAt.bool_str a b tb
  |_=>exact kK F
 |int a=>
  obtain⟨ta,rfl⟩:=B;cases x with
  |non=>cases c;exact RcAt.int_none a ta
  |bl b=>cases c;exact RcAt.int_bool a ta b
  |int b=>obtain⟨tb,rfl⟩:=c;exact RcAt.int_int a ta b tb
  |str b=>obtain⟨tb,rfl⟩:=c;exact RcAt.int_str a ta b tb
  |_=>exact kK F
 |str a=>
  obtain⟨ta,rfl⟩:=B;cases x with
  |non=>cases c;exact RcAt.str_none a ta
  |bl b=>cases c;exact RcAt.str_bool a ta b
  |int b=>obtain⟨tb,rfl⟩:=c;exact RcAt.str_int a ta b tb
  |str b=>obtain⟨tb,rfl⟩:=c;exact RcAt.str_str a ta b tb
  |_=>exact kK F
 |_=>exact kK I
theorem w6(B:RelV y u)(c:RelV x v)(I:cV y=true)(F:cV x=true):RcNeAt A s u v (!nL y x):=by
 cases y with
 |non=>
  cases B;cases x with
  |non=>cases c;exact RcNeAt.none_none
  |bl b=>cases c;exact RcNeAt.none_bool b
  |int b=>obtain⟨tb,rfl⟩:=c;exact RcNeAt.none_int b tb
  |str b=>obtain⟨tb,rfl⟩:=c;exact RcNeAt.none_str b tb
  |_=>exact kK F
 |bl a=>
  cases B;cases x with
  |non=>cases c;exact RcNeAt.bool_none a
  |bl b=>cases c;exact RcNeAt.bool_bool a b
  |int b=>obtain⟨tb,rfl⟩:=c;exact RcNeAt.bool_int a b tb
  |str b=>obtain⟨tb,rfl⟩:=c;exact RcNeAt.bool_str a b tb
  |_=>exact kK F
 |int a=>
  obtain⟨ta,rfl⟩:=B;cases x with
  |non=>cases c;exact RcNeAt.int_none a ta
  |bl b=>cases c;exact RcNeAt.int_bool a ta b
  |int b=>obtain⟨tb,rfl⟩:=c;exact RcNeAt.int_int a ta b tb
  |str b=>obtain⟨tb,rfl⟩:=c;exact RcNeAt.int_str a ta b tb
  |_=>exact kK F
 |str a=>
  obtain⟨ta,rfl⟩:=B;cases x with
  |non=>cases c;exact RcNeAt.str_none a ta
  |bl b=>cases c;exact RcNeAt.str_bool a ta b
  |int b=>obtain⟨tb,rfl⟩:=c;exact RcNeAt.str_int a ta b tb
  |str b=>obtain⟨tb,rfl⟩:=c;exact RcNeAt.str_str a ta b tb
  |_=>exact kK F
 |_=>exact kK I
theorem k9{items:Array Value}(F:s.heap.IsList l items)(B:A.units<cLine)(c:RelV x v)(I:cV x=true):RcAt A s (.ref l) v false:=by
 cases x with
 |non=>cases c;exact RcAt.list_none F B
 |bl b=>cases c;exact RcAt.list_bool b F B
 |int b=>obtain⟨tb,rfl⟩:=c;exact RcAt.list_int b tb F B
 |str b=>obtain⟨tb,rfl⟩:=c;exact RcAt.list_str b tb F B
 |_=>exact kK I
theorem k_{items:Array Value}(F:s.heap.IsList l items)(B:A.units<cLine)(c:RelV x v)(I:cV x=true):RcAt A s v (.ref l) false:=by
 cases x with
 |non=>cases c;exact RcAt.none_list F B
 |bl b=>cases c;exact RcAt.bool_list b F B
 |int b=>obtain⟨tb,rfl⟩:=c;exact RcAt.int_list b tb F B
 |str b=>obtain⟨tb,rfl⟩:=c;exact RcAt.str_list b tb F B
 |_=>exact kK I
theorem nH{items:Array Value}(F:s.heap.IsList l items)(B:A.units<cLine)(c:RelV x v)(I:cV x=true):RcNeAt A s (.ref l) v true:=by
 cases x with
 |non=>cases c;exact RcNeAt.list_none F B
 |bl b=>cases c;exact RcNeAt.list_bool b F B
 |int b=>obtain⟨tb,rfl⟩:=c;exact RcNeAt.list_int b tb F B
 |str b=>obtain⟨tb,rfl⟩:=c;exact RcNeAt.list_str b tb F B
 |_=>exact kK I
theorem nI{items:Array Value}(F:s.heap.IsList l items)(B:A.units<cLine)(c:RelV x v)(I:cV x=true):RcNeAt A s v (.ref l) true:=by
 cases x with
 |non=>cases c;exact RcNeAt.none_list F B
 |bl b=>cases c;exact RcNeAt.bool_list b F B
 |int b=>obtain⟨tb,rfl⟩:=c;exact RcNeAt.int_list b tb F B
 |str b=>obtain⟨tb,rfl⟩:=c;exact RcNeAt.str_list b tb F B
 |_=>exact kK I
theorem jv{items:Array Value}(F:s.heap.IsTuple l items)(B:A.units<cLine)(c:RelV x v)(I:cV x=true):RcAt A s (.ref l) v false:=by
 cases x with
 |non=>cases c;exact RcAt.tuple_none F B
 |bl b=>cases c;exact RcAt.tuple_bool b F B
 |int b=>obtain⟨tb,rfl⟩:=c;exact RcAt.tuple_int b tb F B
 |str b=>obtain⟨tb,rfl⟩:=c;exact RcAt.tuple_str b tb F B
 |_=>exact kK I
theorem jw{items:Array Value}(F:s.heap.IsTuple l items)(B:A.units<cLine)(c:RelV x v)(I:cV x=true):RcAt A s v (.ref l) false:=by
 cases x with
 |non=>cases c;exact RcAt.none_tuple F B
 |bl b=>cases c;exact RcAt.bool_tuple b F B
 |int b=>obtain⟨tb,rfl⟩:=c;exact RcAt.int_tuple b tb F B
 |str b=>obtain⟨tb,rfl⟩:=c;exact RcAt.str_tuple b tb F B
 |_=>exact kK I
theorem lD{items:Array Value}(F:s.heap.IsTuple l items)(B:A.units<cLine)(c:RelV x v)(I:cV x=true):RcNeAt A s (.ref l) v true:=by
 cases x with
 |non=>cases c;exact RcNeAt.tuple_none F B
 |bl b=>cases c;exact RcNeAt.tuple_bool b F B
 |int b=>obtain⟨tb,rfl⟩:=c;exact RcNeAt.tuple_int b tb F B
 |str b=>obtain⟨tb,rfl⟩:=c;exact RcNeAt.tuple_str b tb F B
 |_=>exact kK I
theorem lE{items:Array Value}(F:s.heap.IsTuple l items)(B:A.units<cLine)(c:RelV x v)(I:cV x=true):RcNeAt A s v (.ref l) true:=by
 cases x with
 |non=>cases c;exact RcNeAt.none_tuple F B
 |bl b=>cases c;exact RcNeAt.bool_tuple b F B
 |int b=>obtain⟨tb,rfl⟩:=c;exact RcNeAt.int_tuple b tb F B
 |str b=>obtain⟨tb,rfl⟩:=c;exact RcNeAt.str_tuple b tb F B
 |_=>exact kK I
theorem mx{b:Value}{k:Bool}(c:(Value.ref l==b)=false)(h:RcAt A s (.ref l) b k):EqAt A s (.ref l) b k:=λprog w E Q F=>by
 unfold eqBool;refine wpAny_holding ?_;refine wpAny_ite_split (λB=>absurd B (by rw[c];exact aH)) (λ_=>?_)
 exact aa (h prog w E _ (wpAny_truthy_bool F))
theorem mw{a:Value}{k:Bool}(c:(a==Value.ref l)=false)(h:RcAt A s a (.ref l) k):EqAt A s a (.ref l) k:=λprog w E Q F=>by
 unfold eqBool;refine wpAny_holding ?_;refine wpAny_ite_split (λB=>absurd B (by rw[c];exact aH)) (λ_=>?_)
 cases a<;>exact aa (h prog w E _ (wpAny_truthy_bool F))
def At(K:aA)(H:Hp)(ι:Nat->Addr)(m:Nat)(d:D)(u:Value):Prop:=∃v,VRel K H ι m d v/\RelV v u
def xk(K:aA)(H:Hp)(ι:Nat->Addr)(m:Nat)(ds:List D)(us:List Value):Prop:=∃vs,VRels K H ι m ds vs/\bn vs us
theorem xk.length{K:aA}{ds:List D}{us:List Value}(h:xk K H ι m ds us):ds.length=us.length:=by obtain⟨vs,a,b⟩:=h;rw[a.length,b.length]
inductive ShAt(K:aA)(H:Hp)(ι:Nat->Addr)(m:Nat)(s:Shared):Sh->Value->Prop where
 |sc {v:V}{u:Value}(f:cV v=true)(r:RelV v u):ShAt K H ι m s (.sc v) u
 |t {a:Addr}{xs:List D}{its:Array Value}(h:s.heap.IsTuple a its)(r:xk K H ι m xs its.toList):ShAt K H ι m s (.t xs) (.ref a)
 |l {a:Addr}{xs:List D}{its:Array Value}(h:s.heap.IsList a its)(r:xk K H ι m xs its.toList):ShAt K H ι m s (.l xs) (.ref a)
 |d {a:Addr}{kvs:List (Key×D)}(h:DQ s.heap a)(z:(a==sysModules)=false)(r:∀ns,kvs.map (·.1)=ns.map (Sum.inl:Int->Key)->∃us,yX s.heap a ns us/\xk K H ι m (kvs.map (·.2)) us):ShAt K H ι m s (.d kvs) (.ref a)
theorem oQ:∀{ks:List Key},ks.all oR=true->∃ns:List Int,ks=ns.map (Sum.inl:Int->Key)
 |[],_=>⟨[],rfl⟩
 | .inl n::ks,h=>by
  obtain⟨ns,rfl⟩:=oQ (ks:=ks) (by simpa[oR] using h)
  exact⟨n::ns,rfl⟩
 | .inr _::ks,h=>by simp[oR] at h
theorem DRels.keys{K:aA}{ds:List (Key×D)}{vs:List (Key×V)}(h:DRels K H ι m ds vs):ds.map (·.1)=vs.map (·.1):=by
 induction h with
 |nil=>rfl
 |cons h t ih=>rw[List.map_cons,List.map_cons,ih]
theorem DRels.vals{K:aA}{ds:List (Key×D)}{vs:List (Key×V)}(h:DRels K H ι m ds vs):VRels K H ι m (ds.map (·.2)) (vs.map (·.2)):=by
 induction h with
 |nil=>exact .nil
 |cons h t ih=>exact .cons h ih
theorem rV:∀{kvs:List (Key×V)}{vs:List (Key×Value)},KV kvs vs->kvs.map (·.1)=vs.map (·.1)
 |_,_,.nil=>rfl
 |_,_,.cons r t=>by rw[List.map_cons,List.map_cons,rV t,r.1]
theorem rT{P:Program}{w:World}:∀{kvs:List (Key×V)}{vs:List (Key×Value)}{es:List DictEntry},KV kvs vs->Pairs (bg P w) es vs->bn (kvs.map (·.2)) (es.map (·.val))
 |_,_,_,.nil,.nil=>.nil
 |_,_,_,.cons r t,.cons h1 h2 u=>.cons (by dsimp only;rw[h2];exact r.2) (rT t u)
theorem yN{P:Program}{w:World}{h:Heap}{o:Obj}{es:Array DictEntry}{ep:Nat}{vs:List (Key×Value)}{ns:List Int}(h1:h.get? a=some {cls:= .type "dict",dict:=none,data:= .dict es ep,slots:= #[]})(U:KeysOf (bg P w) es)(J:Pairs (bg P w) es.toList vs)(I:(vs.map (·.1)).Nodup)(e:vs.map (·.1)=ns.map (Sum.inl:Int->Key)):yX h a ns (es.toList.map (·.val)):=by
 have key:∀{es:List DictEntry}{vs:List (Key×Value)},Pairs (bg P w) es vs->∀{j:Nat}{x:DictEntry}{k:Key},es[j]? =some x->(vs.map (·.1))[j]? =some k->ga k x.key=true:=by
  intro es vs p
  induction p with
  |nil=>intro j x k q;simp at q
  |cons a b c ih=>
   intro j x k q1 q2;cases j with
   |zero=>simp at q1 q2;subst q1 q2;exact a
   |succ j=>exact ih (by simpa using q1) (by simpa using q2)
 refine⟨es,ep,h1,rfl,?_,?_,λi x n q1 q2=>?_⟩
 ·rw[e] at I;exact(List.pairwise_map.mp I).imp λB z=>B (by rw[z])
 ·have l1:=J.length;have l2:=congrArg List.length e;simp at l1 l2;omega
 ·have F:=key J (j:=i) (x:=x) (k:= .inl n) (by simpa using q1) (by rw[e,aj,q2];rfl)
  rcases bE F with⟨i',t,e1,e2⟩|⟨y,t,e1,_⟩
  ·cases e1;obtain⟨k,Z,Y⟩:=U x (Array.mem_of_getElem? q1);have:k=.inl n:=(bg P w).inj x.key k (.inl n) Z F;subst this;exact⟨⟨t,e2⟩,Y⟩
  ·cases e1
theorem nU{d:D}{B:Sh}(I:Inv X pins σ H s)(S:Sim X.K H ι st)(h:At X.K H ι st.length d u)(e:shape st d=some B):
  ShAt X.K H ι st.length s B u:=by
 obtain⟨v,Z,r⟩:=h;cases Z with
 |non=>cases e;exact .sc rfl r
 |bl b=>cases e;exact .sc rfl r
 |int i=>cases e;exact .sc rfl r
 |str x=>cases e;exact .sc rfl r
 |tup h hr=>
  cases e;cases r;obtain⟨its,rv,p,_⟩:=I.tuple h;exact .t p ⟨_,hr,by simpa using rv⟩
 |fl h hr=>
  cases e;cases r;obtain⟨its,rv,p,_⟩:=I.list h.sql;exact .l p.isList ⟨_,hr,by simpa using rv⟩
 | @ref n hn=>
  cases r;simp only[shape] at e;cases q:st[n]? with
  |none=>rw[q] at e;cases e
  |some o=>
   rw[q] at e;have ho:=S.ob n o q;cases o with
   |lst xs=>
    cases e;obtain⟨vs,h1,c⟩:=ho;obtain⟨its,rv,p,_⟩:=I.list (dD.of h1);exact .l p.isList ⟨_,c,by simpa using rv⟩
   |dct kvs=>
    cases e;obtain⟨ws,ho,U⟩:=ho;obtain⟨hz,hS,vs,rv,o,es,ep,h1,c,J,h4,F,h6⟩:=(show cj X.prog X.w H s.heap (ι n) (.dK ws) from I.hok _ _ ho);obtain⟨c1,c2,Y⟩:=c;obtain⟨cls,dd,data,sl⟩:=o;simp only at c1 c2 Y J;subst c1 c2 Y J;exact .d ⟨es,ep,h1⟩ hS λns e=>⟨_,yN (o:=default) h1 h4 F h6 (by rw[<-rV rv,<-U.keys];exact e),_,U.vals,rT rv F⟩
   |_=>cases e
theorem all_cons{e:Nat->Bool}{x:Bool}:(List.range (n+1)).all (λj=>match j with|0=>x|j+1=>e j)=(x&&(List.range n).all e):=by rw[List.range_succ_eq_map,List.all_cons,List.all_map];rfl
theorem ku{o:Obj}(I:Inv X pins σ H s)(h:X.K.lookup a=some o):H a=none:=(I.bs a o (I.ok.mod.kin a o h)).2
theorem pZ{xs ys:List V}(I:Inv X pins σ H s)(h:fP X.K H a xs)(h':dD X.K H a ys):False:=by obtain⟨_,_,p,_⟩:=I.tuple h;obtain⟨_,_,q,_⟩:=I.list h';exact ne_of_list_tuple q.isList p rfl
theorem mG{xs:List V}(I:Inv X pins σ H s)(h:fP X.K H a xs):(∃zs,H a=some (.tup zs))∨(∃o u,H a=some (.frz o u))∨H a=none:=by
 rcases h with(h|⟨o,h⟩)|⟨o,_,_,h,_⟩
 ·exact .inl ⟨_,h⟩
 ·exact .inr (.inl ⟨_,_,h⟩)
 ·exact .inr (.inr (ku I h))
theorem wB{xs:List V}(I:Inv X pins σ H s)(h:xi X.K H a xs):(∃o u,H a=some (.frz o u))∨H a=none:=by
 rcases h with⟨o,h⟩|⟨o,_,_,h,_⟩
 ·exact .inl ⟨_,_,h⟩
 ·exact .inr (ku I h)
theorem Sim.obj{K:aA}(S:Sim K H ι st)(h:n<st.length):∃u,H (ι n)=some u/\(∀xs,u≠ .tup xs)/\∀c w,u≠ .frz c w:=
 (S.ob n st[n] (by simp[h])).there
mutual
theorem VRel.uniq(I:Inv X pins σ H s)(S:Sim X.K H ι st):∀{d d':D}{v:V},VRel X.K H ι st.length d v->VRel X.K H ι st.length d' v->d=d'
 |_,_,_,.non,h=>by cases h;rfl
 |_,_,_,.bl b,h=>by cases h;rfl
 |_,_,_,.int i,h=>by cases h;rfl
 |_,_,_,.str x,h=>by cases h;rfl
 |_,_,_,.tup h r,h'=>by
  cases h' with
  |tup q r'=>rw[I.tuple_inj h q] at r;rw[VRels.uniq I S r r']
  |fl q _=>exact(pZ I h q.sql).elim
  |ref q=>
   obtain⟨u,e',B,c⟩:=S.obj q;rcases mG I h with⟨_,e⟩|⟨_,_,e⟩|e<;>rw[e] at e'<;>first|(cases e';done)|(cases e';exact absurd rfl (B _))|(cases e';exact absurd rfl (c _ _))
 |_,_,_,.fl h r,h'=>by
  cases h' with
  |tup q _=>exact(pZ I q h.sql).elim
  |fl q r'=>rw[I.list_inj h.sql q.sql] at r;rw[VRels.uniq I S r r']
  |ref q=>
   obtain⟨u,e',B,c⟩:=S.obj q;rcases wB I h with⟨_,_,e⟩|e<;>rw[e] at e'<;>first|(cases e';done)|(cases e';exact absurd rfl (B _))|(cases e';exact absurd rfl (c _ _))
 |_,_,_,.ref (n:=n) q,h'=>by
  generalize hz:V.ref (ι n)=z at h';cases h' with
  |tup h _=>
   injection hz with hz;rw[<-hz] at h;obtain⟨u,e',B,c⟩:=S.obj q;rcases mG I h with⟨_,e⟩|⟨_,_,e⟩|e<;>rw[e] at e'<;>first|(cases e';done)|(cases e';exact absurd rfl (B _))|(cases e';exact absurd rfl (c _ _))
  |fl h _=>
   injection hz with hz;rw[<-hz] at h;obtain⟨u,e',B,c⟩:=S.obj q;rcases wB I h with⟨_,_,e⟩|e<;>rw[e] at e'<;>first|(cases e';done)|(cases e';exact absurd rfl (B _))|(cases e';exact absurd rfl (c _ _))
  |ref q'=>injection hz with hz;rw[S.inj _ _ q q' hz]
  |_=>cases hz
theorem VRels.uniq(I:Inv X pins σ H s)(S:Sim X.K H ι st):∀{ds c:List D}{vs:List V},VRels X.K H ι st.length ds vs->VRels X.K H ι st.length c vs->ds=c
 |_,_,_,.nil,h=>by cases h;rfl
 |_,_,_,.cons r t,h=>by
  cases h with
  |cons r' t'=>rw[VRel.uniq I S r r',VRels.uniq I S t t']
end
theorem At.uniq{a b:D}(I:Inv X pins σ H s)(S:Sim X.K H ι st)(J:At X.K H ι st.length a u)(F:At X.K H ι st.length b u):a=b:=by obtain⟨v,h1,B⟩:=J;obtain⟨w,U,c⟩:=F;rw[B.inj c] at h1;exact h1.uniq I S U
theorem wG{v:V}(h:cV v=true):nL v v=true:=by cases v<;>simp_all [nL,cV]
theorem pV{d:D}{v:V}(h:shape st d=some (.sc v)):cV v=true:=by
 cases d with
 |ref n=>simp only[shape] at h;split at h<;>cases h
 |_=>cases h<;>rfl
theorem fI{f:D->D->Option Bool}(c:∀x k,f x x=some k->k=true):∀{xs:List D}{k:Bool},cY f xs xs=some k->k=true
 |[],k,e=>(ai e).symm
 |x::xs,k,e=>by
  unfold cY at e;cases e1:f x x with
  |none=>rw[e1] at e;simp at e
  |some p=>
   cases e2:cY f xs xs with
   |none=>rw[e1,e2] at e;simp at e
   |some q=>rw[e1,e2] at e;have e':(p&&q)=k:=ai e;rw[<-e',c _ _ e1,fI c e2];rfl
theorem kx{f:D->D->Option Bool}(c:∀x k,f x x=some k->k=true){x:D}{k:Bool}(e:nK f x x=some k):k=true:=by
 unfold nK at e;split at e
 ·split at e
  ·exact(ai e).symm
  ·exact c _ _ e
 ·exact c _ _ e
theorem iD{st:a9}:∀(n:Nat){a:D}{k:Bool},dF n st a a=some k->k=true
 |0,_,_,e=>by unfold dF at e;cases e
 |n+1,a,k,e=>by
  unfold dF at e;cases ea:shape st a with
  |none=>rw[ea] at e;simp at e
  |some sa=>
   rw[ea] at e;cases sa with
   |sc v=>have e':nL v v=k:=ai e;rw[<-e',wG (pV ea)]
   |t xs=>exact fI (λ_ _=>kx λ_ _=>iD n) e
   |l xs=>exact fI (λ_ _=>kx λ_ _=>iD n) e
   |d kvs=>obtain⟨_,e⟩:=f6 e;exact fI (λ_ _=>kx λ_ _=>iD n) e
theorem si(c:RelV y u)(B:cV y=true):(u==Value.ref l)=false:=by
 cases y with
 |non=>cases c;rfl
 |bl b=>cases c;rfl
 |int i=>obtain⟨t,rfl⟩:=c;rfl
 |str i=>obtain⟨t,rfl⟩:=c;rfl
 |_=>cases B
theorem rN(c:RelV y u)(B:cV y=true):(Value.ref l==u)=false:=by
 cases y with
 |non=>cases c;rfl
 |bl b=>cases c;rfl
 |int i=>obtain⟨t,rfl⟩:=c;rfl
 |str i=>obtain⟨t,rfl⟩:=c;rfl
 |_=>cases B
theorem sk{X:Cx}{pins:List (Addr×Obj)}{σ:L2.St}{H:Hp}{s:Shared}{ι:Nat->Addr}{st:a9}(I:Inv X pins σ H s)(S:Sim X.K H ι st){n:Nat}
  (J:∀{a b:D}{u v:Value}{A:Around}{k:Bool},nK (dF n st) a b=some k->At X.K H ι st.length a u->At X.K H ι st.length b v->A.units+n<cLine->EqAt A s u v k):
  ∀{xs ys:List D}{us vs:List Value}{A:Around}{k:Bool},cY (nK (dF n st)) xs ys=some k->xk X.K H ι st.length xs us->xk X.K H ι st.length ys vs->A.units+n<cLine->
  ∃e:Nat->Bool,(∀j (h1:j<us.length)(B:j<vs.length),EqAt A s us[j] vs[j] (e j))/\k=((List.range (min us.length vs.length)).all e&&us.length==vs.length)
 |xs,ys,us,vs,A,k,e,ha,hb,hu=>by
  have F:=ha.length;have c:=hb.length;unfold cY at e;cases xs with
  |nil=>
   cases us with
   |cons _ _=>simp at F
   |nil=>
    refine⟨λ_=>true,λj h1 _=>absurd h1 (Nat.not_lt_zero _),?_⟩;cases ys with
    |nil=>
     cases vs with
     |cons _ _=>simp at c
     |nil=>rw[<-ai e];rfl
    |cons y ys=>
     cases vs with
     |nil=>simp at c
     |cons _ _=>rw[<-ai e];simp
  |cons x xs=>
   cases us with
   |nil=>simp at F
   |cons u us=>
    cases ys with
    |nil=>
     cases vs with
     |cons _ _=>simp at c
     |nil=>exact⟨λ_=>true,λj _ B=>absurd B (Nat.not_lt_zero _),by rw[<-ai e];simp⟩
    |cons y ys=>
     cases vs with
     |nil=>simp at c
     |cons v vs=>
      obtain⟨_,Y,q1⟩:=ha;obtain⟨_,U,q2⟩:=hb;cases q1 with
      |cons w1 w2=>
       cases q2 with
       |cons z1 z2=>
        cases Y with
        |cons m1 m2=>
         cases U with
         |cons n1 n2=>
          simp only at e;cases e1:nK (dF n st) x y with
          |none=>rw[e1] at e;simp at e
          |some p=>
           cases e2:cY (nK (dF n st)) xs ys with
           |none=>rw[e1,e2] at e;simp at e
           |some q=>
            rw[e1,e2] at e;have hE:=J (A:=A) e1 ⟨_,m1,w1⟩ ⟨_,n1,z1⟩ hu;obtain⟨f,Z,hk⟩:=sk I S J (A:=A) e2 ⟨_,m2,w2⟩ ⟨_,n2,z2⟩ hu;refine⟨λj=>match j with|0=>p|j+1=>f j,λj h1 B=>?_,?_⟩
            ·cases j with
             |zero=>exact hE
             |succ j=>exact Z j (by simpa using h1) (by simpa using B)
            ·have e3:min (u::us).length (v::vs).length=min us.length vs.length+1:=by simp only[List.length_cons];omega
             have e4:((u::us).length==(v::vs).length)=(us.length==vs.length):=by simp
             rw[e3,e4,all_cons,<-ai e,hk,Bool.and_assoc]
theorem yF{f:D->D->Option Bool}{a b:D}{k:Bool}(h:f a b=some k->EqAt A s u v k)(e:nK f a b=some k)(J:At X.K H ι st.length a u)(I:At X.K H ι st.length b v):EqAt A s u v k:=by
 unfold nK at e;split at e
 ·rename_i i j;split at e
  ·rename_i c;subst c;obtain⟨y,q1,F⟩:=J;obtain⟨z,q2,B⟩:=I;cases q1;cases q2;cases F;cases B;rw[<-ai e];exact EqAt.same _
  ·exact h e
 ·exact h e
theorem nv{X:Cx}{pins:List (Addr×Obj)}{σ:L2.St}{H:Hp}{s:Shared}{ι:Nat->Addr}{st:a9}(I:Inv X pins σ H s)(S:Sim X.K H ι st):∀(n:Nat){a b:D}{u v:Value}{A:Around}{k:Bool},dF n st a b=some k->At X.K H ι st.length a u->At X.K H ι st.length b v->A.units+n<cLine->
  RcAt A s u v k/\RcNeAt A s u v (!k)/\EqAt A s u v k
 |0,_,_,_,_,_,_,e,_,_,_=>by unfold dF at e;cases e
 |n+1,a,b,u,v,A,k,e,pa,pb,hu=>by
  have B:A.units<cLine:=by omega
  have hu1:A.in1.units+n<cLine:=by show A.units+1+n<cLine;omega
  have e0:=e;unfold dF at e;cases ea:shape st a with
  |none=>rw[ea] at e;simp at e
  |some sa=>
   cases eb:shape st b with
   |none=>rw[ea,eb] at e;simp at e
   |some sb=>
    rw[ea,eb] at e;have ua:=nU I S pa ea;have ub:=nU I S pb eb
    have refs:∀{l l':Addr},u=.ref l->v=.ref l'->RcAt A s u v k->RcNeAt A s u v (!k)->RcAt A s u v k/\RcNeAt A s u v (!k)/\EqAt A s u v k:=λ{l l'} h1 Y h3 h4=>by
     refine⟨h3,h4,?_⟩;by_cases hl:l=l'
     ·have huv:u=v:=by rw[h1,Y,hl]
      subst huv;have:=pa.uniq I S pb;subst this;rw[iD _ e0];exact EqAt.same _
     ·subst h1 Y;exact EqAt.of_refs hl h3
    have seqs:∀{xs ys:List D}{us vs:List Value},cY (nK (dF n st)) xs ys=some k->xk X.K H ι st.length xs us->xk X.K H ι st.length ys vs->
      ∃e:Nat->Bool,(∀j (h1:j<us.length)(Y:j<vs.length),EqAt A.in1 s us[j] vs[j] (e j))/\k=((List.range (min us.length vs.length)).all e&&us.length==vs.length):=λq J F=>sk I S (λa b c d=>yF (X:=X) (H:=H) (ι:=ι) (st:=st) (λa=>(nv I S n a b c d).2.2) a b c) q J F hu1
    cases ua with
    |sc fa J=>
     cases ub with
     |sc fb F=>cases e;exact⟨BQ J F fa fb,w6 J F fa fb,Br J F fa fb⟩
     |t hb _=>cases e;exact⟨jw hb B J fa,lE hb B J fa,mw (si J fa) (jw hb B J fa)⟩
     |l hb _=>cases e;exact⟨k_ hb B J fa,nI hb B J fa,mw (si J fa) (k_ hb B J fa)⟩
     |d hb _ _=>cases e
    | @t a1 xs its ha J=>
     cases ub with
     |sc fb F=>cases e;exact⟨jv ha B F fb,lD ha B F fb,mx (rN F fb) (jv ha B F fb)⟩
     | @t b1 ys its2 hb F=>
      obtain⟨f,hf,hk⟩:=seqs e J F
      have U:∀j (h1:j<its.size)(Y:j<its2.size),EqAt A.in1 s its[j] its2[j] (f j):=λj h1 Y=>by
       have q:=hf j (by simpa using h1) (by simpa using Y)
       rw[Array.getElem_toList,Array.getElem_toList] at q;exact q
      have q1:=RcAt.tuples ha hb B U;have q2:=RcNeAt.tuples ha hb B U;have Z:((List.range (min its.size its2.size)).all f&&its.size==its2.size)=k:=by rw[hk];simp
      rw[Z] at q1 q2;exact refs rfl rfl q1 q2
     |l hb _=>cases e;exact refs rfl rfl (RcAt.tuple_list ha hb B) (RcNeAt.tuple_list ha hb B)
     |d hb _ _=>cases e
    | @l a1 xs its ha J=>
     cases ub with
     |sc fb F=>cases e;exact⟨k9 ha B F fb,nH ha B F fb,mx (rN F fb) (k9 ha B F fb)⟩
     |t hb _=>cases e;exact refs rfl rfl (RcAt.list_tuple ha hb B) (RcNeAt.list_tuple ha hb B)
     | @l b1 ys its2 hb F=>
      obtain⟨f,hf,hk⟩:=seqs e J F
      have U:∀j (h1:j<its.size)(Y:j<its2.size),EqAt A.in1 s its[j] its2[j] (f j):=λj h1 Y=>by
       have q:=hf j (by simpa using h1) (by simpa using Y)
       rw[Array.getElem_toList,Array.getElem_toList] at q;exact q
      by_cases hsz:its.size=its2.size
      ·have q1:=RcAt.lists ha hb hsz B U;have q2:=RcNeAt.lists ha hb hsz B U;have Z:(List.range its.size).all f=k:=by rw[hk];simp[hsz]
       rw[Z] at q1 q2;exact refs rfl rfl q1 q2
      ·have Z:k=false:=by rw[hk];simp[hsz]
       subst Z;exact refs rfl rfl (RcAt.lists_lengths ha hb (by simpa using hsz) B) (RcNeAt.lists_lengths ha hb (by simpa using hsz) B)
     |d hb _ _=>cases e
    |d ha za J=>
     cases ub with
     |l hb _=>cases e
     |d hb zb F=>
      obtain⟨⟨k1,k2⟩,e⟩:=f6 e;obtain⟨ns,en⟩:=oQ k2;obtain⟨us,d1,a1⟩:=J ns en;obtain⟨vs,d2,a2⟩:=F ns (by rw[<-k1];exact en)
      obtain⟨f,hf,hk⟩:=seqs e a1 a2
      have l1:us.length=vs.length:=by have q1:=a1.length;have q2:=a2.length;have q3:=congrArg List.length k1;simp at q1 q2 q3;omega
      obtain⟨q1,q2⟩:=RcAt.dicts za zb d1 d2 B hf;have Z:(List.range us.length).all f=k:=by rw[hk];simp[l1]
      rw[Z] at q1 q2;exact refs rfl rfl q1 q2
     |_=>cases e
end Ev
namespace PySem
open Sem (wp)
variable{Q:Option Value->Shared->Prop}{g sl:Nat}
section
variable{prog:Program}{w:World}{A:Around}{E:Value->Shared->Prop}{s:Shared}{it v:Addr}
theorem nT{h':Heap}(c:A.handled=none)(hs:Heap.ExtBut it s.heap h')(B:∀h',Heap.ExtBut it s.heap h'->Q none {s with heap:=h'}):
  wpAny (model prog w) A.in1 (newExc (.type "StopIteration") []>>=λe=>raiseNew (α:=Fin) e) (λfin s'=>∃v,fin=.done (.ret v)/\wpAny (model prog w) A (pure (some v)) Q E s')
   (λe s'=>wpAny (model prog w) A (isInstance e (.type "StopIteration")>>=λb=>if b=true then pure none else throw e) Q E s') {s with heap:=h'}:=by
 refine aa ?_;simp only[newExc,newTuple];refine aa (wpAny_newObj_type (aa (m:=firstArgMember _ _) (wpAny_of_eq (a:=Value.none) (by first|rfl|(simp only[firstArgMember];rfl)) (wpAny_newObj_type ?_ (by size_fits)))) (by size_fits))
 simp only[raiseNew];refine aa (wpAny_handled ?_);rw[show A.in1.handled=none from c];refine aa (ah (wpAny_throw ?_));refine aa (wpAny_isInstance (T:= "StopIteration") (b:=true) ⟨_,aq _ rfl,rfl⟩ isSubtype_stop (ah (B _ ((hs.push _).push _))))
end
section
variable{prog:Program}{w:World}{A:Around}{E:Value->Shared->Prop}{s:Shared}{a it:Addr}{es:Array (Int×Value)}{ep i:Nat}{t:SetTable}
structure Heap.RawS(h:Heap)(a:Addr)(es:Array (Int×Value))(ep:Nat)(t:SetTable):Prop where
 ob:∃o,h.get? a=some o/\o.ExactSet/\o.data=.set es ep t
 fits:t.fits es.size=true
 plain:t.plain=true
theorem Heap.RawS.ty(x:s.heap.RawS a es ep t):s.TypeIs (.ref a) "set":=let⟨o,ho,hc,_⟩:=x.ob;⟨o,ho,hc.1⟩
theorem kR:entryFor table "set.__iter__"=some Builtin.«frozenset.__iter__»:=entryFor_alias (id':= "frozenset.__iter__") (by kernel_rfl) rfl (by decide+kernel) (by kernel_rfl)
theorem Cy{Q:Bool->Shared->Prop}(h:Q (w.params.followText "set-order") s):wpAny (model prog w) A setsByText Q E s:=by unfold setsByText;exact aa (wpAny_askSetting (ah h))
theorem iy:typeLookup (.type "set_iterator") (Str.ofString "__next__")=pure (some (.builtin "set_iterator.__next__")):=by rw[typeLookup_type,builtinLookup_eq_fast];kernel_rfl
theorem uS{Q:Value->Shared->Prop}(x:s.heap.RawS a es ep t)
  (I:Q (.ref s.heap.objs.size) {s with heap:=s.heap.push {cls:= .type "set_iterator",data:= .fields #[.int 0 0,.int 0 0,.ref a,.int es.size 0,.int ep 0]}}):wpAny (model prog w) A (pyIter (.ref a)) Q E s:=by
 obtain⟨o,ho,J,hd⟩:=x.ob;have B:=x.ty;refine wpAny_pyIter_slot B F.slot_set_iter (wpAny_call_entry F.slot_set_iter B kR ?_ (F.args_set_iter_1 _));unfold Builtin.«frozenset.__iter__» Builtin.Frozenset.slot0 Builtin.Frozenset.sizeOf setEntries;refine aa (aa (ah (ah ?_)));refine aa (aa (aa (wpAny_setState_of ho hd x.fits (ah (ah ?_)))))
 have c:∀{Q:Bool->Shared->Prop},Q false s->wpAny (model prog w) A.in1 (setDrawn a) Q E s:=λ{Q} h=>by unfold setDrawn;refine aa (wpAny_setState_of ho hd x.fits ?_);dsimp only;refine aa (Cy (ah (show Q (!w.params.followText "set-order" &&(!t.plain&&decide (es.size>1))) s from ?_)));rw[x.plain];simpa using h
 refine aa (c ?_);simp only[Bool.false_eq_true,if_false];refine aa (ah (aa (wpAny_setEpoch_of ho hd x.fits (aa (wpAny_newObj_type (ah ⟨_,rfl,"set_iterator",_,⟨_,aq _ rfl,rfl⟩,iy,?_⟩))))));simpa[rawInt] using I
theorem db:Slot "set_iterator" "__next__" "set_iterator.__next__":=
 .of (owner:= "set_iterator") (n:= "__next__") (by rw[typeLookup_type,builtinLookup_eq_fast];kernel_rfl) (by decide+kernel) (by decide+kernel) (by decide+kernel)
  (by first|exact .inl (by decide+kernel)|exact .inr (by decide+kernel)) (by rw[isSubtype_type];kernel_rfl)
theorem gT:entryFor table "set_iterator.__next__"=some Builtin.«set_iterator.__next__»:=entryFor_of_fast (by kernel_rfl)
theorem iJ(a:Value):argsOk "set_iterator.__next__" ⟨[a],[]⟩:=by unfold argsOk;kernel_rfl
theorem pX{j:Nat}{h:Int}{v:Value}{Q:Option (Value×Nat)->Shared->Prop}(B:w.params.followText "set-order"=false)(c:t.led=true)(x:s.heap.RawS a es ep t)(h1:es[SetTable.below t.place sl]? =some (h,v))(I:t.place[SetTable.below t.place sl]? =some j)(F:Q (some (v,j+1)) s):wpAny (model prog w) A (setNext a sl g ep) Q E s:=by
 obtain⟨o,ho,J,hd⟩:=x.ob;unfold setNext;refine aa (wpAny_setState_of ho hd x.fits ?_);dsimp only;refine aa (Cy ?_);rw[B];simp only[Bool.false_eq_true,if_false];show wpAny _ _ (if(!t.plain&&decide (es.size>1))=true then _ else _) _ _ s
 rw[x.plain];simp only[Bool.not_true,Bool.false_and,Bool.false_eq_true,if_false];refine aa (show wpAny _ _ (if(!t.led&& !es.isEmpty)=true then unsupported _ else pure ()) _ _ s from ?_)
 rw[c];simp only[Bool.not_true,Bool.false_and,Bool.false_eq_true,if_false];refine ah ?_;rw[h1,I];exact ah F
theorem pY{Q:Option (Value×Nat)->Shared->Prop}(B:w.params.followText "set-order"=false)(c:t.led=true)(x:s.heap.RawS a es ep t)(h1:es[SetTable.below t.place sl]? =none)(F:Q none s):wpAny (model prog w) A (setNext a sl g ep) Q E s:=by
 obtain⟨o,ho,I,hd⟩:=x.ob;unfold setNext;refine aa (wpAny_setState_of ho hd x.fits ?_);dsimp only;refine aa (Cy ?_);rw[B];simp only[Bool.false_eq_true,if_false];show wpAny _ _ (if(!t.plain&&decide (es.size>1))=true then _ else _) _ _ s
 rw[x.plain];simp only[Bool.not_true,Bool.false_and,Bool.false_eq_true,if_false];refine aa (show wpAny _ _ (if(!t.led&& !es.isEmpty)=true then unsupported _ else pure ()) _ _ s from ?_)
 rw[c];simp only[Bool.not_true,Bool.false_and,Bool.false_eq_true,if_false];refine ah ?_;rw[h1];exact ah F
theorem ka{Q:Option (Value×Nat)->Shared->Prop}(c:w.params.followText "set-order"=true)(x:s.heap.RawS a es ep t)(B:Q (((pickOrder (w.params.setOrder a ep) es)[g]?).map λe=>(e.2,sl)) s):wpAny (model prog w) A (setNext a sl g ep) Q E s:=by obtain⟨o,ho,F,hd⟩:=x.ob;unfold setNext;refine aa (wpAny_setState_of ho hd x.fits ?_);dsimp only;refine aa (Cy ?_);rw[c];simp only[if_true,bne_self_eq_false,Bool.false_eq_true,if_false];refine aa ?_;unfold setWalk;refine aa (wpAny_setState_of ho hd x.fits ?_);dsimp only;refine aa (Cy ?_);rw[c];simp only[if_true];exact aa (wpAny_askSetting (ah (ah B)))
noncomputable def Heap.RawSI(h:Heap)(it a:Addr)(sl i n ep:Nat):Prop:=∃o,h.get? it=some o/\o.cls=.type "set_iterator" /\o.data=.fields #[.int sl 0,.int i 0,.ref a,.int n 0,.int ep 0]
theorem Heap.RawSI.ty{n:Nat}(x:s.heap.RawSI it a sl i n ep):s.TypeIs (.ref it) "set_iterator":=let⟨o,ho,hc,_⟩:=x;⟨o,ho,hc⟩
theorem xC{sl':Nat}{v:Value}(c:s.heap.RawSI it a sl i es.size ep)(x:s.heap.RawS a es ep t)
  (hn:∀(E:Value->Shared->Prop)(Z:Option (Value×Nat)->Shared->Prop),Z (some (v,sl')) s->wpAny (model prog w) A.in1 (setNext a sl i ep) Z E s)
  (hQ:∀h',h'.RawSI it a sl' (i+1) es.size ep->Heap.SameBut it s.heap h'->Q (some v) {s with heap:=h'}):wpAny (model prog w) A (pyNext (.ref it)) Q E s:=by
 obtain⟨o,ho,hc,hd⟩:=id c;obtain⟨os,B,hcs,F⟩:=x.ob;have J:=c.ty;unfold pyNext;refine aa (wpAny_attempt (wpAny_callSpecial?_slot (name:=Str.ofString "__next__") J db (wpAny_call_entry db J gT ?_ (iJ _))));unfold Builtin.«set_iterator.__next__»;refine aa (ah (aa (wpAny_fieldsOf ho hd ?_)));dsimp only;unfold setEntries;refine aa (aa (wpAny_setState_of B F x.fits (ah ?_)));rw[if_neg (by simp)]
 refine aa ?_;simp only[Int.toNat_natCast];refine hn _ _ ?_;dsimp only;have I:=Obj.data_mapFields hd (·.setIfInBounds 0 (rawInt (sl':Int)));have U:=Heap.get?_update_self (Obj.mapFields (·.setIfInBounds 0 (rawInt (sl':Int)))) ho (Obj.isFreed_of_fields I);have Y:=Obj.data_mapFields I (·.setIfInBounds 1 (rawInt ((i:Int)+1)));have g2:=Heap.get?_update_self (Obj.mapFields (·.setIfInBounds 1 (rawInt ((i:Int)+1)))) U (Obj.isFreed_of_fields Y);refine aa (wpAny_setField ho hd (by simp) (aa (wpAny_setField (s:={s with heap:=_}) U I (by simp) (ah ⟨_,rfl,ah (hQ _ ⟨_,g2,?_,?_⟩ ?_)⟩))))
 ·exact(Obj.cls_mapFields ..).trans ((Obj.cls_mapFields ..).trans hc)
 ·rw[Y];simp[rawInt]
 ·exact(Heap.SameBut.update ..).trans (Heap.SameBut.update ..)
theorem Aa(Y:A.handled=none)(c:s.heap.RawSI it a sl i es.size ep)(x:s.heap.RawS a es ep t)
  (U:∀(E:Value->Shared->Prop)(J:Option (Value×Nat)->Shared->Prop),J none s->wpAny (model prog w) A.in1 (setNext a sl i ep) J E s)
  (hQ:∀h',Heap.ExtBut it s.heap h'->Q none {s with heap:=h'}):wpAny (model prog w) A (pyNext (.ref it)) Q E s:=by
 obtain⟨o,ho,hc,hd⟩:=id c;obtain⟨os,B,Z,F⟩:=x.ob;have I:=c.ty;unfold pyNext;refine aa (wpAny_attempt (wpAny_callSpecial?_slot (name:=Str.ofString "__next__") I db (wpAny_call_entry db I gT ?_ (iJ _))));unfold Builtin.«set_iterator.__next__»;refine aa (ah (aa (wpAny_fieldsOf ho hd ?_)));dsimp only;unfold setEntries;refine aa (aa (wpAny_setState_of B F x.fits (ah ?_)));rw[if_neg (by simp)]
 refine aa ?_;simp only[Int.toNat_natCast];refine U _ _ ?_;dsimp only;exact aa (wpAny_setField ho hd (by simp) (nT Y (Heap.SameBut.update ..).extBut hQ))
end
end PySem
namespace Tab23
open PySem
noncomputable def add(s:List Int×SetTable)(h:Int):Option (List Int×SetTable):=if s.1.contains h then some s else match s.2.freeSlot h with
 |some (j,wd)=>if wd then none else
  let r:=s.2.put j
  if r.1.fits (s.1.length+1)&& !r.1.tooFull then some (s.1.take r.2++h::s.1.drop r.2,r.1) else none
 |none=>none
def tY:List Int->List Int×SetTable->Option (List Int×SetTable)
 |[],s=>some s
 |h::r,s=>(add s h).bind (tY r)
noncomputable def walk(t:SetTable)(hs:List Int):Nat->Nat->List Int
 |0,_=>[]
 |n+1,slot=>let i:=SetTable.below t.place slot
  match hs[i]?,t.place[i]? with
  |some h,some j=>h::walk t hs n (j+1)
  |_,_=>[]
noncomputable def all:Nat->List (List Int)
 |0=>[[]]
 |n+1=>(all n)++((all n).filter λl=>l.length==n).flatMap λl=>(List.range 10).map λ(i:Nat)=>(i:Int)::l
end Tab23
namespace PySem
variable{a l:Addr}{h h':Heap}{hs ns:List Int}{prog:Program}
theorem kP{α:Type}:∀(l:List α)(i:Nat)(h:i<l.length),List.Perm (l[i]::l.eraseIdx i) l
 |a::l,0,_=>.refl _
 |a::l,i+1,h=>by
  have c:=kP l i (by simpa using h)
  have hi:i<l.length:=by simpa using h
  show List.Perm (l[i]::a::l.eraseIdx i) (a::l);exact(List.Perm.swap ..).trans (c.cons a)
theorem rH{α:Type}(next:Nat->Nat):∀(n k:Nat)(left:List α)(out:Array α),left.length=n->List.Perm (pickOrder.go next n k left out).toList (out.toList++left)
 |0,k,left,out,h=>by have:left=[]:=List.length_eq_zero_iff.mp h;subst this;rw[List.append_nil];exact .refl _
 |n+1,k,left,out,h=>by
  unfold pickOrder.go;have c:next k % left.length<left.length:=Nat.mod_lt _ (by omega)
  rw[ag c];dsimp only;have B:=rH next n (k+1) (left.eraseIdx (next k % left.length)) (out.push left[next k % left.length]) (by rw[List.length_eraseIdx_of_lt c];omega)
  refine B.trans ?_;rw[Array.toList_push,List.append_assoc];refine List.Perm.append_left _ ?_;exact kP left _ c
theorem sP{α:Type}(next:Nat->Nat)(xs:Array α):List.Perm (pickOrder next xs).toList xs.toList:=by
 have:=rH next xs.size 0 xs.toList #[] (by simp)
 simpa[pickOrder] using this
open Sem (wp)
open PyProof.Rows (IntsAre)
noncomputable def Heap.RawN(h:Heap)(a:Addr)(hs:List Int)(t:SetTable):Prop:=
 ∃es ep,h.RawS a es ep t/\es.toList.map (·.1)=hs/\∀e∈es.toList,∃k:Tok,e.2=.int e.1 k/\hashInt e.1=e.1
theorem Heap.RawS.at{es:Array (Int×Value)}{ep:Nat}{t:SetTable}(x:h.RawS a es ep t)(k:∀o,h.get? a=some o->h'.get? a=some o):h'.RawS a es ep t:=
 ⟨let⟨o,ho,r⟩:=x.ob;⟨o,k o ho,r⟩,x.fits,x.plain⟩
theorem Heap.RawN.at{t:SetTable}(x:h.RawN a hs t)(k:∀o,h.get? a=some o->h'.get? a=some o):h'.RawN a hs t:=
 let⟨es,ep,r,q⟩:=x;⟨es,ep,r.at k,q⟩
section
variable{prog:Program}{w:World}{A:Around}{E:Value->Shared->Prop}{s:Shared}{a:Addr}{hs hs':List Int}{t t':SetTable}{n:Int}{tk:Tok}
theorem yh(prog:Program)(w:World){es:List (Int×Value)}{hs:List Int}(e:es.map (·.1)=hs)(B:∀e∈es,∃k:Tok,e.2=.int e.1 k/\hashInt e.1=e.1)(n:Int):hs.contains n=true↔∃x∈es,Value.isInt n x.2=true:=by
 subst e;rw[List.contains_iff_mem,List.mem_map];constructor
 ·rintro⟨x,c,rfl⟩;obtain⟨k,e,_⟩:=B x c;exact⟨x,c,by rw[e];exact intKind_is prog w x.1 k⟩
 ·rintro⟨x,c,e⟩;obtain⟨k,I,_⟩:=B x c;rw[I] at e;obtain⟨J,F⟩:=Value.isInt_shape e;cases F;exact⟨x,c,rfl⟩
theorem uU{Q:Bool->Shared->Prop}(R:s.heap.RawN a hs t)(hn:hashInt n=n)(hz:hs.length<100)(c:Tab23.add (hs,t) n=some (hs',t'))
  (hQ:∀b h',Heap.SameBut a s.heap h'->h'.RawN a hs' t'->Q b {s with heap:=h',toks:=s.toks+1}):wpAny (model prog w) A (setAdd a (.int n tk)) Q E s:=by
 obtain⟨es,ep,x,hk,U⟩:=id R;obtain⟨o,ho,Z,hd⟩:=x.ob;have hsz:es.size=hs.length:=by rw[<-hk,List.length_map,Array.length_toList]
 have J:ElemsOf (intKind prog w) es.toList:=λe h=>by
  obtain⟨k,h1,h2⟩:=U e h;exact⟨⟨e.1,by rw[h1];exact intKind_is prog w _ _,h2.symm⟩,by rw[h1];rfl⟩
 have I:(intKind prog w).is n (.int n tk)=true:=intKind_is prog w _ _;have hb:es.size<scanBound:=by unfold scanBound;omega
 unfold setAdd;refine wpAny_holding (aa ((intKind prog w).pyHash I ?_));unfold setAddHashed setAddHashedIn;refine wpAny_holding (aa (wpAny_setState_of (s:={s with toks:=s.toks+1}) ho hd x.fits ?_));dsimp only;rw[byScan_of (x:= .int n tk) rfl hb J,if_pos rfl];unfold setAddByScan;refine aa (aa (wpAny_rule (aa (wpAny_setScan_of (s:={s with toks:=s.toks+1}) I ho hd x.fits J ?_))));have mf:=yh prog w hk U n;cases hr:es.toList.findIdx? (λe=>(intKind prog w).is n e.2) with
 |some j=>obtain⟨hj,hp,_⟩:=List.findIdx?_eq_some_iff_getElem.mp hr;have hc:hs.contains n=true:=mf.mpr ⟨_,List.getElem_mem hj,hp⟩;simp only[Tab23.add,hc,if_true] at c;cases c;exact ah (ah (hQ _ s.heap (Heap.SameBut.refl a s.heap) R))
 |none=>
  have hc:¬hs.contains n=true:=λz=>by obtain⟨e,h1,h2⟩:=mf.mp z;have:=List.findIdx?_eq_none_iff.mp hr e h1;rw[show(intKind prog w).is n e.2=true from h2] at this;cases this
  simp only[Tab23.add,hc,if_false] at c;cases hf:t.freeSlot n with
  |none=>rw[hf] at c;cases c
  |some p=>
   obtain⟨j,wd⟩:=p;rw[hf] at c;dsimp only at c;cases wd with
   |true=>cases c
   |false=>
    simp only[Bool.false_eq_true,if_false] at c;split at c
    ·rename_i B;rw[Bool.and_eq_true] at B;obtain⟨c1,c2⟩:=B;cases c;have Y:(SetTable.insertAt es (t.put j).2 (n,Value.int n tk)).toList=es.toList.take (t.put j).2++(n,Value.int n tk)::es.toList.drop (t.put j).2:=SetTable.toList_insertAt ..
     have F:(SetTable.insertAt es (t.put j).2 (n,Value.int n tk)).size=hs.length+1:=by rw[<-Array.length_toList,Y,aB,List.length_cons,List.length_take,List.length_drop,Array.length_toList,hsz];omega
     have hL:layNew t es n (.int n tk)=(SetTable.insertAt es (t.put j).2 (n,.int n tk),(t.put j).1,false,false):=by unfold layNew;rw[hf];dsimp only;unfold SetTable.orStandIn;rw[F,c1,if_pos rfl];rfl
     have hh:(intKind prog w).hash n=n:=hn;dsimp only;rw[hh,hL];dsimp only;refine aa (ah ?_);rw[show(t.put j).1.plain=true from x.plain,if_pos rfl];refine aa (ah ?_);rw[if_pos rfl];refine aa (wpAny_storeSet_of (s:={s with toks:=s.toks+1}) ho hd ?_ (by rw[F,sizeLine_eq];omega))
     rw[show(!false&&(t.put j).1.tooFull)=false by simpa using c2]
     simp only[Bool.false_eq_true,if_false];refine ah (ah (hQ _ _ (Heap.SameBut.update s.heap a _) ⟨SetTable.insertAt es (t.put j).2 (n,.int n tk),ep+1,⟨⟨_,Heap.get?_update_self _ ho (by rw[putSet_of _ _ hd];rfl),?_⟩,by rw[F];exact c1,x.plain⟩,?_,?_⟩))
     ·rw[putSet_of _ _ hd];exact⟨Z,rfl⟩
     ·rw[Y,List.map_append,List.map_cons,List.map_take,List.map_drop,hk]
     ·intro e h;rw[Y] at h;rcases List.mem_append.mp h with h|h
      ·exact U e (List.mem_of_mem_take h)
      ·rcases List.mem_cons.mp h with rfl|h
       ·exact⟨tk,rfl,hn⟩
       ·exact U e (List.mem_of_mem_drop h)
    ·cases c
theorem yU(c:Tab23.add (hs,t) n=some (hs',t')):hs'.length<=hs.length+1:=by
 unfold Tab23.add at c;dsimp only at c;split at c
 ·cases c;omega
 ·split at c
  ·split at c
   ·cases c
   ·split at c
    ·cases c;simp only[List.length_append,List.length_take,List.length_cons,List.length_drop];omega
    ·cases c
  ·cases c
variable{R:Result->Shared->Prop}{I S:Addr}{fp wr:List Addr}{P:Nat->Value->Prop}{St:Nat->Heap->Prop}{ns hsE:List Int}{tE:SetTable}
theorem A_(W:Walks prog w A.in1 I fp wr ns.length P St)(Y:S∉fp)(hv:∀i v,P i v->∃t:Tok,v=.int (ns.getD i 0) t)(hn:∀x∈ns,hashInt x=x)(hz:ns.length<100):
  ∀(k i:Nat)(s:Shared)(hs:List Int)(t:SetTable),ns.length - i=k->i<=ns.length->St i s.heap->s.heap.RawN S hs t->hs.length<=i->Tab23.tY (ns.drop i) (hs,t)=some (hsE,tE)->
   (∀h' tk,(∀b o,b∉wr->b≠S->s.heap.get? b=some o->h'.get? b=some o)->h'.RawN S hsE tE->R (.ok (.ret .none)) {s with heap:=h',toks:=tk})->
   codeAny (model prog w) A (.builtin "set.update.loop" ⟨[.ref S,.ref I],[]⟩) R s:=by
 intro k
 induction k with
 |zero=>
  intro i s hs t e hi st RS hl B Z;have:i=ns.length:=by omega
  subst this;rw[List.drop_length] at B;cases B;refine codeAny_builtin PyProof.Rows.F.entry_set_update_loop ?_;rw[Around.under_plainId PyProof.Rows.F.plain_set_update_loop _];refine aa (W.done s _ _ st λh' tk hk=>ah (Z h' tk (λb o h1 _ q=>hk b o h1 q) (RS.at λo q=>hk S o (λz=>Y (W.sub _ z)) q)))
 |succ k ih=>
  intro i s hs t e hi st RS hl B Z;have c:i<ns.length:=by omega
  rw[List.drop_eq_getElem_cons c] at B;unfold Tab23.tY at B;cases q:Tab23.add (hs,t) ns[i] with
  |none=>rw[q] at B;cases B
  |some p=>
   obtain⟨U,t2⟩:=p;rw[q] at B;refine codeAny_builtin PyProof.Rows.F.entry_set_update_loop ?_;rw[Around.under_plainId PyProof.Rows.F.plain_set_update_loop _];refine aa (W.item i s _ _ c st λv h1 tk1 hP st1 J=>?_);obtain⟨t0,rfl⟩:=hv i v hP;have eg:ns.getD i 0=ns[i]:=by simp[c]
   rw[eg];refine aa (wpAny_holding (uU (s:={s with heap:=h1,toks:=tk1}) (RS.at λo z=>J S o (λy=>Y (W.sub _ y)) z) (hn _ (List.getElem_mem c)) (by omega) q λb h2 sb R2=>?_))
   refine ah ⟨plainId_quiet PyProof.Rows.F.plain_set_update_loop _,ih (i+1) _ U t2 (by omega) (by omega) (W.frame _ h1 _ st1 λb hb o z=>?_) R2 (by have:=yU q;omega) B λh' tk hk RE=>Z h' tk (λb o n1 n2 z=>hk b o n1 n2 ?_) RE⟩
   ·exact(sb.2 b λy=>Y (by rw[<-y];exact hb)).trans z
   ·exact(sb.2 b n2).trans (J b o n1 z)
end
structure SqN(prog:Program)(w:World)(T:String)(l:Addr)(ns:List Int)(OK:Heap->Prop):Prop where
 type:∀s:Shared,OK s.heap->s.TypeIs (.ref l) T
 keep:∀h h':Heap,OK h->(∀o,h.get? l=some o->h'.get? l=some o)->OK h'
 lt:∀h,OK h->l<h.objs.size
 sub1:isSubtype (.type T) (.type "set")=pure false
 sub2:isSubtype (.type T) (.type "frozenset")=pure false
 nd:(Value.type T==Value.type "dict")=false
 iter:∀(A:Around)(s:Shared),A.handled=none->OK s.heap->∃(oI:Obj)(St:Nat->Heap->Prop),
  (∀(E:Value->Shared->Prop)(Q:Value->Shared->Prop),Q (.ref s.heap.objs.size) {s with heap:=s.heap.push oI}->wpAny (model prog w) A (pyIter (.ref l)) Q E s)/\
  Walks prog w A s.heap.objs.size [s.heap.objs.size,l] [s.heap.objs.size] ns.length (λi v=>∃t:Tok,v=.int (ns.getD i 0) t) St/\St 0 (s.heap.push oI)
theorem Walks.weak{w:World}{A:Around}{I:Addr}{fp wr:List Addr}{n:Nat}{P c:Nat->Value->Prop}{St:Nat->Heap->Prop}(W:Walks prog w A I fp wr n P St)(k:∀i v,P i v->c i v):Walks prog w A I fp wr n c St:=
 ⟨W.sub,W.frame,λi s Q E hi st F=>W.item i s Q E hi st λv h' tk B=>F v h' tk (k i v B),W.done,W.self⟩
theorem sub_tuple_set:isSubtype (.type "tuple") (.type "set")=pure false:=by rw[isSubtype_type];kernel_rfl
theorem j7:isSubtype (.type "tuple") (.type "frozenset")=pure false:=by rw[isSubtype_type];kernel_rfl
theorem uO{w:World}{vs:List Value}(hi:IntsAre vs ns):SqN prog w "list" l ns (λh=>h.IsList l vs.toArray):=by
 have B:=PyProof.Rows.IntsAre.length hi;refine⟨λs h=>h.typeIs,λh h' x k=>x.at λo q=>k o q,λh x=>let⟨o,ho,_⟩:=x;am ho,F.sub_list_set,F.sub_list_frozenset,by decide,λA s c x=>⟨_,λi h=>h.IsListIter s.heap.objs.size l i/\h.IsList l vs.toArray,λE Q q=>wpAny_pyIter_list x q,?_,⟨⟨_,aq _ rfl,rfl,rfl⟩,x.push _⟩⟩⟩
 have W:=Walks.list (prog:=prog) (w:=w) (A:=A) c s.heap.objs.size l (au (let⟨o,ho,_⟩:=x;am ho)) vs.toArray;rw[show vs.toArray.size=ns.length from(List.size_toArray ..).trans B] at W;exact W.weak λi v h=>PyProof.Rows.IntsAre.int_at hi i v (by simpa using h)
theorem sI{w:World}{vs:List Value}(hi:IntsAre vs ns):SqN prog w "tuple" l ns (λh=>h.IsTuple l vs.toArray):=by
 have B:=PyProof.Rows.IntsAre.length hi;refine⟨λs h=>h.typeIs,λh h' x k=>let⟨o,ho,r⟩:=x;⟨o,k o ho,r⟩,λh x=>let⟨o,ho,_⟩:=x;am ho,sub_tuple_set,j7,by decide,λA s c x=>⟨_,λi h=>h.IsTupleIter s.heap.objs.size l i/\h.IsTuple l vs.toArray,λE Q q=>wpAny_pyIter_tuple x q,?_,⟨⟨_,aq _ rfl,rfl,rfl⟩,x.push _⟩⟩⟩
 have W:=Walks.tuple (prog:=prog) (w:=w) (A:=A) c s.heap.objs.size l (au (let⟨o,ho,_⟩:=x;am ho)) vs.toArray;rw[show vs.toArray.size=ns.length from(List.size_toArray ..).trans B] at W;exact W.weak λi v h=>PyProof.Rows.IntsAre.int_at hi i v (by simpa using h)
section
variable{prog:Program}{w:World}{A:Around}{E:Value->Shared->Prop}{s:Shared}
noncomputable abbrev jz(b:Bool):Obj:={cls:= .type "set",dict:=none,data:= .set #[] 0 (.fresh 0 0 b)}
theorem sW(a:Value){Q₁:Value->Shared->Prop}(h:Q₁ (.ref s.heap.objs.size) {s with heap:=s.heap.push (jz (!w.params.followText "set-order"))}):
  codeAny (model prog w) A (.call (.builtin "set.__new__") ⟨[.type "set",a],[]⟩) (wants Q₁ E) s:=by
 refine codeAny_of_tree (show wpAny _ A.in1 (do checkBuiltinCall "set.__new__" ⟨[.type "set",a],[]⟩;again (.builtin "set.__new__" ⟨[.type "set",a],[]⟩)) _ _ s from ?_)
 refine aa (wpAny_of_eq (F.newCall_set_1 a) (ah ⟨plainId_quiet F.plain_set_new _,codeAny_builtin F.entry_set_new ?_⟩));rw[Around.under_plainId F.plain_set_new _];unfold Builtin.«set.__new__» Builtin.Frozenset.newClass;have c:=sub_set_self;obtain⟨B,g,d,tk,os⟩:=s;dsimp only
 wp_walk
 refine wpAny_askSetting (ah ?_);dsimp only;simp only[newObj];exact aa (wpAny_alloc (ah (ah h)))
theorem qF{T:String}{t:SetTable}{OK:Heap->Prop}{Q:Value->Shared->Prop}(K:SqN prog w T l ns OK)(hh:A.handled=none)(J:OK s.heap)(hn:∀x∈ns,hashInt x=x)(hz:ns.length<100)
  (ha:Tab23.tY ns ([],.fresh 0 0 (!w.params.followText "set-order"))=some (hs,t))
  (h:∀(h':Heap)(tk:Nat),h'.RawN s.heap.objs.size hs t->(∀b o,s.heap.get? b=some o->h'.get? b=some o)->Q (.ref s.heap.objs.size) {s with heap:=h',toks:=tk}):
  wpAny (model prog w) A (call (.type "set") [.ref l]) Q E s:=by
 have Y:=K.lt _ J;obtain⟨c,tl,hmro⟩:=F.called_set.mro;have U:=F.called_set.made;have hsub:=F.called_set.sub;refine wpAny_call (codeAny_of_tree (show wpAny _ _ (callAny (.type "set") _) _ _ _ from ?_));refine ah ⟨Code.quiet_builtin _ (by decide+kernel),codeAny_builtin F.entry_type_call ?_⟩
 rw[Around.under_plain (weight_type_call_type "set" [.ref l] []) rfl];have h1:=F.called_set.notType;have h2:=F.called_set.canCreate;have hct:=F.typeCall_set_1 (.ref l)
 repeat (any_goals (first|assumption|wp_step))
 refine codeAny_mono (sW (.ref l) (E:=E) (Q₁:=λobj s₁=>obj=.ref s.heap.objs.size/\s₁={s with heap:=s.heap.push (jz (!w.params.followText "set-order"))}) ⟨rfl,rfl⟩) λr s₁ hr=>?_;generalize w.params.followText "set-order"=bb at ha hr;cases r with
 |error e=>exact hr
 |ok fl=>
  cases fl with
  |ret obj=>
   obtain⟨rfl,rfl⟩:=hr;have hS:(s.heap.push (jz (!bb))).get? s.heap.objs.size=some (jz (!bb)):=aq _ rfl;have hT:Shared.TypeIs {s with heap:=s.heap.push (jz (!bb))} (.ref s.heap.objs.size) "set":=⟨_,hS,rfl⟩;have hli:=F.called_set.init.lookup;have hbi:=F.called_set.init.bind (.ref s.heap.objs.size)
   repeat (any_goals (first|assumption|wp_step))
   refine codeAny_mono (codeAny_call_builtin (R:=wants (λr s₂=>r=.none/\∃h' tk,s₂={s with heap:=h',toks:=tk}/\h'.RawN s.heap.objs.size hs t/\∀b o,s.heap.get? b=some o->h'.get? b=some o) E) F.called_set.init.plain F.entry_set_init (check_set_init_1 hT ?_)) λr₂ s₂ hr₂=>?_
   ·have B:=K.keep s.heap (s.heap.push (jz (!bb))) J λo q=>ae _ q;have ht:Shared.TypeIs {s with heap:=s.heap.push (jz (!bb))} (.ref l) T:=K.type {s with heap:=s.heap.push (jz (!bb))} B;have k1:=K.sub1;have k2:=K.sub2;have k3:=K.nd;unfold Builtin.«set.__init__» noKeywords Builtin.Frozenset.updateFrom;generalize hPI:pyIter=PI
    wp_walk
    subst hPI;obtain⟨oI,St,it,W,st⟩:=K.iter A.in1.in1.in1 {s with heap:=s.heap.push (jz (!bb))} (by simp[hh]) B
    refine wpAny_of_in1 (it _ _ (aa (wpAny_runValue ?_)));have I:(s.heap.push (jz (!bb))).objs.size=s.heap.objs.size+1:=Heap.size_push ..;have Z:((s.heap.push (jz (!bb))).push oI).get? s.heap.objs.size=some (jz (!bb)):=ae _ hS;refine A_ W (λz=>(List.mem_cons.mp z).elim (λy=>absurd (y.trans I) (au (aI _))) λy=>absurd (List.mem_singleton.mp y) (bp Y)) (λi v q=>q) hn hz ns.length 0 _ [] _ (by omega) (Nat.zero_le _) st ⟨#[],0,⟨⟨_,Z,⟨rfl,rfl,rfl⟩,rfl⟩,rfl,rfl⟩,rfl,λe q=>by cases q⟩ (ac _) ha λh' tk hk RE=>?_
    exact ah (ah ⟨rfl,h',tk,rfl,RE,λb o q=>hk b o (λz=>by rw[List.mem_singleton.mp z] at q;exact absurd (am q) (Nat.not_lt_of_ge (I▸Nat.le_succ _))) (λz=>by subst z;exact absurd (am q) (be _)) (ae _ (ae _ q))⟩)
   ·cases r₂ with
    |error e=>exact hr₂
    |ok fl₂=>
     cases fl₂ with
     |ret r=>
      obtain⟨rfl,h',tk,rfl,h3,h4⟩:=hr₂
      repeat (any_goals (first|assumption|wp_step))
      exact h _ _ h3 h4
     |_=>exact hr₂.elim
  |_=>exact hr.elim
end
end PySem
namespace PySem.W
open PySem PySem.Calls PyProof.Rows
noncomputable def slotAt(t:SetTable)(bt:Bool)(i:Nat):Nat:=if bt then 0 else match i with
 |0=>0
 |i+1=>(t.place.getD i 0)+1
def gZ(t:SetTable)(n:Nat):Bool:=(List.range n).all (λi=>SetTable.below t.place (slotAt t false i)==i)&&(SetTable.below t.place (slotAt t false n)==n)&&(t.place.size==n)
theorem ip:Slot "set_iterator" "__iter__" "set_iterator.__iter__":=
 .of (owner:= "set_iterator") (n:= "__iter__") (by rw[typeLookup_type,builtinLookup_eq_fast];kernel_rfl) (by decide+kernel) (by decide+kernel) (by decide+kernel)
  (by first|exact .inl (by decide+kernel)|exact .inr (by decide+kernel)) (by rw[isSubtype_type];kernel_rfl)
theorem lC:entryFor table "set_iterator.__iter__"=some Builtin.«dict_keyiterator.__iter__»:=entryFor_alias (id':= "dict_keyiterator.__iter__") (by kernel_rfl) rfl (by decide+kernel) (by kernel_rfl)
theorem nE(a:Value):argsOk "set_iterator.__iter__" ⟨[a],[]⟩:=by unfold argsOk;kernel_rfl
section
variable{prog:Program}{w:World}{A:Around}{E:Value->Shared->Prop}{s:Shared}{a:Addr}{es:Array (Int×Value)}{ep:Nat}{t:SetTable}
theorem uT{Q:Bool->Shared->Prop}(c:s.TypeIs (.ref a) "set")(h:Q false s):wpAny (model prog w) A (Builtin.List.listLengthHint (.ref a)) Q E s:=by
 unfold Builtin.List.listLengthHint;refine aa (wpAny_specialOf c PySem.F.slot_set_len.lookup ?_);generalize zv:("set.__len__":String)=id0
 wp_delta
 rw[show splitId id0=some ("set","__len__") from by subst zv;decide+kernel]
 subst zv;refine aa (wpAny_isInstance (T:= "set") (b:=true) c sub_set_self ?_);refine wpAny_ite_split (λz=>absurd z (by decide)) λ_=>wpAny_ite_split (λ_=>aa (wpAny_typeOf c (ah h))) λz=>absurd (by decide+kernel) z
noncomputable def cL(w:World)(a:Addr)(es:Array (Int×Value))(ep:Nat):List (Int×Value):=if w.params.followText "set-order"=true then(pickOrder (w.params.setOrder a ep) es).toList else es.toList
theorem fZ:List.Perm (cL w a es ep) es.toList:=by
 unfold cL;split
 ·exact sP _ _
 ·exact .refl _
theorem sJ(hh:A.handled=none)(I:Addr)(Y:a≠I)(hl:w.params.followText "set-order"=false->t.led=true/\gZ t es.size=true):
  Walks prog w A I [I,a] [I] es.size (λi v=>∃h,(cL w a es ep)[i]? =some (h,v)) (λi h=>h.RawSI I a (slotAt t (w.params.followText "set-order") i) i es.size ep/\h.RawS a es ep t) where
 sub:=λb c=>by simp at c;simp[c]
 frame:=λ_ _ _ st hk=>⟨let⟨o,ho,r⟩:=st.1;⟨o,hk I (by simp) o ho,r⟩,st.2.at λo q=>hk a (by simp) o q⟩
 item:=λi s Q E hi st F=>by
  obtain⟨it,x⟩:=st;have hz:(cL w a es ep).length=es.size:=by rw[fZ.length_eq,Array.length_toList]
  have Z:(cL w a es ep)[i]? =some ((cL w a es ep)[i]'(by omega)):=ag (by omega)
  refine xC (v:=((cL w a es ep)[i]'(by omega)).2) (sl':=slotAt t (w.params.followText "set-order") (i+1)) it x (λE' Q' q=>?_) λh' U sb=>F _ h' s.toks ⟨_,Z⟩ ⟨U,x.at λo z=>(sb.2 a Y).trans z⟩ λb o c z=>sb.extBut b o (λy=>c (by simp[y])) z
  cases c:w.params.followText "set-order" with
  |true=>
   refine ka c x ?_;have e:(cL w a es ep)=(pickOrder (w.params.setOrder a ep) es).toList:=by unfold cL;rw[if_pos c]
   have e2:(pickOrder (w.params.setOrder a ep) es)[i]? =some ((cL w a es ep)[i]'(by omega)):=by rw[<-Array.getElem?_toList,<-e];exact Z
   rw[e2];rw[c] at q;exact q
  |false=>
   obtain⟨l1,l2⟩:=hl c;unfold gZ at l2;rw[Bool.and_eq_true,Bool.and_eq_true,List.all_eq_true] at l2;obtain⟨⟨l2,J⟩,l4⟩:=l2;have l5:SetTable.below t.place (slotAt t false i)=i:=by simpa using l2 i (List.mem_range.mpr hi)
   have l6:t.place.size=es.size:=by simpa using l4
   have e:(cL w a es ep)=es.toList:=by unfold cL;rw[if_neg (by rw[c];decide)]
   have B:i<t.place.size:=by omega
   rw[c] at q;refine pX (h:=((cL w a es ep)[i]'(by omega)).1) (j:=t.place[i]) c l1 x (by rw[l5,<-Array.getElem?_toList,<-e];exact Z) (by rw[l5];simp[B]) ?_
   have:slotAt t false (i+1)=t.place[i]+1:=by simp[slotAt,B]
   rw[<-this];exact q
 done:=λs Q E st F=>by
  obtain⟨it,x⟩:=st;have hz:(cL w a es ep).length=es.size:=by rw[fZ.length_eq,Array.length_toList]
  refine Aa hh it x (λE' Q' q=>?_) λh' he=>F h' s.toks λb o c z=>he b o (λy=>c (by simp[y])) z
  cases c:w.params.followText "set-order" with
  |true=>
   refine ka c x ?_;have e:(cL w a es ep)=(pickOrder (w.params.setOrder a ep) es).toList:=by unfold cL;rw[if_pos c]
   have e2:(pickOrder (w.params.setOrder a ep) es)[es.size]? =none:=by rw[<-Array.getElem?_toList,<-e];exact aZ (by omega)
   rw[e2];exact q
  |false=>
   obtain⟨l1,l2⟩:=hl c;unfold gZ at l2;rw[Bool.and_eq_true,Bool.and_eq_true,List.all_eq_true] at l2;obtain⟨⟨_,J⟩,_⟩:=l2;have J:SetTable.below t.place (slotAt t false es.size)=es.size:=by simpa using J
   exact pY c l1 x (by rw[J];simp) q
 self:=λi s Q E st F=>by have hT:=st.1.ty;refine wpAny_pyIter_slot hT ip (wpAny_call_entry ip hT lC (show wpAny _ _ (ret (.ref I)) _ _ s from ah ⟨_,rfl,"set_iterator",_,hT,db.lookup,F⟩) (nE _))
theorem xD(B:w.params.followText "set-order"=false->t.led=true/\gZ t es.size=true):KdlSrc prog w "set" a a es.size (λi v=>∃h,(cL w a es ep)[i]? =some (h,v)) (λh=>h.RawS a es ep t) where
 type:=λ_ x=>x.ty
 there:=λ_ x=>⟨let⟨_,ho,_⟩:=x.ob;am ho,let⟨_,ho,_⟩:=x.ob;am ho⟩
 keep:=λ_ _ x hk=>x.at λo e=>hk a (.inl rfl) o e
 notList:=by decide
 notTuple:=by decide
 hint:=λ_ _ _ _ x c=>uT x.ty c
 iter:=λA s F x=>⟨_,_,λ_ _ c=>uS x c,sJ (t:=t) (ep:=ep) F _ (let⟨_,ho,_⟩:=x.ob;au (am ho)) B,⟨⟨_,aq _ rfl,rfl,by simp[slotAt]⟩,x.at λo q=>ae _ q⟩⟩
end
end PySem.W
namespace Tab23
noncomputable def insI(x:Int):List Int->List Int
 |[]=>[x]
 |y::r=>if x<=y then x::y::r else y::insI x r
def dM:List Int->List Int
 |[]=>[]
 |x::r=>insI x (dM r)
def iU(ns:List Int):List Int:=dM (ns.foldl (λl x=>if l.contains x then l else l++[x]) [])
theorem insI_perm(x:Int):∀l,(insI x l).Perm (x::l)
 |[]=>.refl _
 |y::r=>by
  unfold insI;split
  ·exact .refl _
  ·exact((insI_perm x r).cons y).trans (.swap ..)
theorem cT:∀l,(dM l).Perm l
 |[]=>.refl _
 |x::r=>(insI_perm x _).trans ((cT r).cons x)
theorem r_(x:Int):∀l:List Int,l.Pairwise (· <= ·)->(insI x l).Pairwise (· <= ·)
 |[],_=>by simp[insI]
 |y::r,h=>by
  have h':=List.pairwise_cons.mp h;unfold insI;split
  ·rename_i B;refine List.pairwise_cons.mpr ⟨λz c=>?_,h⟩;rcases List.mem_cons.mp c with rfl|c
   ·exact B
   ·exact Int.le_trans B (h'.1 z c)
  ·rename_i B;refine List.pairwise_cons.mpr ⟨λz c=>?_,r_ x r h'.2⟩;rcases List.mem_cons.mp ((insI_perm x r).mem_iff.mp c) with rfl|c
   ·omega
   ·exact h'.1 z c
theorem mO:∀l:List Int,(dM l).Pairwise (· <= ·)
 |[]=>.nil
 |x::r=>r_ x _ (mO r)
theorem qV:∀{a b:List Int},a.Perm b->a.Pairwise (· <= ·)->b.Pairwise (· <= ·)->a=b
 |[],b,p,_,_=>(List.perm_nil.mp p.symm).symm▸rfl
 |x::a,[],p,_,_=>by cases(List.perm_nil.mp p)
 |x::a,y::b,p,ha,hb=>by
  have B:=List.pairwise_cons.mp ha;have c:=List.pairwise_cons.mp hb
  have e:x=y:=by
   have h1:x∈y::b:=p.mem_iff.mp (.head _);have F:y∈x::a:=p.mem_iff.mpr (.head _);rcases List.mem_cons.mp h1 with e|h1
   ·exact e
   ·rcases List.mem_cons.mp F with e|F
    ·exact e.symm
    ·have:=B.1 y F;have:=c.1 x h1;omega
  subst e;rw[qV (List.Perm.cons_inv p) B.2 c.2]
theorem rc{a b:List Int}(p:a.Perm b)(h:a.Pairwise (· <= ·)):a=dM b:=qV (p.trans (cT b).symm) h (mO b)
def DU(led:Bool)(xs:List Int):Bool:=match tY xs ([],.fresh 0 0 led) with
 |some (hs,t)=>PySem.W.gZ t hs.length&&(t.led==led)&&dM hs==iU xs&&xs.all (λx=>PySem.hashInt x==x)&&decide (hs.length<=2)
 |none=>false
theorem Fx:((all 2).all (DU true)&&(all 2).all (DU false))=true:=by decide+kernel
theorem jY:∀{n:Nat}{xs:List Int},xs.length<=n->(∀x∈xs,0<=x/\x<10)->xs∈all n
 |0,xs,h,_=>by
  have:xs=[]:=List.length_eq_zero_iff.mp (by omega)
  subst this;exact .head _
 |n+1,xs,h,hb=>by
  unfold all;rw[List.mem_append];by_cases hl:xs.length<=n
  ·exact .inl (jY hl hb)
  ·right;cases xs with
   |nil=>simp at hl
   |cons x r=>
    have hr:r.length=n:=by simp at h hl;omega
    have B:=hb x (.head _);rw[List.mem_flatMap];refine⟨r,List.mem_filter.mpr ⟨jY (by omega) λy c=>hb y (.tail _ c),by simpa using hr⟩,List.mem_map.mpr ⟨x.toNat,List.mem_range.mpr (by omega),?_⟩⟩
    have:((x.toNat:Nat):Int)=x:=by omega
    rw[this]
theorem C3(c:Bool){xs:List Int}(h:xs.length<=2)(F:∀x∈xs,0<=x/\x<10):∃hs t,tY xs ([],.fresh 0 0 c)=some (hs,t)/\PySem.W.gZ t hs.length=true/\t.led=c/\dM hs=iU xs/\(∀x∈xs,PySem.hashInt x=x)/\hs.length<=2:=by
 have k:=Fx;rw[Bool.and_eq_true,List.all_eq_true,List.all_eq_true] at k
 have B:DU c xs=true:=by
  cases c with
  |true=>exact k.1 xs (jY h F)
  |false=>exact k.2 xs (jY h F)
 unfold DU at B;split at B
 ·rename_i hs t e;simp only[Bool.and_eq_true,List.all_eq_true,beq_iff_eq,decide_eq_true_eq] at B;exact⟨hs,t,e,B.1.1.1.1,B.1.1.1.2,B.1.1.2,B.1.2,B.2⟩
 ·cases B
end Tab23
namespace PySem.W
open PySem PySem.Calls PyProof.Rows Tab23
section
variable{prog:Program}{w:World}{A:Around}{E:Value->Shared->Prop}{s:Shared}
theorem r8:∀{l:List (Int×Value)},(∀e∈l,∃k:Tok,e.2=.int e.1 k/\hashInt e.1=e.1)->IntsAre (l.map (·.2)) (l.map (·.1))
 |[],_=>.nil
 |e::r,h=>by obtain⟨k,h1,_⟩:=h e (.head _);rw[List.map_cons,List.map_cons,h1];exact .cons _ _ (r8 λx c=>h x (.tail _ c))
theorem pU{a:Addr}{hs:List Int}{t:SetTable}{Q:Value->Shared->Prop}(I:A.handled=none)(R:s.heap.RawN a hs t)(Y:hs.length<64)(hl:w.params.followText "set-order"=false->t.led=true)(Z:gZ t hs.length=true)
  (h:∀(h':Heap)(tk:Nat)(D:Addr)(out:Array Value)(c:Nat),(∀b o,s.heap.get? b=some o->h'.get? b=some o)->s.heap.get? D=none->h'.get? D=some (seqObj "list" out c)->IntsAre out.toList (dM hs)->Q (.ref D) {s with heap:=h',toks:=tk}):
  wpAny (model prog w) A (call (.builtin "sorted") [.ref a]) Q E s:=by
 obtain⟨es,ep,x,hk,he⟩:=R;have hsz:es.size=hs.length:=by rw[<-hk,List.length_map,Array.length_toList]
 have K:=xD (prog:=prog) (w:=w) (a:=a) (es:=es) (ep:=ep) (t:=t) λz=>⟨hl z,by rw[hsz];exact Z⟩
 refine call_function_entry kind_sorted plain_sorted entry_sorted (args_sorted1 _) ?_;unfold Builtin.«sorted»;refine aa (m:=checkCount "sorted" 1 1 _) (ah (aa (kdu_collect (A:=A.in1) K I x (by rw[sizeLine_eq];omega) λh' tk acc F B=>?_)))
 have e1:acc.toList=(cL w a es ep).map (·.2):=by
  have Y:(cL w a es ep).length=es.size:=by rw[fZ.length_eq,Array.length_toList]
  refine List.ext_getElem? λj=>?_;by_cases hj:j<acc.toList.length
  ·have J:acc.toList[j]? =some (acc.toList[j]):=ag hj;obtain⟨I,e⟩:=B.2 j _ (by rw[<-Array.getElem?_toList];exact J)
   rw[J,aj,e];rfl
  ·have:es.size<=j:=by rw[Array.length_toList,B.1] at hj;omega
   rw[aZ (by omega),aZ (by rw[List.length_map];omega)]
 have hI:IntsAre acc.toList ((cL w a es ep).map (·.1)):=by rw[e1];exact r8 λe q=>he e (fZ.mem_iff.mp q)
 have hp:((cL w a es ep).map (·.1)).Perm hs:=by rw[<-hk];exact fZ.map _
 have hn:acc.toList.length<64:=by rw[Array.length_toList,B.1];omega
 refine aa (wpAny_newList ?_ (by rw[sizeLine_eq];omega))
 have ho:(h'.push (seqObj "list" acc.toList.toArray 0)).get? h'.objs.size=some (seqObj "list" acc.toList.toArray 0):=aq _ rfl;refine aa (wpAny_holding (wpAny_call_entry slot_list_sort ⟨_,ho,rfl⟩ entry_list_sort (list_sort_tree ho hI hn λout U a1 a2 a3=>⟨_,rfl,?_⟩) (args_list_sort _)));obtain⟨c,hc⟩:=sortedHeap_at (out:=out) ho
 have hb:s.heap.get? h'.objs.size=none:=by
  cases e:s.heap.get? h'.objs.size with
  |none=>rfl
  |some o=>exact absurd (am (F _ _ e)) (be _)
 refine ah ⟨_,rfl,h _ tk h'.objs.size out c (λb o q=>?_) hb hc (by rw[<-rc (a2.trans hp) a3];exact a1)⟩
 have q2:=F b o q;rw[sortedHeap_old (au (am q2)) (by rw[Heap.size_push];exact Nat.lt_succ_of_lt (am q2))]
 exact ae _ q2
end
end PySem.W
namespace Ev
open PySem PySem.Spec PyProof.Rows L2
noncomputable def bH:List (Key×D)->Key->Option D
 |[],_=>none
 |p::r,k=>if p.1=k then some p.2 else bH r k
noncomputable abbrev Loc:=List (Option D)
inductive Bo where
 |add|sub|mul|fdiv|mod|pow
inductive Bt where
 |len|list|tuple|int|dict|max|sorted
inductive Ex where
 |c (d:D)|v (i:Nat)|tup (es:List Ex)|lst (es:List Ex)|emp
 |bin (op:Bo)(a b:Ex)|not (a:Ex)|and (a b:Ex)|or (a b:Ex)
 |cmp (op:CmpOp)(a b:Ex)|ite (c a b:Ex)
 |ix (a b:Ex)|sl (a lo hi:Ex)(hl hh:Bool)
 |fn (f:Nat) (args:List Ex)|bt (f:Bt)(args:List Ex)
 |comp (rng:Bool)(src elt:Ex)|compIf (src test elt:Ex)
 |dict (ks:List Key) (vs:List Ex)|pop (o:Ex)(fr:Bool)
 |fld (a:Ex)(f:Str)(cs ics:List Str)
 |new (x:Str) (f:Nat) (args:List Ex)|meth (o:Ex)(m:Str)(ms:List (Str×Nat))(args:List Ex)
 |compU (src elt:Ex)|compE (src elt:Ex)|isi (a:Ex)(tp:Bool)|sit (a:Ex)|dget (a b c:Ex)|dget1 (a b:Ex)|sset (a:Ex)
noncomputable def alloc(xs:List D):M D:=λst=>.ok (.ref st.length) (st++[.lst xs])
noncomputable def allocD:M D:=λst=>.ok (.ref st.length) (st++[.dct []])
noncomputable def bq(st:a9):D->Option (List D)
 | .tup xs=>some xs
 | .fl xs=>some xs
 | .ref n=>match st[n]? with
  |some (.lst xs)=>some xs
  |_=>none
 |_=>none
noncomputable def vF(fr:Bool)(x:D):M D:=λst=>match x with
 | .ref n=>match st[n]? with
  |some (.lst xs)=>match xs[if fr then 0 else xs.length - 1]? with
   |some y=>.ok y (st.set n (.lst (if fr then xs.drop 1 else xs.dropLast)))
   |none=>.bad
  |_=>.bad
 |_=>.bad
noncomputable def big:Int:=18446744073709551616
noncomputable def ii(f:Int->Int->M D)(x y:D):M D:=match x with
 | .int i=>(match y with
  | .int j=>f i j
  |_=>stuck)
 |_=>stuck
noncomputable def addD(x y:D):M D:=match x with
 | .int i=>(match y with
  | .int j=>ret (.int (i+j))
  |_=>stuck)
 | .tup as=>(match y with
  | .tup bs=>(match as with
   |[]=>ret (.tup bs)
   |a::as=>λst=>if(a::as).length+bs.length<=1000000 then .ok (.tup (a::as++bs)) st else .bad)
  |_=>stuck)
 | .ref m=>(match y with
  | .ref n=>λst=>match st[m]?,st[n]? with
   |some (.lst as),some (.lst bs)=>if as.length+bs.length<=1000000 then alloc (as++bs) st else .bad
   |_,_=>.bad
  |_=>stuck)
 |_=>stuck
def A7(x y:D):M D:=match x with
 | .int i=>(match y with
  | .int j=>λst=>if((-big<i/\i<big)∨(-big<j/\j<big))∨(i.natAbs<2^1000/\j.natAbs<2^1000) then .ok (.int (i*j)) st else .bad
  |_=>stuck)
 |_=>stuck
def cB(op:Bo)(x y:D):M D:=match op with
 | .add=>addD x y
 | .sub=>ii (λi j=>ret (.int (i - j))) x y
 | .mul=>A7 x y
 | .fdiv=>ii (λi j st=>if j≠0/\j.natAbs<2^200 then .ok (.int (i.fdiv j)) st else .bad) x y
 | .mod=>ii (λi j st=>if j≠0 then .ok (.int (i.fmod j)) st else .bad) x y
 | .pow=>ii (λi j st=>if 0<=j/\j<=1000/\i.natAbs<1000 then .ok (.int (i^j.toNat)) st else .bad) x y
def iK(st:a9)(x:D):List D->Option Bool
 |[]=>some false
 |y::ys=>match dF 60 st y x,iK st x ys with
  |some a,some b=>some (a||b)
  |_,_=>none
noncomputable def jn(o:D):M Unit:=λst=>match o with
 | .ref n=>match st[n]? with
  |some (.lst _)=>.ok () st
  |_=>.bad
 |_=>.bad
noncomputable def i8:D->Option Key
 | .int i=>some (.inl i)
 | .str s=>some (.inr s)
 |_=>none
noncomputable def jf(st:a9)(x y:D):Option Bool:=match y with
 | .ref n=>match st[n]? with
  |some (.dct kvs)=>match i8 x with
   |some k=>some (bH kvs k).isSome
   |none=>match x with
    | .non=>some false
    |_=>none
  |_=>none
 |_=>none
noncomputable def Da(x y:D):Option Bool:=match y with
 | .non=>some (match x with| .non=>true|_=>false)
 |_=>none
def cX(op:CmpOp)(x y:D):M D:=λst=>match op with
 | .Eq=>match dF 60 st x y with
  |some k=>.ok (.bl k) st
  |none=>.bad
 | .NotEq=>match dF 60 st x y with
  |some k=>.ok (.bl (!k)) st
  |none=>.bad
 | .Lt=>match x,y with
  | .int i,.int j=>.ok (.bl (decide (i<j))) st
  |_,_=>.bad
 | .LtE=>match x,y with
  | .int i,.int j=>.ok (.bl (decide (i<=j))) st
  |_,_=>.bad
 | .Gt=>match x,y with
  | .int i,.int j=>.ok (.bl (decide (j<i))) st
  |_,_=>.bad
 | .In=>match bq st y with
  |some ys=>match iK st x ys with
   |some k=>.ok (.bl k) st
   |none=>.bad
  |none=>match jf st x y with
   |some k=>.ok (.bl k) st
   |none=>.bad
 | .NotIn=>match bq st y with
  |some ys=>match iK st x ys with
   |some k=>.ok (.bl (!k)) st
   |none=>.bad
  |none=>match jf st x y with
   |some k=>.ok (.bl (!k)) st
   |none=>.bad
 | .Is=>match Da x y with
  |some k=>.ok (.bl k) st
  |none=>.bad
 | .IsNot=>match Da x y with
  |some k=>.ok (.bl (!k)) st
  |none=>.bad
 |_=>.bad
noncomputable def DD(st:a9)(x:D)(k:Key):R D:=match x with
 | .ref n=>match st[n]? with
  |some (.dct kvs)=>match bH kvs k with
   |some d=>.ok d st
   |none=>.bad
  |_=>.bad
 |_=>.bad
def index(x y:D):M D:=λst=>match x,y with
 |x,.int i=>match bq st x with
  |some xs=>match qJ xs i with
   |some d=>.ok d st
   |none=>.bad
  |none=>DD st x (.inl i)
 |x,.str k=>DD st x (.inr k)
 |_,_=>.bad
def Fu:D->Option (Key×D)
 | .tup xs=>(oi xs).bind λp=>(i8 p.1).map λk=>(k,p.2)
 |_=>none
def n_:List D->Option (List (Key×D))
 |[]=>some []
 |x::r=>(Fu x).bind λp=>(n_ r).map λq=>p::q
noncomputable def bP(kvs:List (Key×D))(k:Key)(v:D):List (Key×D):=if(kvs.any λkv=>decide (kv.1=k)) then kvs.map (λkv=>if kv.1=k then(kv.1,v) else kv) else kvs++[(k,v)]
noncomputable def pc(ps:List (Key×D)):List (Key×D):=ps.foldl (λacc p=>bP acc p.1 p.2) []
noncomputable def dX(st:a9):D->Option (List (Key×D))
 | .ref n=>match st[n]? with
  |some (.dct kvs)=>some kvs
  |_=>none
 |_=>none
noncomputable def lS:List D->Option (List Int)
 |[]=>some []
 | .int i::r=>(lS r).map λns=>i::ns
 |_=>none
def numsOf(st:a9):D->Option (List Int)
 | .ref n=>match st[n]? with
  |some (.lst xs)=>lS xs
  |_=>none
 |_=>none
def uN(x:D):M D:=λst=>match bq st x with
 |some xs=>match lS xs with
  |some ns=>if ns.length<=2/\ns.all (λn=>decide (0<=n/\n<10))=true then alloc ((Tab23.iU ns).map .int) st else .bad
  |none=>.bad
 |none=>.bad
def sA(f:Bt)(x:D):M D:=match f with
 | .len=>λst=>match bq st x with
  |some xs=>.ok (.int xs.length) st
  |none=>match dX st x with
   |some kvs=>.ok (.int kvs.length) st
   |none=>.bad
 | .list=>λst=>match bq st x with
  |some xs=>alloc xs st
  |none=>.bad
 | .tuple=>λst=>match bq st x with
  |some xs=>.ok (.tup xs) st
  |none=>.bad
 | .int=>(match x with
  | .bl b=>ret (.int (if b then 1 else 0))
  |_=>stuck)
 | .dict=>(match x with
  | .ref n=>λst=>match st[n]? with
   |some (.lst xs)=>(match n_ xs with
    |some ps=>.ok (.ref st.length) (st++[.dct (pc ps)])
    |none=>.bad)
   |some (.dct kvs)=>.ok (.ref st.length) (st++[.dct kvs])
   |_=>.bad
  |_=>stuck)
 | .sorted=>λst=>match numsOf st x with
  |some ns=>if ns.length<64 then alloc ((Tab23.dM ns).map .int) st else .bad
  |none=>.bad
 |_=>stuck
noncomputable def DF(f:Bt)(x y:D):M D:=match f with
 | .max=>ii (λi j=>ret (.int (if j>i then j else i))) x y
 |_=>stuck
def eL(f:Bt)(ds:List D):M D:=match ds with
 |[x]=>sA f x
 |[x,y]=>DF f x y
 |_=>stuck
inductive Src where
 |its (xs:List D)|at(n:Nat)|zp (x y:D)|en (n:Nat)|rv (n k:Nat)
noncomputable def bN(n:Nat):List D:=(List.range n).map λ(i:Nat)=>D.int (i:Int)
def da(rng:Bool)(d:D):Option Src:=match rng,d with
 |true,.int j=>if -1000000<=j/\j<=1000000 then some (.its (bN j.toNat)) else none
 |false,.tup xs=>some (.its xs)
 |false,.fl xs=>some (.its xs)
 |false,.ref n=>some (.at n)
 |_,_=>none
noncomputable def eO(i:Int)(n:Nat):List D:=(List.range n).map λ(k:Nat)=>D.int (i - (k:Int))
def mQ:D->Option Src
 | .int i=>if -1000000<=i/\i<=1000000 then some (.its (eO i (i+1).toNat)) else none
 |_=>none
noncomputable def fh(k:Nat):List D->List D
 |[]=>[]
 |x::xs=>.tup [.int (k:Int),x]::fh (k+1) xs
theorem cH:∀(xs:List D)(k i:Nat),(fh k xs)[i]? =xs[i]?.map λx=>.tup [.int ((k+i:Nat):Int),x]
 |[],k,i=>by simp[fh]
 |x::xs,k,0=>by simp[fh]
 |x::xs,k,i+1=>by
  simp only[fh,List.getElem?_cons_succ];rw[cH xs (k+1) i,show k+1+i=k+(i+1) by omega]
def ph:D->Option Src
 | .ref n=>some (.en n)
 | .tup xs=>some (.its (fh 0 xs))
 |_=>none
noncomputable def Ar(st:a9):D->Option Src
 | .ref n=>match st[n]? with
  |some (.lst xs)=>some (.rv n xs.length)
  |_=>none
 |_=>none
noncomputable def B3:D->D->Option Src
 |x,y=>some (.zp x y)
noncomputable def eK(s:Src)(i:Nat)(st:a9):Option (Option D):=match s with
 | .its xs=>some xs[i]?
 | .at n=>match st[n]? with
  |some (.lst xs)=>some xs[i]?
  |_=>none
 | .zp x y=>match bq st x,bq st y with
  |some xs,some ys=>some (match xs[i]?,ys[i]? with
   |some x,some y=>some (.tup [x,y])
   |_,_=>none)
  |_,_=>none
 | .en n=>match st[n]? with
  |some (.lst xs)=>some (xs[i]?.map λx=>.tup [.int (i:Int),x])
  |_=>none
 | .rv n k=>match st[n]? with
  |some (.lst xs)=>if i=k then some none else if i<k then(xs[k - 1 - i]?).map some else none
  |_=>none
noncomputable def bV(s:Src)(st:a9):Nat:=match s with
 | .its xs=>xs.length
 | .at n=>match st[n]? with
  |some (.lst xs)=>xs.length
  |_=>0
 | .zp x _=>match bq st x with
  |some xs=>xs.length
  |none=>0
 | .en n=>match st[n]? with
  |some (.lst xs)=>xs.length
  |_=>0
 | .rv _ k=>k
noncomputable def eQ(f:D->M (Option D))(s:Src):Nat->Nat->List D->M (List D)
 |0,_,_=>stuck
 |k+1,i,acc=>λst=>match eK s i st with
  |some (some x)=>a_ (f x) (λo=>match o with
   |some y=>eQ f s k (i+1) (acc++[y])
   |none=>eQ f s k (i+1) acc) st
  |some none=>.ok acc st
  |none=>.bad
noncomputable def cA(f:D->M (Option D))(s:Src):M D:=λst=>if bV s st<=1000000 then a_ (eQ f s (bV s st+1) 0 []) alloc st else .bad
noncomputable def eS:D->Option Bool
 | .bl b=>some b
 |_=>none
noncomputable def lu:D->Option Int
 | .int i=>some i
 |_=>none
noncomputable def cutD(xs:List D)(lo hi:Option Int):List D:=(xs.drop (HT.cG xs.length 0 lo)).take (HT.cG xs.length xs.length hi - HT.cG xs.length 0 lo)
def slice(x:D)(lo hi:Option Int):M D:=λst=>match x with
 | .tup xs=>if HT.cG xs.length 0 lo=0/\HT.cG xs.length xs.length hi=xs.length then .bad else .ok (.tup (cutD xs lo hi)) st
 |x=>match bq st x with
  |some xs=>alloc (cutD xs lo hi) st
  |none=>.bad
noncomputable def allocK(ks:List Key)(ds:List D):M D:=λst=>if ks.length=ds.length/\ks.Nodup then .ok (.ref st.length) (st++[.dct (ks.zip ds)]) else .bad
noncomputable def Bn(f:Str)(cs ics:List Str)(x:D):M D:=λst=>match x with
 | .ref n=>match st[n]? with
  |some (.ins c fs)=>match fs.lookup f with
   |some d=>if c∈ics then .ok d st else .bad
   |none=>.bad
  |_=>.bad
 |_=>.bad
noncomputable def rQ(m:Str)(ms:List (Str×Nat))(x:D):M Nat:=λst=>match x with
 | .ref n=>match st[n]? with
  |some (.ins c fs)=>match fs.lookup m,ms.lookup c with
   |none,some j=>.ok j st
   |_,_=>.bad
  |_=>.bad
 |_=>.bad
inductive Rs where
 |v (d:D)|x (n:Nat)
noncomputable def Rs.val?:Rs->Option D
 | .v d=>some d
 | .x _=>none
abbrev fR:=Nat->List D->M Rs
noncomputable def v4(g:fR)(x:Str)(f:Nat)(ds:List D):M D:=λst=>a_ (g f (.ref st.length::ds)) (λr=>match r with
 | .v .non=>ret (.ref st.length)
 |_=>stuck) (st++[.ins x []])
noncomputable def Bh(tp:Bool)(x:D):M D:=λst=>match x with
 | .tup _=>if tp then .ok (.bl true) st else .bad
 | .ref n=>match st[n]? with
  |some (.lst _)=>if tp then .bad else .ok (.bl true) st
  |_=>.bad
 |_=>.bad
noncomputable def l0:List (Key×D)->Option (List Int)
 |[]=>some []
 |(.inl n,_)::r=>(l0 r).map λns=>n::ns
 |_=>none
noncomputable def z_(x:D):M D:=λst=>match dX st x with
 |some kvs=>match l0 kvs with
  |some ns=>if ns.Pairwise (· < ·)/\kvs.length<64 then alloc ((ns.zip kvs).map λp=>.tup [.int p.1,p.2.2]) st else .bad
  |none=>.bad
 |none=>.bad
noncomputable def iF(o:D):M Unit:=λst=>match dX st o with
 |some _=>.ok () st
 |none=>.bad
noncomputable def wM(x k z:D):M D:=λst=>match dX st x with
 |some kvs=>match i8 k with
  |some k=>.ok ((bH kvs k).getD z) st
  |none=>.bad
 |none=>.bad
noncomputable def qA(x k:D):M D:=λst=>match dX st x with
 |some kvs=>match i8 k with
  |some k=>.ok ((bH kvs k).getD .non) st
  |none=>.bad
 |none=>.bad
noncomputable def pairF(f:D->D->M D):D->M (Option D):=λx=>match x with
 | .tup [a,b]=>a_ (f a b) λy=>ret (some y)
 |_=>stuck
mutual
noncomputable def run(g:fR):Ex->Loc->M D
 | .c d,_=>ret d
 | .v i,loc=>dI (loc[i]?.join)
 | .tup es,loc=>a_ (runs g es loc) λds=>ret (.tup ds)
 | .lst es,loc=>a_ (runs g es loc) alloc
 | .emp,_=>allocD
 | .bin op a b,loc=>a_ (run g a loc) λx=>a_ (run g b loc) λy=>cB op x y
 | .not a,loc=>a_ (run g a loc) λx=>a_ (dI (eS x)) λb=>ret (.bl (!b))
 | .and a b,loc=>a_ (run g a loc) λx=>a_ (dI (eS x)) λk=>if k then run g b loc else ret (.bl false)
 | .or a b,loc=>a_ (run g a loc) λx=>a_ (dI (eS x)) λk=>if k then ret (.bl true) else run g b loc
 | .cmp op a b,loc=>a_ (run g a loc) λx=>a_ (run g b loc) λy=>cX op x y
 | .ite c a b,loc=>a_ (run g c loc) λx=>a_ (dI (eS x)) λk=>if k then run g a loc else run g b loc
 | .ix a b,loc=>a_ (run g a loc) λx=>a_ (run g b loc) λy=>index x y
 | .sl a lo hi hl hh,loc=>a_ (run g a loc) λx=>a_ (if hl then a_ (run g lo loc) λz=>a_ (dI (lu z)) λi=>ret (some i) else ret none) λl=>
   a_ (if hh then a_ (run g hi loc) λz=>a_ (dI (lu z)) λi=>ret (some i) else ret none) λh=>slice x l h
 | .fn f args,loc=>a_ (runs g args loc) λds=>a_ (g f ds) λr=>dI r.val?
 | .bt f args,loc=>a_ (runs g args loc) λds=>eL f ds
 | .comp rng src elt,loc=>a_ (run g src loc) λd=>a_ (dI (da rng d)) λs=>cA (λx=>a_ (run g elt (some x::loc)) λy=>ret (some y)) s
 | .dict ks es,loc=>a_ (runs g es loc) λds=>allocK ks ds
 | .fld a f cs ics,loc=>a_ (run g a loc) λx=>Bn f cs ics x
 | .new x f args,loc=>a_ (runs g args loc) λds=>v4 g x f ds
 | .meth o m ms args,loc=>a_ (run g o loc) λx=>a_ (rQ m ms x) λj=>a_ (runs g args loc) λds=>a_ (g j (x::ds)) λr=>dI r.val?
 | .compU src elt,loc=>a_ (run g src loc) λd=>a_ (dI (da false d)) λs=>cA (pairF λa b=>run g elt (some a::some b::loc)) s
 | .compE src elt,loc=>a_ (run g src loc) λd=>a_ (dI (ph d)) λs=>cA (pairF λa b=>run g elt (some a::some b::loc)) s
 | .pop o fr,loc=>a_ (run g o loc) λx=>vF fr x
 | .compIf src test elt,loc=>a_ (run g src loc) λd=>a_ (dI (da false d)) λs=>cA (λx=>a_ (run g test (some x::loc)) λz=>a_ (dI (eS z)) λk=>if k then a_ (run g elt (some x::loc)) λy=>ret (some y) else ret none) s
 | .isi a tp,loc=>a_ (run g a loc) λx=>Bh tp x
 | .sit a,loc=>a_ (run g a loc) λx=>z_ x
 | .dget a b c,loc=>a_ (run g a loc) λx=>a_ (iF x) λ_=>a_ (run g b loc) λk=>a_ (run g c loc) λz=>wM x k z
 | .dget1 a b,loc=>a_ (run g a loc) λx=>a_ (iF x) λ_=>a_ (run g b loc) λk=>qA x k
 | .sset a,loc=>a_ (run g a loc) λx=>uN x
noncomputable def runs(g:fR):List Ex->Loc->M (List D)
 |[],_=>ret []
 |e::es,loc=>a_ (run g e loc) λd=>a_ (runs g es loc) λds=>ret (d::ds)
end
inductive S where
 |set (i:Nat)(e:Ex)|setix (o i e:Ex)|ret (e:Ex)|app (o e:Ex)
 |ite (c:Ex)(a b:List S)|for_ (i:Nat)(rng:Bool)(src:Ex)(body:List S)|forD (i:Nat)(a:Ex)(body:List S)
 |whil (c:Ex)(body:List S)
 |setf (o:Ex)(f:Str)(e:Ex)(cs ics:List Str)
 |forZ (is:List Nat)(a b:Ex)(body:List S)|forE (is:List Nat)(src:Ex)(body:List S)|forV (i:Nat)(src:Ex)(body:List S)
 |ext (o e:Ex)|clr (o:Ex)|sdf (o k e:Ex)|cont
 |stop
inductive Fl where
 |nx (loc:Loc)|rt (d:D)|ex (n:Nat)(loc:Loc)|ct (loc:Loc)
def fj(o i v:D):M Unit:=λst=>match o with
 | .ref n=>match st[n]? with
  |some (.lst xs)=>match i with
   | .int k=>match xg xs.length k with
    |some j=>.ok () (st.set n (.lst (xs.set j v)))
    |none=>.bad
   |_=>.bad
  |some (.dct kvs)=>match i8 i with
   |some k=>if kvs.length<1000000 then .ok () (st.set n (.dct (bP kvs k v))) else .bad
   |none=>.bad
  |_=>.bad
 |_=>.bad
noncomputable def append(o v:D):M Unit:=λst=>match o with
 | .ref n=>match st[n]? with
  |some (.lst xs)=>if xs.length<1000000 then .ok () (st.set n (.lst (xs++[v]))) else .bad
  |_=>.bad
 |_=>.bad
noncomputable def iC(f:D->Loc->M Fl)(s:Src):Nat->Nat->Loc->M Fl
 |0,_,_=>stuck
 |k+1,i,loc=>λst=>match eK s i st with
  |some (some x)=>a_ (f x loc) (λr=>match r with
   | .nx loc'=>iC f s k (i+1) loc'
   | .ct loc'=>iC f s k (i+1) loc'
   | .rt d=>ret (.rt d)
   | .ex n l=>ret (.ex n l)) st
  |some none=>.ok (.nx loc) st
  |none=>.bad
noncomputable def fg(f:D->Loc->M Fl)(s:Src)(loc:Loc):M Fl:=λst=>iC f s (bV s st+1) 0 loc st
def fS(c:Loc->M D)(f:Loc->M Fl):Nat->Loc->M Fl
 |0,_=>stuck
 |k+1,loc=>a_ (c loc) λx=>a_ (dI (eS x)) λb=>if b then a_ (f loc) (λr=>match r with
   | .nx loc'=>fS c f k loc'
   | .ct loc'=>fS c f k loc'
   | .rt d=>ret (.rt d)
   | .ex n l=>ret (.ex n l)) else ret (.nx loc)
noncomputable def Bm:Nat:=1000000000
noncomputable def kb:List Nat->List D->Loc->Loc
 |i::is,d::ds,loc=>kb is ds (loc.set i (some d))
 |_,_,loc=>loc
noncomputable def items?(n:Nat)(d:D):M (List D):=λst=>match d with
 | .tup xs=>if xs.length=n then .ok xs st else .bad
 |_=>.bad
noncomputable def extend(o v:D):M Unit:=λst=>match o,v with
 | .ref n,.ref m=>match st[n]?,st[m]? with
  |some (.lst xs),some (.lst ys)=>if xs.length+ys.length<=10000000 then .ok () (st.set n (.lst (xs++ys))) else .bad
  |_,_=>.bad
 |_,_=>.bad
noncomputable def qC(o:D):M Unit:=λst=>match o with
 | .ref n=>match st[n]? with
  |some (.lst _)=>.ok () (st.set n (.lst []))
  |_=>.bad
 |_=>.bad
noncomputable def Ab(o i v:D):M Unit:=λst=>match o with
 | .ref n=>match st[n]? with
  |some (.dct kvs)=>match i8 i with
   |some k=>if kvs.length<1000000 then(match bH kvs k with
    |some _=>.ok () st
    |none=>.ok () (st.set n (.dct (bP kvs k v)))) else .bad
   |none=>.bad
  |_=>.bad
 |_=>.bad
def nV(cs ics:List Str)(o:D)(f:Str)(v:D):M Unit:=λst=>match o with
 | .ref n=>match st[n]? with
  |some (.ins c fs)=>if fs.length<900/\c∈ics then .ok () (st.set n (.ins c (putD f v fs))) else .bad
  |_=>.bad
 |_=>.bad
mutual
noncomputable def exec(g:fR):S->Loc->M Fl
 | .set i e,loc=>a_ (run g e loc) λd=>ret (.nx (loc.set i (some d)))
 | .setix o i e,loc=>a_ (run g e loc) λd=>a_ (run g o loc) λx=>a_ (run g i loc) λk=>a_ (fj x k d) λ_=>ret (.nx loc)
 | .ret e,loc=>a_ (run g e loc) λd=>ret (.rt d)
 | .app o e,loc=>a_ (run g o loc) λx=>a_ (jn x) λ_=>a_ (run g e loc) λd=>a_ (append x d) λ_=>ret (.nx loc)
 | .ite c a b,loc=>a_ (run g c loc) λx=>a_ (dI (eS x)) λk=>if k then execs g a loc else execs g b loc
 | .for_ i rng src body,loc=>a_ (run g src loc) λd=>a_ (dI (da rng d)) λs=>fg (λx loc'=>execs g body (loc'.set i (some x))) s loc
 | .forD i a body,loc=>a_ (run g a loc) λx=>a_ (dI (mQ x)) λs=>fg (λx loc'=>execs g body (loc'.set i (some x))) s loc
 | .whil c body,loc=>fS (run g c) (execs g body) Bm loc
 | .setf o f e cs ics,loc=>a_ (run g e loc) λd=>a_ (run g o loc) λx=>a_ (nV cs ics x f d) λ_=>ret (.nx loc)
 | .forE is src body,loc=>a_ (run g src loc) λd=>a_ (dI (ph d)) λs=>fg (λx loc'=>a_ (items? is.length x) λds=>execs g body (kb is ds loc')) s loc
 | .forV i src body,loc=>a_ (run g src loc) λd=>a_ (λst=>dI (Ar st d) st) λs=>fg (λx loc'=>execs g body (loc'.set i (some x))) s loc
 | .ext o e,loc=>a_ (run g o loc) λx=>a_ (jn x) λ_=>a_ (run g e loc) λd=>a_ (extend x d) λ_=>ret (.nx loc)
 | .clr o,loc=>a_ (run g o loc) λx=>a_ (qC x) λ_=>ret (.nx loc)
 | .sdf o k e,loc=>a_ (run g o loc) λx=>a_ (iF x) λ_=>a_ (run g k loc) λi=>a_ (run g e loc) λd=>a_ (Ab x i d) λ_=>ret (.nx loc)
 | .cont,loc=>ret (.ct loc)
 | .forZ is a b body,loc=>a_ (run g a loc) λx=>a_ (run g b loc) λy=>a_ (dI (B3 x y)) λs=>fg (λx loc'=>a_ (items? is.length x) λds=>execs g body (kb is ds loc')) s loc
 | .stop,_=>stuck
noncomputable def execs(g:fR):List S->Loc->M Fl
 |[],loc=>ret (.nx loc)
 |s::ss,loc=>a_ (exec g s loc) λr=>match r with
  | .nx loc'=>execs g ss loc'
  | .ct l=>ret (.ct l)
  | .rt d=>ret (.rt d)
  | .ex n l=>ret (.ex n l)
end
structure Fn where
 ar:Nat
 nl:Nat
 body:List S
noncomputable def sw(g:fR)(f:Fn)(ds:List D):M Rs:=if ds.length=f.ar then a_ (execs g f.body (ds.map some++List.replicate (f.nl - ds.length) none)) λr=>match r with
  | .nx _=>ret (.v .non)
  | .rt d=>ret (.v d)
  | .ex n _=>ret (.x n)
  | .ct _=>stuck
 else stuck
noncomputable def calls(tab:List Fn):Nat->fR
 |0,_,_=>stuck
 |k+1,f,ds=>match tab[f]? with
  |some fn=>sw (calls tab k) fn ds
  |none=>stuck
end Ev
namespace PySem
open Sem (wp)
section
variable{prog:Program}{w:World}{A:Around}{E:Value->Shared->Prop}{s:Shared}
noncomputable def zi:Int:=0xFCA86420
theorem tF{Q:Int->Shared->Prop}(h:Q zi {s with toks:=s.toks+1}):wpAny (model prog w) A (pyHash .none) Q E s:=by
 have c:s.TypeIs .none "NoneType":=rfl;unfold pyHash;refine aa ?_;rw[cRoomFor,if_neg (by simp[Value.onHeap])]
 refine ah (aa (wpAny_specialOf c F.slot_NoneType_hash.lookup ?_));show wpAny _ _ (if(some (Value.builtin "NoneType.__hash__")==some Value.none)=true then _ else _) Q E s
 rw[if_neg (by rw[beq_builtin_none];decide)]
 refine aa (wpAny_specialOf c F.slot_NoneType_hash.lookup ?_);show wpAny _ _ (callSpecialIfBoundUnlessNone? .none "__hash__" _>>=_) Q E s;refine aa (wpAny_callSpecialIfBoundUnlessNone?_slot c F.slot_NoneType_hash (wpAny_call_entry F.slot_NoneType_hash c F.entry_NoneType_hash ?_ (F.args_NoneType_hash_1 _)));show wpAny _ _ (do ret (<-mkInt 0xFCA86420)) _ _ s
 refine wpAny_ret_mkInt ?_;exact ah h
end
end PySem
namespace L2
open PySem PySem.Spec PyProof.Rows
noncomputable def zk:Option Key->Value->Bool
 |none,v=>match v with
  | .none=>true
  |_=>false
 |some k,v=>ga k v
theorem bX{k:Option Key}{v:Value}(h:zk k v=true):(k=none/\v=.none)∨∃j,k=some j/\ga j v=true:=by
 cases k with
 |none=>
  left;cases v<;>first|exact⟨rfl,rfl⟩|cases h
 |some j=>exact .inr ⟨j,rfl,h⟩
theorem iz{j:Key}(h:ga j .none=true):False:=by rcases bE h with⟨i,t,_,e⟩|⟨x,t,_,e⟩<;>cases e
def jR(prog:Program)(w:World):PySem.KeyKind prog w (Option Key) where
 is:=zk
 hash:=λk=>match k with
  |none=>zi
  |some j=>C9 w j
 inj:=λv a b ha hb=>by
  rcases bX ha with⟨rfl,rfl⟩|⟨i,rfl,hi⟩
  ·rcases bX hb with⟨rfl,_⟩|⟨j,rfl,hj⟩
   ·rfl
   ·exact(iz hj).elim
  ·rcases bX hb with⟨rfl,rfl⟩|⟨j,rfl,hj⟩
   ·exact(iz hi).elim
   ·rw[(bg prog w).inj v i j hi hj]
 byValue:=λk v h=>by
  rcases bX h with⟨rfl,rfl⟩|⟨j,rfl,hj⟩
  ·rfl
  ·exact(bg prog w).byValue j v hj
 pyHash:=λhv h=>by
  rcases bX hv with⟨rfl,rfl⟩|⟨j,rfl,hj⟩
  ·exact tF h
  ·exact(bg prog w).pyHash hj h
 eqBool:=λhu hv h=>by
  rcases bX hu with⟨rfl,rfl⟩|⟨i,rfl,hi⟩
  ·rcases bX hv with⟨rfl,rfl⟩|⟨j,rfl,hj⟩
   ·exact SeqAt.EqAt.same _ _ _ _ _ h
   ·rcases bE hj with⟨n,u,rfl,rfl⟩|⟨y,u,rfl,rfl⟩
    ·exact SeqAt.EqAt.none_int n u _ _ _ _ h
    ·exact SeqAt.EqAt.none_str y u _ _ _ _ h
  ·rcases bX hv with⟨rfl,rfl⟩|⟨j,rfl,hj⟩
   ·rcases bE hi with⟨n,u,rfl,rfl⟩|⟨y,u,rfl,rfl⟩
    ·exact SeqAt.EqAt.int_none n u _ _ _ _ h
    ·exact SeqAt.EqAt.str_none y u _ _ _ _ h
   ·refine(bg prog w).eqBool hi hj ?_;have e:decide (some i=some j)=decide (i=j):=by simp
    rw[<-e];exact h
 «strs»:=λk x t v h=>by
  rcases bX h with⟨rfl,e⟩|⟨j,rfl,hj⟩
  ·cases e
  ·exact(bg prog w).strs j x t v hj
theorem sV{P:Program}{w:World}{es:List DictEntry}{vs:List (Key×Value)}(h:Pairs (bg P w) es vs):Pairs (jR P w) es (vs.map λp=>(some p.1,p.2)):=by
 induction h with
 |nil=>exact .nil
 |cons h1 h2 _ ih=>exact .cons h1 h2 ih
theorem oy{P:Program}{w:World}{h:Heap}{a:Addr}{vs:List (Key×Value)}(dd:h.DictOf (bg P w) a vs):h.DictOf (jR P w) a (vs.map λp=>(some p.1,p.2)):=by
 obtain⟨o,es,ep,h1,Y,U,J,I,F⟩:=dd;refine⟨o,es,ep,h1,Y,U,λe B=>?_,sV I,?_⟩
 ·obtain⟨k,g1,Z⟩:=J e B;exact⟨some k,g1,Z⟩
 ·rw[List.map_map];have e:((λp:Option Key×Value=>p.1) ∘ λp:Key×Value=>(some p.1,p.2))=some ∘ Prod.fst:=rfl;rw[e,<-List.map_map];exact List.Pairwise.map _ (λa b c z=>c (ai z)) F
theorem ou(vs:List (Key×Value)):valueAt (vs.map λp=>(some p.1,p.2)) (none:Option Key)=none:=by
 unfold valueAt;rw[List.find?_eq_none.mpr]
 ·rfl
 ·intro x c;obtain⟨p,_,rfl⟩:=List.mem_map.mp c;simp
section
variable{X:Cx}{pins:List (Addr×Obj)}{σ:St}{H:Hp}{s:Shared}{a:Addr}{kvs:List (Key×V)}{A:Around}{E:Value->Shared->Prop}
theorem DC{Q:Value->Shared->Prop}(I:Inv X pins σ H s)(e:Rd H a (.dK kvs))(h:∀s',Inv X pins σ H s'->Q (.bool false) s'):wpAny (model X.prog X.w) A (compareOp .In .none (.ref a)) Q E s:=by
 obtain⟨z,hd,vs,rel,c⟩:=fM I.hok e;refine wpAny_in_of (knd:=jR X.prog X.w) (k:=none) (by rfl) hd (oy c).mapOf ?_
 rw[ou];exact h _ (I.tok _)
theorem wQ{Q:Value->Shared->Prop}(I:Inv X pins σ H s)(e:Rd H a (.dK kvs))(h:∀s',Inv X pins σ H s'->Q (.bool true) s'):wpAny (model X.prog X.w) A (compareOp .NotIn .none (.ref a)) Q E s:=by
 obtain⟨z,hd,vs,rel,c⟩:=fM I.hok e;refine wpAny_notIn_of (knd:=jR X.prog X.w) (k:=none) (by rfl) hd (oy c).mapOf ?_
 rw[ou];exact h _ (I.tok _)
end
end L2
namespace Ev
open PySem PySem.Spec PyProof.Rows L2
variable{v vx vy:V}{vs:List V}{X:Cx}{x y:D}{st:a9}{ι:Nat->Addr}{H:Hp}{m:Nat}{ux uy:Value}
def cu(K:aA)(H:Hp)(ι:Nat->Addr)(st:a9)(r:R D)(Q:VK):Prop:=match r with
 | .ok d st'=>∀H' ι' v,Ext H H' ι ι' st.length st'.length->Sim K H' ι' st'->VRel K H' ι' st'.length d v->Q v H'
 | .bad=>False
section
variable{K:aA}{H:Hp}{ι:Nat->Addr}{st:a9}{Q:VK}
theorem cu.same{d:D}(S:Sim K H ι st)(P:cu K H ι st (.ok d st) Q)(r:VRel K H ι st.length d v):Q v H:=P H ι v (Ext.refl _ _ _) S r
theorem cu.mono{H1:Hp}{ι1:Nat->Addr}{st1:a9}{r:R D}(P:cu K H ι st r Q)(E:Ext H H1 ι ι1 st.length st1.length):cu K H1 ι1 st1 r Q:=by
 cases r with
 |ok d st'=>exact λH' ι' v F B c=>P H' ι' v (E.trans F) B c
 |bad=>exact P
theorem cu.alloc{xs:List D}(S:Sim K H ι st)(P:cu K H ι st (alloc xs st) Q)(r:VRels K H ι st.length xs vs):∀p,H p=none->Q (.ref p) (upd H p (.lst vs)):=λp c=>by
 obtain⟨ι',E,e,B⟩:=S.laid (o:= .lst xs) (ho:= .lst vs) c (λι' h1 I=>⟨vs,bF,VRels.ext0 ⟨Nat.le_succ _,h1,λb xs e=>by rw[aL (aJ e c)];exact e,λb F u e=>by rw[aL (aJ e c)];exact e⟩ r⟩)
 have l:(st++[O.lst xs]).length=st.length+1:=by simp
 refine P _ ι' _ (by rw[l];exact E) B ?_
 rw[<-e,l];exact .ref (aI _)
theorem cu.allocD(S:Sim K H ι st)(P:cu K H ι st (allocD st) Q):∀p,H p=none->Q (.ref p) (upd H p (.dK [])):=λp c=>by
 obtain⟨ι',E,e,B⟩:=S.laid (o:= .dct []) (ho:= .dK []) c (λι' h1 F=>⟨[],bF,.nil⟩);have l:(st++[O.dct []]).length=st.length+1:=by simp
 refine P _ ι' _ (by rw[l];exact E) B ?_
 rw[<-e,l];exact .ref (aI _)
theorem cu.tup{xs:List D}(S:Sim K H ι st)(P:cu K H ι st (.ok (.tup xs) st) Q)(r:VRels K H ι st.length xs vs):∀p,H p=none->Q (.ref p) (upd H p (.tup vs)):=λp c=>by
 have I:∀n,n<st.length->ι n≠p:=λn B=>by obtain⟨_,h,_⟩:=S.obj B;exact aJ h c
 have E:Ext H (upd H p (.tup vs)) ι ι st.length st.length:=⟨⟨ac _,λ_ _=>rfl,λb xs e=>by rw[aL (aJ e c)];exact e,λb F u e=>by rw[aL (aJ e c)];exact e⟩,λb F e k=>⟨by rw[aL (aJ e c)];exact e,k⟩⟩
 refine P _ ι _ E ⟨S.inj,λn o e=>?_⟩ (.tup (fP.of bF) (r.ext E));have B:n<st.length:=(aw e).1;have old:=S.ob n o e;exact old.move E.toExt0 (aL (I n B))
theorem VRel.seq{d:D}{xs:List D}(S:Sim K H ι st)(r:VRel K H ι st.length d v)(e:bq st d=some xs):∃a vs,v=.ref a/\(dD K H a vs∨fP K H a vs)/\VRels K H ι st.length xs vs:=by
 cases r with
 |non=>cases e
 |bl b=>cases e
 |int i=>cases e
 |str x=>cases e
 |tup h r=>cases e;exact⟨_,_,rfl,.inr h,r⟩
 |fl h r=>cases e;exact⟨_,_,rfl,.inl h.sql,r⟩
 | @ref n hn=>
  simp only[bq] at e;cases q:st[n]? with
  |none=>rw[q] at e;cases e
  |some o=>
   rw[q] at e;cases o with
   |lst zs=>cases e;obtain⟨vs,h1,c⟩:=S.ob n _ q;exact⟨_,vs,rfl,.inl (dD.of h1),c⟩
   |_=>cases e
theorem VRels.inv1{d:D}(r:VRels K H ι st.length [d] vs):∃v,vs=[v]/\VRel K H ι st.length d v:=by
 cases r with
 |cons h t=>cases t;exact⟨_,rfl,h⟩
end
def rD(K:aA)(op:D->D->M D):R2:=λvx vy H Q=>∃ι st dx dy,Sim K H ι st/\VRel K H ι st.length dx vx/\VRel K H ι st.length dy vy/\cu K H ι st (op dx dy st) Q
noncomputable def Bo.op:Bo->Operator
 | .add=> .Add
 | .sub=> .Sub
 | .mul=> .Mult
 | .fdiv=> .FloorDiv
 | .mod=> .Mod
 | .pow=> .Pow
theorem vR:nJ X (binaryOp .FloorDiv) (rI (λ_ j=>j≠0/\j.natAbs<2^200) λi j=>.int (i.fdiv j)):=DT λi j _ _ _ _ _ c q=>floordiv_int c.1 q (.inl (PyProof.noPylong_of_log2 (by
 have h0:j.natAbs≠0:=by have:=c.1;omega
 have:j.natAbs.log2<200:=(Nat.log2_lt h0).mpr c.2;omega)))
theorem wT{prog:Program}{w:World}{A:Around}{E:Value->Shared->Prop}{s:Shared}{t b:Addr}{ws:List Value}{Q:Value->Shared->Prop}(Y:IsTup s.heap t ([]:List Value).toArray)(Z:IsTup s.heap b ws.toArray)(h:Q (.ref b) s):wpAny (model prog w) A (binaryOp .Add (.ref t) (.ref b)) Q E s:=by
 obtain⟨⟨cls,dd,data,sl⟩,ho,J,n,hd⟩:=id Y;obtain⟨⟨cls2,dd2,data2,sl2⟩,c,I,U,B⟩:=id Z;simp only at J hd I B;subst J hd I B
 exact concat_meets ⟨_,ho,rfl⟩ ⟨_,c,rfl⟩ noFill_tuple_add seq_tuple_add PySem.F.slot_tuple_add PySem.F.entry_tuple_add (PySem.F.args_tuple_add_2 _ _)
   (tuple_addW0 t b _ ws.toArray n U dd dd2 sl sl2 (by simp)) ⟨ho,c,h⟩
theorem x_:nJ X (binaryOp .Mult) (rI (λi j=>BS i j∨(i.natAbs<2^1000/\j.natAbs<2^1000)) λi j=>.int (i*j)):=DT λ_ _ _ _ _ _ _ c q=>mul_int q (by
 rcases c with c|c
 ·exact c.ok
 ·exact .of_bits (aR (PyProof.Rows.intBits_le c.1) (by decide)) (aR (PyProof.Rows.intBits_le c.2) (by decide)))
theorem AZ(op:Bo):nJ X (binaryOp op.op) (rD X.K (cB op)):=by
 intro pins s σ H vx vy ux uy Q I B c h;obtain⟨ι,st,dx,U,S,J,F,P⟩:=h;have sz:sizeLine=16777216:=sizeLine_eq;cases op with
 |add=>cases dx with
  |int i=>cases U with
   |int j=>cases J;cases F;exact A2 pins s σ H _ _ _ _ Q I B c ⟨_,_,rfl,rfl,cu.same S P (.int _)⟩
   |_=>exact False.elim P
  |tup as=>cases U with
   |tup bs=>
    cases J with
    |tup ha ra=>
     cases F with
     |tup hb rb=>
      cases as with
      |nil=>cases ra;cases B;cases c;obtain⟨its,Z,p1,_⟩:=I.tuple ha;obtain⟨its2,r2,p2,_⟩:=I.tuple hb;cases Z;exact wT p1 p2 ⟨.ref _,H,I,rfl,cu.same S P (.tup hb rb)⟩
      |cons a as=>
       simp only[cB,addD] at P;split at P
       ·rename_i hl;have l1:=ra.length;have l2:=rb.length;refine ye pins s σ H _ _ _ _ Q I B c ⟨_,_,_,_,rfl,rfl,ha,hb,?_,by omega,λe=>?_,λe=>P.tup S (ra.append rb)⟩
        ·intro z;rw[z] at l1;simp at l1
        ·subst e;cases rb;rw[List.append_nil] at P;exact P.same S (.tup ha ra)
       ·exact False.elim P
   |_=>exact False.elim P
  |ref m=>cases U with
   |ref n=>
    simp only[cB,addD] at P;split at P
    ·rename_i as bs e1 e2;split at P
     ·rename_i hl;cases J with
      |ref h1=>
       cases F with
       |ref h2=>
        obtain⟨v1,g1,Z⟩:=S.ob _ _ e1;obtain⟨v2,g2,r2⟩:=S.ob _ _ e2;have l1:=Z.length;have l2:=r2.length;exact AY pins s σ H _ _ _ _ Q I B c ⟨_,_,_,_,rfl,rfl,g1,g2,by omega,P.alloc S (Z.append r2)⟩
     ·exact False.elim P
    ·exact False.elim P
   |_=>exact False.elim P
  |_=>exact False.elim P
 |sub=>cases dx with
  |int i=>cases U with
   |int j=>cases J;cases F;exact AV pins s σ H _ _ _ _ Q I B c ⟨_,_,rfl,rfl,cu.same S P (.int _)⟩
   |_=>exact False.elim P
  |_=>exact False.elim P
 |mul=>cases dx with
  |int i=>cases U with
   |int j=>
    simp only[cB,A7] at P;split at P
    ·rename_i Y;cases J;cases F;exact x_ pins s σ H _ _ _ _ Q I B c ⟨_,_,rfl,rfl,Y,P.same S (.int _)⟩
    ·exact False.elim P
   |_=>exact False.elim P
  |_=>exact False.elim P
 |fdiv=>cases dx with
  |int i=>cases U with
   |int j=>
    simp only[cB,ii] at P;split at P
    ·rename_i Y;cases J;cases F;exact vR pins s σ H _ _ _ _ Q I B c ⟨_,_,rfl,rfl,Y,P.same S (.int _)⟩
    ·exact False.elim P
   |_=>exact False.elim P
  |_=>exact False.elim P
 |mod=>cases dx with
  |int i=>cases U with
   |int j=>
    simp only[cB,ii] at P;split at P
    ·rename_i Y;cases J;cases F;exact yc pins s σ H _ _ _ _ Q I B c ⟨_,_,rfl,rfl,Y,P.same S (.int _)⟩
    ·exact False.elim P
   |_=>exact False.elim P
  |_=>exact False.elim P
 |pow=>cases dx with
  |int i=>cases U with
   |int j=>
    simp only[cB,ii] at P;split at P
    ·rename_i Y;cases J;cases F;exact AW pins s σ H _ _ _ _ Q I B c ⟨_,_,rfl,rfl,⟨Y.1,by omega,by omega⟩,P.same S (.int _)⟩
    ·exact False.elim P
   |_=>exact False.elim P
  |_=>exact False.elim P
open Classical in
noncomputable def tL(K:aA)(H:Hp)(ι:Nat->Addr)(st:a9)(x:D)(z:Value):Bool:=if h:∃d,At K H ι st.length d z then(dF 60 st h.choose x).getD false else false
theorem BF{pins:List (Addr×Obj)}{σ:L2.St}{s:Shared}(I:Inv X pins σ H s)(S:Sim X.K H ι st){u:Value}(h:At X.K H ι st.length y u):tL X.K H ι st x u=(dF 60 st y x).getD false:=by unfold tL;have h':∃d,At X.K H ι st.length d u:=⟨y,h⟩;rw[dif_pos h',h'.choose_spec.uniq I S h]
theorem k8{X:Cx}{pins:List (Addr×Obj)}{σ:L2.St}{H:Hp}{s:Shared}{ι:Nat->Addr}{st:a9}(I:Inv X pins σ H s)(S:Sim X.K H ι st){x:D}{ux:Value}{A:Around}(F:At X.K H ι st.length x ux)(c:A.units+60<cLine):
  ∀{ys:List D}{us:List Value}{k:Bool},iK st x ys=some k->xk X.K H ι st.length ys us->(∀u∈us,SeqAt.EqAt A s u ux (tL X.K H ι st x u))/\us.any (tL X.K H ι st x)=k
 |[],us,k,h,r=>by
  have l:=r.length;cases us with
  |cons _ _=>simp at l
  |nil=>exact⟨λu c=>(by cases c),ai h⟩
 |y::ys,us,k,h,r=>by
  have l:=r.length;cases us with
  |nil=>simp at l
  |cons u us=>
   obtain⟨_,U,q1⟩:=r;cases q1 with
   |cons w1 w2=>
    cases U with
    |cons m1 m2=>
     unfold iK at h;cases e1:dF 60 st y x with
     |none=>rw[e1] at h;simp at h
     |some a=>
      cases e2:iK st x ys with
      |none=>rw[e1,e2] at h;simp at h
      |some b=>
       rw[e1,e2] at h;obtain⟨Y,hk⟩:=k8 I S F c e2 ⟨_,m2,w2⟩;obtain⟨_,_,Z⟩:=nv I S 60 (A:=A) e1 ⟨_,m1,w1⟩ F c;have J:tL X.K H ι st x u=a:=by rw[BF I S ⟨_,m1,w1⟩,e1];rfl
       refine⟨λz B=>?_,?_⟩
       ·rcases List.mem_cons.mp B with rfl|B
        ·rw[J];exact Z
        ·exact Y z B
       ·rw[List.any_cons,J,hk];exact ai h
theorem DRels.look{K:aA}{k:Key}{kvs:List (Key×D)}{vs:List (Key×V)}(h:DRels K H ι m kvs vs):
  (match bH kvs k with|some d=>∃v,d9 vs k=some v/\VRel K H ι m d v|none=>d9 vs k=none):=by
 induction h with
 |nil=>exact uu
 | @cons k' d v ds vs hv t ih=>
  unfold bH;by_cases e:k'=k
  ·rw[if_pos e];exact⟨v,fW e,hv⟩
  ·rw[if_neg e,d8 (p:=(k',v)) (r:=vs) e];exact ih
theorem gG{K:aA}{k:Key}(h:i8 x=some k)(r:VRel K H ι m x v):v=kV k:=by cases r<;>cases h<;>rfl
theorem hZ{K:aA}{k:Bool}(e:Da x y=some k)(I:VRel K H ι m x vx)(F:VRel K H ι m y vy)(c:RelV vx ux)(B:RelV vy uy):plainIs ux uy=true/\(ux==uy)=k:=by
 unfold Da at e;split at e
 ·cases F;cases B;have e:=ai e;subst e;cases I with
  |non=>cases c;exact⟨rfl,rfl⟩
  |bl b=>cases c;exact⟨rfl,rfl⟩
  |int i=>obtain⟨t,rfl⟩:=c;exact⟨rfl,rfl⟩
  |str i=>obtain⟨t,rfl⟩:=c;exact⟨rfl,rfl⟩
  |tup _ _=>cases c;exact⟨rfl,rfl⟩
  |fl _ _=>cases c;exact⟨rfl,rfl⟩
  |ref _=>cases c;exact⟨rfl,rfl⟩
 ·cases e
theorem wO{K:aA}{kvs:List (Key×D)}(S:Sim K H ι st)(e:dX st y=some kvs)(c:VRel K H ι st.length y vy):∃n a vs,y=.ref n/\st[n]? =some (.dct kvs)/\a=ι n/\vy=.ref a/\H a=some (.dK vs)/\DRels K H ι st.length kvs vs:=by
 cases y with
 |ref n=>
  simp only[dX] at e;cases q:st[n]? with
  |none=>rw[q] at e;cases e
  |some o=>
   rw[q] at e;cases o with
   |dct kvs'=>cases e;cases c;obtain⟨vs,h1,r⟩:=S.ob _ _ q;exact⟨n,_,vs,rfl,q,rfl,rfl,h1,r⟩
   |_=>cases e
 |_=>cases e
theorem md{K:aA}{k:Bool}(S:Sim K H ι st)(e:jf st x y=some k)(c:VRel K H ι st.length x vx)(B:VRel K H ι st.length y vy):∃a,vy=.ref a/\((∃o,gL H a vx o/\o.isSome=k)∨(vx=.non/\(∃kvs,H a=some (.dK kvs))/\k=false)):=by
 unfold jf at e;split at e
 ·split at e
  ·rename_i kvs q;cases B;obtain⟨vs,h1,r⟩:=S.ob _ _ q;refine⟨_,rfl,?_⟩;split at e
   ·rename_i s hk;have e:=ai e;subst e;have F:=gG hk c;subst F;refine .inl ⟨_,gL.k (k:=s) h1,?_⟩;have l:=r.look (k:=s);cases q2:bH kvs s with
    |none=>rw[q2] at l;rw[show d9 vs s=none from l];rfl
    |some d=>rw[q2] at l;obtain⟨v,l,_⟩:=l;rw[show d9 vs s=some v from l];rfl
   ·split at e
    ·cases e;cases c;exact .inr ⟨rfl,⟨vs,h1⟩,rfl⟩
    ·cases e
  ·cases e
 ·cases e
theorem vS(hu:X.A.units+100<cLine)(op:CmpOp):nJ X (compareOp op) (rD X.K (cX op)):=by
 intro pins s σ H vx vy ux uy Q I F B h;obtain⟨ι,st,dx,dy,S,Y,J,P⟩:=h;have ax:At X.K H ι st.length dx ux:=⟨_,Y,F⟩;have ay:At X.K H ι st.length dy uy:=⟨_,J,B⟩;unfold cX at P;split at P
 ·split at P
  ·rename_i k e;obtain⟨h1,_,_⟩:=nv I S 60 (A:=X.A) e ax ay (by omega)
   exact h1 _ _ _ _ ⟨.bl k,H,I,rfl,P.same S (.bl k)⟩
  ·exact False.elim P
 ·split at P
  ·rename_i k e;obtain⟨_,h1,_⟩:=nv I S 60 (A:=X.A) e ax ay (by omega)
   exact h1 _ _ _ _ ⟨.bl (!k),H,I,rfl,P.same S (.bl (!k))⟩
  ·exact False.elim P
 ·split at P
  ·cases Y;cases J;exact CW pins s σ H _ _ _ _ Q I F B ⟨_,_,rfl,rfl,P.same S (.bl _)⟩
  ·exact False.elim P
 ·split at P
  ·cases Y;cases J;exact CY pins s σ H _ _ _ _ Q I F B ⟨_,_,rfl,rfl,P.same S (.bl _)⟩
  ·exact False.elim P
 ·split at P
  ·cases Y;cases J;exact CZ pins s σ H _ _ _ _ Q I F B ⟨_,_,rfl,rfl,P.same S (.bl _)⟩
  ·exact False.elim P
 ·split at P
  ·rename_i ys es;split at P
   ·rename_i k U;obtain⟨a,vs,rfl,c,rv⟩:=J.seq S es;cases B;rcases c with c|c
    ·obtain⟨its,Z,pl,hz⟩:=I.list c;obtain⟨hE,hk⟩:=k8 I S (A:=X.A.in1) ax (by show X.A.units+1+60<cLine;omega) U ⟨_,rv,Z⟩
     refine SeqAt.in_listAt _ pl.isList (λw hw=>hE w (by simpa using hw)) ⟨.bl _,H,I,rfl,?_⟩
     rw[show its.toArray.any (tL X.K H ι st dx)=its.any (tL X.K H ι st dx) by simp,hk]
     exact P.same S (.bl k)
    ·obtain⟨its,Z,pl,hz⟩:=I.tuple c;obtain⟨hE,hk⟩:=k8 I S (A:=X.A.in1) ax (by show X.A.units+1+60<cLine;omega) U ⟨_,rv,Z⟩
     refine SeqAt.in_tupleAt _ pl (λw hw=>hE w (by simpa using hw)) ⟨.bl _,H,I,rfl,?_⟩
     rw[show its.toArray.any (tL X.K H ι st dx)=its.any (tL X.K H ι st dx) by simp,hk]
     exact P.same S (.bl k)
   ·exact False.elim P
  ·split at P
   ·rename_i k U;obtain⟨a,rfl,hg⟩:=md S U Y J;cases B;rcases hg with⟨o,g,ho⟩|⟨rfl,⟨kvs,g⟩,rfl⟩
    ·exact ET (by omega) I g F λs' I'=>⟨.bl k,H,I',by rw[ho];rfl,P.same S (.bl k)⟩
    ·cases F;exact DC I (.inl g) λs' I'=>⟨.bl false,H,I',rfl,P.same S (.bl false)⟩
   ·exact False.elim P
 ·split at P
  ·rename_i ys es;split at P
   ·rename_i k U;obtain⟨a,vs,rfl,c,rv⟩:=J.seq S es;cases B;rcases c with c|c
    ·obtain⟨its,Z,pl,hz⟩:=I.list c;obtain⟨hE,hk⟩:=k8 I S (A:=X.A.in1) ax (by show X.A.units+1+60<cLine;omega) U ⟨_,rv,Z⟩
     refine SeqAt.notIn_listAt _ pl.isList (λw hw=>hE w (by simpa using hw)) ⟨.bl _,H,I,rfl,?_⟩
     rw[show its.toArray.any (tL X.K H ι st dx)=its.any (tL X.K H ι st dx) by simp,hk]
     exact P.same S (.bl (!k))
    ·obtain⟨its,Z,pl,hz⟩:=I.tuple c;obtain⟨hE,hk⟩:=k8 I S (A:=X.A.in1) ax (by show X.A.units+1+60<cLine;omega) U ⟨_,rv,Z⟩
     refine SeqAt.notIn_tupleAt _ pl (λw hw=>hE w (by simpa using hw)) ⟨.bl _,H,I,rfl,?_⟩
     rw[show its.toArray.any (tL X.K H ι st dx)=its.any (tL X.K H ι st dx) by simp,hk]
     exact P.same S (.bl (!k))
   ·exact False.elim P
  ·split at P
   ·rename_i k U;obtain⟨a,rfl,hg⟩:=md S U Y J;cases B;rcases hg with⟨o,g,ho⟩|⟨rfl,⟨kvs,g⟩,rfl⟩
    ·exact yO (by omega) I g F λs' I'=>⟨.bl (!k),H,I',by rw[ho];rfl,P.same S (.bl (!k))⟩
    ·cases F;exact wQ I (.inl g) λs' I'=>⟨.bl true,H,I',rfl,P.same S (.bl (!false))⟩
   ·exact False.elim P
 ·split at P
  ·rename_i k e;obtain⟨h1,h2⟩:=hZ e Y J F B;exact wpAny_is_plain h1 ⟨.bl k,H,I,by rw[h2];rfl,P.same S (.bl k)⟩
  ·exact False.elim P
 ·split at P
  ·rename_i k e;obtain⟨h1,h2⟩:=hZ e Y J F B;exact wpAny_isNot_plain h1 ⟨.bl (!k),H,I,by rw[h2];rfl,P.same S (.bl (!k))⟩
  ·exact False.elim P
 ·exact False.elim P
theorem yS{K:aA}{ds:List D}{i:Int}{d:D}(r:VRels K H ι m ds vs)(e:qJ ds i=some d):∃v,qJ vs i=some v/\VRel K H ι m d v:=by
 unfold qJ at e ⊢;rw[<-r.length];cases q:xg ds.length i with
 |none=>rw[q] at e;cases e
 |some j=>rw[q] at e;exact r.get e
theorem wL(hu:X.A.units+100<cLine){value slice:Expr}{pins:List (Addr×Obj)}{s:Shared}{σ:L2.St}{Q:VK}{dx:D}{k:Key}(I:L2.Inv X pins σ H s)(S:Sim X.K H ι st)(U:VRel X.K H ι st.length dx vx)
  (J:RelV vx ux)(B:RelV (kV k) uy)(hs:subscripted slice false ux uy=operate [ux,uy] (getItem ux uy))(P:cu X.K H ι st (DD st dx k) Q):wpAny (model X.prog X.w) X.A (subscriptTail value slice ux uy) (EP X pins σ Q) X.xe s:=by
 unfold DD at P;split at P
 ·rename_i n;split at P
  ·rename_i kvs e1;split at P
   ·rename_i d Z;cases U;cases J;obtain⟨vs,h1,r⟩:=S.ob _ _ e1;have l:=r.look (k:=k);rw[Z] at l;obtain⟨w,Y,c⟩:=l;have g:gL H (ι n) (kV k) (some w):=by rw[<-Y];exact gL.k (k:=k) h1
    exact tail_any (pj I g) PySem.F.slot_dict_getitem.lookup (tP (by omega) I g B λw' s' I' rw2=>⟨w,H,I',rw2,P.same S c⟩) hs
   ·exact False.elim P
  ·exact False.elim P
 ·exact False.elim P
theorem EF(Z:X.A.units+100<cLine):D1 X (rD X.K index):=by
 intro value slice pins s σ H vx vy ux uy Q I J F h hs;obtain⟨ι,st,dx,dy,S,Y,U,P⟩:=h;have sz:sizeLine=16777216:=sizeLine_eq;unfold index at P;split at P
 ·split at P
  ·rename_i xs es;split at P
   ·rename_i d ed;cases U;obtain⟨a,vs,rfl,B,rv⟩:=Y.seq S es;obtain⟨w,ew,c⟩:=yS rv ed;rcases B with B|B
    ·exact yo value slice pins s σ H _ _ _ _ Q I J F ⟨_,_,_,_,rfl,rfl,B,ew,P.same S c⟩ hs
    ·exact Bg value slice pins s σ H _ _ _ _ Q I J F ⟨_,_,_,_,rfl,rfl,B,ew,P.same S c⟩ hs
   ·exact False.elim P
  ·cases U;exact wL (k:= .inl _) Z I S Y J F hs P
 ·cases U;exact wL (k:= .inr _) Z I S Y J F hs P
 ·exact False.elim P
end Ev
namespace PySem
open Sem (wp)
open AutoSeq1 (wpAny_loadPart')
section
end
end PySem
namespace L2
open PySem PySem.Spec PyProof.Rows
end L2
namespace PySem
open Sem (wp)
open AutoSeq1 (wpAny_loadPart')
namespace F
theorem fm:plainId "dict.update.loop"=true:=by decide+kernel
theorem kQ:entryFor table "dict.update.loop"=some Builtin.«dict.update.loop»:=entryFor_of_fast (by kernel_rfl)
theorem lq:typeLookup (.type "list") "keys"=pure none:=by rw[typeLookup_type,builtinLookup_eq_fast];kernel_rfl
end F
section
variable{prog:Program}{w:World}{K:Type}[DecidableEq K]{kn:KeyKind prog w K}{A:Around}{E:Value->Shared->Prop}
def qL(kn:KeyKind prog w K)(h:Heap)(items:Array Value)(ps:List (K×Value)):Prop:=
 items.size=ps.length/\∀(j:Nat)(x:K×Value),ps[j]? =some x->∃(t:Addr)(o:Obj)(n:Nat) (u:Value),items[j]? =some (.ref t)/\h.get? t=some o/\o.cls=.type "tuple" /\o.data=.seq #[u,x.2] n/\kn.is x.1 u=true
noncomputable def fL(ps acc:List (K×Value)):List (K×Value):=ps.foldl (λacc x=>stored acc x.1 x.2) acc
theorem l9:∀(ps acc:List (K×Value)),(fL ps acc).length<=acc.length+ps.length
 |[],acc=>by show acc.length<=_;omega
 |x::r,acc=>by
  have h1:=l9 r (stored acc x.1 x.2);have c:(stored acc x.1 x.2).length<=acc.length+1:=by unfold stored;split<;>simp
  show(fL r (stored acc x.1 x.2)).length<=_;rw[List.length_cons];omega
theorem qx{ps acc:List (K×Value)}{x:K×Value}:fL (ps++[x]) acc=stored (fL ps acc) x.1 x.2:=by unfold fL;rw[List.foldl_append];rfl
theorem og{R:Result->Shared->Prop}(hh:A.handled=none){h0:Heap}{d it l:Addr}(hd0:h0.get? d=none)(hi0:h0.get? it=none)(J:d≠it){items:Array Value}{ps:List (K×Value)}(hsz:items.size<=sizeLine)
  (hl:h0.IsList l items)(hp:qL kn h0 items ps):∀(k i:Nat)(s:Shared),items.size - i=k->i<=items.size->s.heap.IsListIter it l i->(∀b o,h0.get? b=some o->s.heap.get? b=some o)->s.heap.DictOf kn d (fL (ps.take i) [])->
  (∀h' tk,h'.DictOf kn d (fL ps [])->(∀b o,h0.get? b=some o->h'.get? b=some o)->R (.ok (.ret .none)) {s with heap:=h',toks:=tk})->
  codeAny (model prog w) A (.builtin "dict.update.loop" ⟨[.ref d,.ref it,rawInt i,.none],[]⟩) R s:=by
 have nd:∀{b:Addr}{o:Obj},h0.get? b=some o->b≠d:=λe z=>by rw[z,hd0] at e;cases e
 have ni:∀{b:Addr}{o:Obj},h0.get? b=some o->b≠it:=λe z=>by rw[z,hi0] at e;cases e
 intro k
 induction k with
 |zero=>
  intro i s hk hi I U hd hR;have hin:i=items.size:=by omega
  subst hin;refine codeAny_builtin F.kQ ?_;rw[Around.under_plainId F.fm _];show wpAny _ A.in1 (pyNext (.ref it)>>=_) _ _ s;refine aa (wpAny_pyNext_list_end hh I (hl.at λo e=>U _ _ e) (by simp) λh' eb=>?_)
  show wpAny _ _ (Builtin.Dict.addKeywords d []>>=_) _ _ _;refine aa (ah (ah ?_));rw[hp.1,List.take_length] at hd;exact hR h' s.toks (hd.at λo e=>eb d o J e) (λb o e=>eb b o (ni e) (U b o e))
 |succ k ih=>
  intro i s hk hi I U hd hR;have hlt:i<items.size:=by omega
  have Y:i<ps.length:=by rw[<-hp.1];exact hlt
  obtain⟨t,ot,nt,u,e1,e2,e3,e4,e5⟩:=hp.2 i ps[i] (by simp[Y])
  refine codeAny_builtin F.kQ ?_;rw[Around.under_plainId F.fm _];show wpAny _ A.in1 (pyNext (.ref it)>>=_) _ _ s;refine aa (wpAny_pyNext_list_item I (hl.at λo e=>U _ _ e) e1 λh1 Z B=>?_)
  replace B:Heap.SameBut it s.heap h1:=B
  have kp1:∀b o,h0.get? b=some o->h1.get? b=some o:=λb o e=>B.extBut b o (ni e) (U b o e);have t1:h1.get? t=some ot:=kp1 t ot e2;refine aa (wpAny_holding (aa (wpAny_tryCatch ?_)));unfold Builtin.Dict.pairItems;refine aa (wpAny_typeOf (T:= "tuple") ⟨ot,t1,e3⟩ ?_);rw[if_pos (by decide)]
  refine aa (wpAny_seqItems t1 e4 (ah ?_));show wpAny _ _ (holding [u,ps[i].2] (dictSet d u ps[i].2)) _ _ _;have hd1:h1.DictOf kn d (fL (ps.take i) []):=hd.at λo e=>B.extBut d o J e;have fl:=l9 (ps.take i) ([]:List (K×Value))
  have hfl:(fL (ps.take i) []).length<=sizeLine:=by rw[List.length_take] at fl;simp at fl;omega
  refine wpAny_holding (wpAny_dictSet_pairs (s:={s with heap:=h1}) e5 hd1 (λh2 hd2 c=>?_) hfl)
  replace c:Heap.SameBut d h1 h2:=c
  refine ah ⟨plainId_quiet F.fm _,?_⟩;have c1:((i+1:Nat):Int)=(i:Int)+1:=by omega
  have ht:ps.take (i+1)=ps.take i++[ps[i]]:=by rw[List.take_succ,ag Y];rfl
  rw[<-qx,<-ht] at hd2;have:=λtk=>ih (i+1) {s with heap:=h2,toks:=tk} (by omega) (by omega) (Z.at λo q=>(c.2 it (Ne.symm J)).trans q) (λb o e=>(c.2 b (nd e)).trans (kp1 b o e)) hd2 hR
  rw[c1] at this;exact this _
theorem ql{s:Shared}{a:Addr}{xs:Array Value}{k:Nat}{Q:Option Value->Shared->Prop}(I:s.heap.get? a=some {cls:= .type "list",data:= .seq xs k})(Y:A.handled=none)
  (h:∀h' tk,(∀b o,s.heap.get? b=some o->h'.get? b=some o)->Q none {s with heap:=h',toks:=tk}):wpAny (model prog w) A (getAttr? (.ref a) "keys") Q E s:=by
 obtain⟨U,g,d,tk,os⟩:=s;have J:∀c,(⟨U,g,d,c,os⟩:Shared).TypeIs (.ref a) "list":=λ_=>⟨_,I,rfl⟩;have f1:=sub_AttributeError;have f3:=F.slot_list_getattribute.lookup;have f4:=F.slot_list_getattribute.bind (.ref a);have f5:=am_list_getattr_none;unfold getAttr? getAttrBy? getAttrBy
 repeat (any_goals (first|assumption|exact J _|((with_reducible show wpAny _ _ (call (Value.builtin "list.__getattribute__") _ _) _ _ _);refine call_meets F.slot_list_getattribute (J _) am_entry_list_getattribute (F.args_list_getattribute_2 _ _) (meets_getattribute_miss_list a xs k #[] "keys" _ F.lq (by decide+kernel) (by size_fits)) ⟨I,Y,λh' c e B=>?_⟩)|wp_step))
 obtain⟨t',Z,he⟩:=B.there;show wpAny _ _ (getattributeRaised _ _ _ _ _ _ _) _ _ _;unfold getattributeRaised
 repeat (any_goals (first|assumption|wp_step))
 exact h _ _ B.keeps
theorem kU{s:Shared}{l:Addr}{items:Array Value}{c:Nat}{ps:List (K×Value)}{Q:Value->Shared->Prop}(hh:A.handled=none)(Z:s.heap.get? l=some {cls:= .type "list",data:= .seq items c})(hp:qL kn s.heap items ps)(hsz:items.size<=sizeLine)
  (hQ:∀h' tk,h'.DictOf kn s.heap.objs.size (fL ps [])->(∀b o,s.heap.get? b=some o->h'.get? b=some o)->Q (.ref s.heap.objs.size) {s with heap:=h',toks:=tk}):wpAny (model prog w) A (call (.type "dict") [.ref l]) Q E s:=by
 refine callType_codes (Q₁:=λobj s₁=>obj=.ref s.heap.objs.size/\s₁={s with heap:=s.heap.push {cls:= .type "dict",data:= .dict #[]}}) F.kt_called_dict (F.kt_typeCall_dict_1 _) F.entry_dict_init (kt_code_dict_new _ ⟨rfl,rfl⟩) ?_;rintro obj s₁ ⟨rfl,rfl⟩;have B:(s.heap.push {cls:= .type "dict",data:= .dict #[]}).DictOf kn s.heap.objs.size []:=Heap.DictOf.new s.heap;have g0:(s.heap.push {cls:= .type "dict",data:= .dict #[]}).get? s.heap.objs.size=some {cls:= .type "dict",data:= .dict #[]}:=aq _ rfl;refine⟨B.typeIs,F.args_dict_init_2 _ _,?_⟩;unfold Builtin.«dict.__init__» Builtin.Dict.selfAndRest;refine aa (aa (wpAny_notOrdered_dict B.typeIs ?_));show wpAny _ _ (pure (s.heap.objs.size,[Value.ref l])) _ _ _;refine ah ?_;show wpAny _ _ (Builtin.Dict.updateFrom "dict.__init__" s.heap.objs.size (.ref l) [] .none) _ _ _;unfold Builtin.Dict.updateFrom;have I:=ae {cls:= .type "dict",data:= .dict #[]} Z;refine aa (wpAny_typeOf (T:= "list") ⟨_,I,rfl⟩ ?_);rw[if_pos (by decide)]
 refine aa (ql I hh λh1 tk1 J=>?_);simp only[Option.isNone_none,if_true];refine aa (wpAny_rule ?_);have U:h1.IsList l items:=⟨_,J _ _ I,rfl,_,rfl⟩;refine aa (wpAny_pyIter_list (s:={s with heap:=h1,toks:=tk1}) U ?_);refine ah ⟨plainId_quiet F.fm _,?_⟩;have lt1:s.heap.objs.size<h1.objs.size:=am (J _ _ g0);have Y:∀{a:Addr},s.heap.objs.size<=a->s.heap.get? a=none:=λh=>Heap.get?_none_of_le h
 refine og (A:=A.in1) (kn:=kn) (h0:=s.heap) hh (Y (ac _)) (Y (Nat.le_of_lt lt1)) (au lt1) hsz ⟨_,Z,rfl,_,rfl⟩ hp items.size 0 _ (by omega) (by omega) ⟨_,aq _ rfl,rfl,rfl⟩
  (λb o e=>ae _ (J b o (ae _ e))) (B.at λo e=>ae _ (J _ o e)) λh' tk a b=>⟨rfl,hQ h' tk a b⟩
end
end PySem
namespace L2
open PySem PySem.Spec PyProof.Rows
def EX(K:aA)(H:Hp):List (Key×V)->List V->Prop:=Paired λp y=>∃t,y=.ref t/\fP K H t [kV p.1,p.2]
def Bp(ps:List (Key×V)):List (Key×V):=ps.foldl (λacc p=>putK acc p.1 p.2) []
section
variable{X:Cx}{pins:List (Addr×Obj)}{s:Shared}{σ:St}{H:Hp}
theorem sS(I:Inv X pins σ H s){ps:List (Key×V)}{ys:List V}(r:EX X.K H ps ys):∀{us:List Value},bn ys us->∃c:List (Key×Value),qL (bg X.prog X.w) s.heap us.toArray c/\KV ps c:=by
 induction r with
 |nil=>intro us q;cases q;exact⟨[],⟨rfl,λj x e=>by simp at e⟩,.nil⟩
 | @cons p y ps ys h1 t ih=>
  intro us q;cases q with
  | @cons _ u _ us' q1 q2=>
   obtain⟨c,⟨g1,g2⟩,g3⟩:=ih q2;obtain⟨ta,rfl,hq⟩:=h1;obtain rfl:u=Value.ref ta:=q1;obtain⟨its,rv,⟨o,k1,Z,n,Y⟩,_⟩:=I.tuple hq;cases rv with
   | @cons _ u1 _ its r1 rv=>
    cases rv with
    | @cons _ u2 _ its r2 rv=>
     cases rv;refine⟨(p.1,u2)::c,⟨by simpa using g1,λj x e=>?_⟩,.cons ⟨rfl,r2⟩ g3⟩
     cases j with
     |zero=>
      cases e;exact⟨ta,o,n,u1,by simp,k1,Z,Y,gQ r1⟩
     |succ j=>
      obtain⟨t',o',F,B,U,J⟩:=g2 j x (by simpa using e)
      exact⟨t',o',F,B,by simpa using U,J⟩
theorem ym{ps:List (Key×V)}{c:List (Key×Value)}(r:KV ps c):∀{acc:List (Key×V)}{xs:List (Key×Value)},KV acc xs->KV (ps.foldl (λacc p=>putK acc p.1 p.2) acc) (fL c xs):=by
 induction r with
 |nil=>intro acc xs q;exact q
 | @cons p q ps qs h t ih=>intro acc xs z;show KV (ps.foldl _ (putK acc p.1 p.2)) (fL qs (stored xs q.1 q.2));have:=z.put p.1 h.2;rw[h.1] at this ⊢;exact ih this
theorem kJ:∀(ps acc:List (Key×V)),(ps.foldl (λacc p=>putK acc p.1 p.2) acc).length<=acc.length+ps.length
 |[],acc=>by simp
 |p::r,acc=>by have h1:=kJ r (putK acc p.1 p.2);have c:=dE acc p.1 p.2;rw[List.foldl_cons,List.length_cons];omega
theorem qH(Z:X.calm=true):fO X (.type "dict") (λxs H Q=>∃l ys ps,xs=[.ref l]/\H l=some (.lst ys)/\EX X.K H ps ys/\∀p,H p=none->Q (.ref p) (upd H p (.dK (Bp ps)))):=by
 intro pins s σ H xs us Q I r h;obtain⟨l,ys,ps,rfl,e,B,q⟩:=h;obtain⟨u,rfl,U⟩:=vals1 r;cases U;obtain⟨z,its,m,c,F,el⟩:=I.lstM e;obtain⟨J,h1,h2⟩:=sS I B c;have lp:=Paired.length B;have lr:=Paired.length c;refine kU (I.ok.hd Z) el h1 (by rw[List.size_toArray];omega) λh' tk dr Y=>?_
 have fr:H s.heap.objs.size=none:=I.hok.fresh (ac _);have:=kJ ps [];refine⟨.ref s.heap.objs.size,_,I.laid (t':=tk) Y (ac _) (kS (by simp at this;omega) (beq_eq_false_iff_ne.mpr (bp I.big)) (ym h2 .nil) dr),rfl,q _ fr⟩
end
end L2
namespace PySem.W
open PySem PySem.Calls PyProof.Rows
theorem vi{n i:Nat}(h:i<n):(List.toArray (List.range n)).getD i 0=i:=by simp[Array.getD,h]
theorem wY{cmp:Nat->Nat->(Bool->Shared->Prop)->Shared->Prop}{n:Nat}{s:Shared}{Q:Nat->Shared->Prop}(c:∀i C,i+1<n->C false s->cmp (i+1) i C s)(h:Q n s):
  ∀f k,1<=k->k+f=n->(kas_asc (List.toArray (List.range n)) f k).kasWp cmp Q s
 |0,k,_,e=>by
  have:k=n:=by omega
  subst this;exact h
 |f+1,k,h1,e=>by
  obtain⟨j,rfl⟩:∃j,k=j+1:=⟨k - 1,by omega⟩
  show cmp ((List.toArray (List.range n)).getD (j+1) 0) ((List.toArray (List.range n)).getD (j+1 - 1) 0) (λb s'=>(if b=true then KasT.ret (j+1) else kas_asc (List.toArray (List.range n)) f (j+1+1)).kasWp cmp Q s') s
  rw[vi (by omega),Nat.add_sub_cancel,vi (by omega)]
  refine c j _ (by omega) ?_
  rw[if_neg (by decide)]
  exact wY c h f (j+2) (by omega) (by omega)
theorem xy{cmp:Nat->Nat->(Bool->Shared->Prop)->Shared->Prop}{n:Nat}{s:Shared}{Q:Array Nat->Shared->Prop}(h1:1<=n)(c:∀i C,i+1<n->C false s->cmp (i+1) i C s)(h:Q (List.toArray (List.range n)) s):(kas_sort n).kasWp cmp Q s:=by
 unfold kas_sort;rw[KasT.kasWp_bind];unfold kas_count;rw[KasT.kasWp_bind];refine wY c ?_ (n - 1) 1 (ac _) (by omega)
 rw[if_pos (by simp)]
 show(if n<n then _ else KasT.ret (List.toArray (List.range n)):KasT (Array Nat)).kasWp cmp Q s
 rw[if_neg (be _)];exact h
section
variable{prog:Program}{w:World}{A:Around}{E:Value->Shared->Prop}{s:Shared}
theorem oneLt_int{i j:Int}{t u:Tok}{Q:Bool->Shared->Prop}(h:Q (decide (i<j)) s):wpAny (model prog w) A (oneLt' true (.int i t) (.int j u)) Q E s:=kat_lt_int h
theorem v6{a:Addr}{vs:List Value}{n:Nat}{ks:List (Int×Tok×Value)}{P:PySem.Fin->Shared->Prop}(ho:s.heap.get? a=some (seqObj "list" vs.toArray n))(h64:vs.length<64)(hl:vs.length=ks.length)
  (Z:∀(j:Nat)(v:Value)(k:Int×Tok×Value),vs[j]? =some v->ks[j]? =some k->∃x o m,v=.ref x/\x≠a/\s.heap.get? x=some o/\o.cls=.type "tuple" /\o.data=.seq #[.int k.1 k.2.1,k.2.2] m)
  (up:ks.Pairwise λx y=>x.1<y.1)
  (h:∀h' c,(∀b o,b≠a->s.heap.get? b=some o->h'.get? b=some o)->h'.get? a=some (seqObj "list" vs.toArray c)->P (.done (.ret .none)) {s with heap:=h'}):
  wpAny (model prog w) A (Builtin.«list.sort» ⟨[.ref a],[]⟩) P E s:=by
 have ha:a<s.heap.objs.size:=am ho;rw[list_sort_plain];refine aa (listItems_at ho rfl ?_);refine aa (listUpdate_at ho rfl ?_ (by rw[List.size_toArray,sizeLine_eq];omega) (Nat.zero_le _))
 obtain⟨e1,I⟩:∃e1,(s.heap.update a (Obj.mapSeq λ_=> #[])).get? a=some (seqObj "list" #[] e1):=⟨_,get?_update_seq ho (λ_=> #[])⟩;refine aa (seqEpoch_at I rfl ?_);refine aa (wpAny_newTuple ?_ (by show vs.length<=_;rw[sizeLine_eq];omega))
 refine aa (wpAny_newList ?_ (Nat.zero_le _));refine wpAny_holding ?_;show wpAny (model prog w) A _ P E {s with heap:=((s.heap.update a (Obj.mapSeq λ_=> #[])).push (seqObj "tuple" vs.toArray 0)).push (seqObj "list" #[] 0)};generalize hz:((s.heap.update a (Obj.mapSeq λ_=> #[])).push (seqObj "tuple" vs.toArray 0)).push (seqObj "list" #[] 0)=hh
 have kept:∀b o,b≠a->s.heap.get? b=some o->hh.get? b=some o:=λb o J e=>by
  rw[<-hz];exact ae _ (ae _ (by rw[Heap.get?_update_ne _ _ _ _ J];exact e))
 have F:hh.get? a=some (seqObj "list" #[] e1):=by rw[<-hz];exact ae _ (ae _ I)
 dsimp only
 have fin:wpAny (model prog w) A (do
   Builtin.List.listUpdate (.ref a) λ_=>vs.toArray
   ret .none) P E {s with heap:=hh}:=by
  refine aa (listUpdate_at F rfl ?_ (Nat.zero_le _) (by rw[List.size_toArray,sizeLine_eq];omega))
  refine ah (h _ _ (λb o J e=>?_) (get?_update_seq F λ_=>vs.toArray));rw[Heap.get?_update_ne _ _ _ _ J];exact kept b o J e
 by_cases h2:vs.toArray.size<2
 ·rw[if_pos h2,if_pos h2];refine aa (ah ?_);rw[StateT.run_pure];refine aa (ah ?_);dsimp only;refine aa (seqEpoch_at F rfl ?_)
  rw[show(arrOf (SortSt.mk' general' (vs.toArray.zip vs.toArray) #[] 7 none)).map (·.2)=vs.toArray from by show((vs.toArray.zip vs.toArray).map (·.2))=_;apply Array.toList_inj.mp;rw[Array.toList_map,Array.toList_zip];exact List.map_snd_zip (ac _)]
  simp only[bne_self_eq_false,Bool.false_eq_true,if_false];exact fin
 ·rw[if_neg h2,if_neg h2];rw[List.size_toArray] at h2;have h2':2<=vs.length:=by omega
  have tups:∀(ws:List Value)(B:List (Int×Tok×Value)),ws.length=B.length->(∀(j:Nat)(v:Value)(k:Int×Tok×Value),ws[j]? =some v->B[j]? =some k->∃x o m,v=.ref x/\x≠a/\s.heap.get? x=some o/\o.cls=.type "tuple" /\o.data=.seq #[.int k.1 k.2.1,k.2.2] m)->KatTups hh ws (B.map λk=>Value.int k.1 k.2.1):=by
   intro ws
   induction ws with
   |nil=>intro B e _;cases B with
    |nil=>exact KatTups.nil
    |cons=>simp at e
   |cons w0 ws ih=>intro B e hq;cases B with
    |nil=>simp at e
    |cons k B=>
     obtain⟨x,o,m,rfl,U,ho,hc,hd⟩:=hq 0 w0 k rfl rfl;exact KatTups.cons (kept x o U ho) hc hd rfl (ih B (by simpa using e) λj v k' q1 q2=>hq (j+1) v k' (by simpa using q1) (by simpa using q2))
  refine aa (kat_kind (T:= .type "int") (tups vs ks hl Z) (by rw[List.length_map];omega) (λv Y=>?_) rfl ?_)
  ·obtain⟨k,_,rfl⟩:=List.mem_map.mp Y;exact Looks.now
  refine aa (aW (kat_run (Q:=λst' s'=>s'={s with heap:=hh}/\(arrOf st').map (·.2)=vs.toArray/\failedOf st'=none) (G:=λp s'=>s'={s with heap:=hh}/\p=List.toArray (List.range vs.length)) rfl h2' h64 (λp st' s' a1 a2 a3 a4=>?_) (xy (by omega) (λi C hi hC=>?_) ⟨rfl,rfl⟩)) (λr s' hr=>?_) λ_ _ x=>x)
  ·obtain⟨rfl,rfl⟩:=a4;refine⟨rfl,?_,a3⟩;rw[kat_snds rfl a2];apply congrArg;apply List.ext_getElem?;intro j;rw[aj];simp only[List.getElem?_range'];by_cases hj:j<vs.length
   ·simp[hj]
   ·simp[hj]
  ·show wpAny (model prog w) A (keyLt' _ (vs.getD (i+1) Value.none) (vs.getD i Value.none)) C (λ_ _=>False) {s with heap:=hh};have i1:i<vs.length:=by omega
   have k0:ks[i]? =some (ks[i]'(by omega)):=by simp
   have k1:ks[i+1]? =some (ks[i+1]'(by omega)):=by simp
   obtain⟨x,o,m,e1',U,hox,_,hd⟩:=Z i vs[i] _ (by simp) k0
   obtain⟨y,o2,m2,e2',hy,hoy,_,hd2⟩:=Z (i+1) (vs[i+1]'(by omega)) _ (by simp) k1
   rw[show vs.getD (i+1) Value.none=vs[i+1]'(by omega) by simp[hi],show vs.getD i Value.none=vs[i] by simp[i1],e1',e2']
   have hlt:=List.pairwise_iff_getElem.mp up i (i+1) (by omega) (by omega) (by omega)
   refine kat_lt (kept y o2 hy hoy) hd2 (kept x o U hox) hd (kat_cons (wpAny_eqBool_int ?_));rw[show((ks[i+1]'(by omega)).1==(ks[i]'(by omega)).1)=false by simp;omega]
   refine kat_no (oneLt_int ?_);rw[show decide ((ks[i+1]'(by omega)).1<(ks[i]'(by omega)).1)=false by simp;omega]
   exact hC
  ·obtain⟨⟨⟩,st'⟩:=r;obtain⟨rfl,q1,q2⟩:=hr;dsimp only;refine aa (seqEpoch_at F rfl ?_);dsimp only at q1 q2;rw[q1,q2];simp only[bne_self_eq_false,Bool.false_eq_true,if_false];exact fin
theorem mR{K:Type}[DecidableEq K]{knd:PySem.KeyKind prog w K}{r d:Addr}{kvs:List (K×Value)}{ep:Nat}{ns:List Int}{Q:Value->Shared->Prop}(hh:A.handled=none)(hv:s.heap.IsItemsView r d)(hm:s.heap.DictAt knd d kvs ep)(h64:kvs.length<64)
  (hk:∀(j:Nat)(k:K)(x key:Value),kvs[j]? =some (k,x)->knd.is k key=true->∃n t,ns[j]? =some n/\key=.int n t)(hn:ns.length=kvs.length)(up:ns.Pairwise (· < ·))
  (h:∀(h':Heap)(tk:Nat)(B:Addr)(c:Nat) (as:List Addr),(∀b o,s.heap.get? b=some o->h'.get? b=some o)->as.length=kvs.length->(∀b,b∈as->s.heap.get? b=none/\b≠B)->as.Nodup->s.heap.get? B=none->h'.get? B=some (seqObj "list" (as.map Value.ref).toArray c)->
   (∀(j:Nat)(a:Addr)(n:Int)(k:K)(x:Value),as[j]? =some a->ns[j]? =some n->kvs[j]? =some (k,x)->∃t,h'.get? a=some {cls:= .type "tuple",data:= .seq #[.int n t,x]})->Q (.ref B) {s with heap:=h',toks:=tk}):
  wpAny (model prog w) A (call (.builtin "sorted") [.ref r]) Q E s:=by
 refine call_function_entry kind_sorted plain_sorted entry_sorted (args_sorted1 _) ?_;unfold Builtin.«sorted»;refine aa (m:=checkCount "sorted" 1 1 _) (ah ?_);refine aa (kdx_collect (A:=A.in1) hh hv hm (by rw[sizeLine_eq];omega) λh' tk as J hl hG=>?_)
 refine aa (wpAny_newList ?_ (by rw[List.length_map,sizeLine_eq];omega))
 show wpAny _ _ _ _ _ {s with heap:=h'.push (seqObj "list" (as.map Value.ref).toArray 0),toks:=tk};have hB:(h'.push (seqObj "list" (as.map Value.ref).toArray 0)).get? h'.objs.size=some (seqObj "list" (as.map Value.ref).toArray 0):=aq _ rfl
 have Y:s.heap.get? h'.objs.size=none:=by
  cases e:s.heap.get? h'.objs.size with
  |none=>rfl
  |some o=>exact absurd (am (J _ _ e)) (be _)
 have pr:∀j (F:j<kvs.length),∃t,h'.get? (as[j]'(by omega))=some {cls:= .type "tuple",data:= .seq #[.int (ns[j]'(by omega)) t,(kvs[j]).2]}:=λj F=>by
  obtain⟨key,k,x,e1,e2,e3⟩:=hG.pairs j (as[j]'(by omega)) (by simp)
  obtain⟨n,t,e4,rfl⟩:=hk j k x key e1 e2;have e5:kvs[j]=(k,x):=by rw[ag F] at e1;exact ai e1
  have e6:ns[j]'(by omega)=n:=by rw[ag (by omega)] at e4;exact ai e4
  exact⟨t,by rw[e5,e6];exact e3⟩
 have nB:∀b,b∈as->b≠h'.objs.size:=λb Z=>au (hG.there Z);refine aa (wpAny_holding (wpAny_call_entry slot_list_sort ⟨_,hB,rfl⟩ entry_list_sort (v6 (ks:=(List.range kvs.length).map λj=>(ns.getD j 0,if F:j<kvs.length then Classical.choose (pr j F) else 0,(kvs[j]?.map (·.2)).getD .none)) hB (by rw[List.length_map];omega) (by simp;omega) (λj v k q1 q2=>?_) ?_ λh2 c U hB2=>⟨_,rfl,?_⟩) (args_list_sort _)))
 ·rw[aj] at q1 q2;cases I:as[j]? with
  |none=>rw[I] at q1;cases q1
  |some a=>
   rw[I] at q1;cases q1;have F:j<kvs.length:=by rw[<-hl];exact(aw I).1
   rw[List.getElem?_range F] at q2;cases q2;have hc:=Classical.choose_spec (pr j F);have ea:as[j]'(by omega)=a:=by rw[ag (by omega)] at I;exact ai I
   subst ea;refine⟨_,_,0,rfl,nB _ (ak I),ae _ hc,rfl,?_⟩;simp[F,hn]
 ·rw[List.pairwise_map];refine List.Pairwise.imp_of_mem (R:=(· < ·)) (λ{i j} hi F hij=>?_) List.pairwise_lt_range;have hi:=List.mem_range.mp hi;have F:=List.mem_range.mp F;have:=List.pairwise_iff_getElem.mp up i j (by omega) (by omega) hij
  simpa[hn,hi,F] using this
 ·refine ah ⟨_,rfl,h h2 tk h'.objs.size c as (λb o e=>U b o (λz=>?_) (ae _ (J b o e))) hl (λb Z=>⟨Heap.get?_none_of_le (Nat.le_of_lt (hG.above b Z)),nB b Z⟩) (hG.rise.imp λq=>au q) Y hB2 λj a n k x q1 q2 I=>?_⟩
  ·subst z;rw[Y] at e;cases e
  ·have F:j<kvs.length:=(aw I).1;obtain⟨t,ht⟩:=pr j F;have ea:as[j]'(by omega)=a:=by rw[ag (by omega)] at q1;exact ai q1
   have en:ns[j]'(by omega)=n:=by rw[ag (by omega)] at q2;exact ai q2
   have ex:kvs[j]=(k,x):=by rw[ag F] at I;exact ai I
   rw[ea,en,ex] at ht;exact⟨t,U a _ (nB a (ak q1)) (ae _ ht)⟩
end
end PySem.W
namespace L2
open PySem PySem.Spec PyProof.Rows
variable{p1 q1:Pos}
section
variable{X:Cx}{pins:List (Addr×Obj)}{σ:St}{H H':Hp}{s:Shared}{h':Heap}
theorem Inv.grown{t':Nat}(I:Inv X pins σ H s)(k:∀b u,s.heap.get? b=some u->h'.get? b=some u)(B:∀b u,H b=some u->H' b=some u)(J:∀b o,s.heap.get? b=some o->H b=none->H' b=none)
  (F:∀b u,H' b=some u->H b=none->cj X.prog X.w H' h' b u):Inv X pins σ H' {s with heap:=h',toks:=t'}:=by
 refine I.un ⟨λb o q _ _ _=>k b o q,λb o q _ _ _=>⟨o.slots,k b o q⟩,λb o q n _=>J b o q n,λb o q _=>⟨o,k b o q⟩,λb xs q=>B b _ q,λb o u q=>B b _ q,λb ps q=>⟨#[],by rw[B b _ q];simp⟩⟩ λb u e=>?_
 cases q:H b with
 |none=>exact F b u e q
 |some u'=>
  have:u'=u:=by have:=B b u' q;rw[e] at this;exact(ai this).symm
  subst this;exact(I.hok b u' q).stay (λc v _ z=>k c v z) (λc z=>B c _ z) λc xs z=>B c _ z
end
def D_(td:TE):TE:=λσ H Q=>td σ H λx H1=>∃(a:Addr)(kvs:List (Key×V))(ns:List Int),x=.ref a/\H1 a=some (.dK kvs)/\kvs.map (·.1)=ns.map (Sum.inl:Int->Key)/\ns.Pairwise (· < ·)/\kvs.length<64/\
 ∀(Hm:Hp)(as:List Addr)(p:Addr),as.length=kvs.length->(∀b u,H1 b=some u->Hm b=some u)->(∀b u,Hm b=some u->H1 b=some u∨b∈as)->(∀b,b∈as->H1 b=none)->Hm p=none->
  (∀(j:Nat)(b:Addr)(n:Int)(v:V),as[j]? =some b->ns[j]? =some n->(kvs[j]?.map (·.2))=some v->Hm b=some (.tup [.int n,v]))->Q (.ref p) (upd Hm p (.lst (as.map .ref)))
theorem KV.get{κ:Type}[DecidableEq κ]:∀{kvs:List (κ×V)}{vs:List (κ×Value)},KV kvs vs->∀{j:Nat}{k:κ}{u:Value},vs[j]? =some (k,u)->∃v,kvs[j]? =some (k,v)/\RelV v u
 |_,_,.nil,j,k,u,e=>by simp at e
 |_,_,.cons r t,0,k,u,e=>by
  obtain⟨B,c⟩:=r;simp only[List.getElem?_cons_zero,Option.some.injEq] at e;subst e;exact⟨_,by rw[List.getElem?_cons_zero];exact congrArg some (Prod.ext B rfl),c⟩
 |_,_,.cons r t,j+1,k,u,e=>by simpa using KV.get t (by simpa using e)
theorem lN:∀as:List Addr,bn (as.map .ref) (as.map .ref)
 |[]=>.nil
 |a::as=>.cons rfl (lN as)
theorem cj.here{P:Program}{w:World}{H:Hp}{h:Heap}{a:Addr}:∀{o:HO},cj P w H h a o->∃u,h.get? a=some u
 | .lst _,x=>by obtain⟨_,_,_,_,e⟩:=x;exact⟨_,e⟩
 | .tup _,x=>by obtain⟨_,_,_,u,e,_⟩:=x;exact⟨u,e⟩
 | .dK _,x=>by obtain⟨_,_,_,_,u,_,_,e,_⟩:=x;exact⟨u,e⟩
 | .dT _,x=>by obtain⟨_,_,_,_,u,_,_,e,_⟩:=x;exact⟨u,e⟩
 | .set _ _,x=>by obtain⟨u,_,_,_,e,_⟩:=x;exact⟨u,e⟩
 | .ins _ _ _,x=>by obtain⟨_,_,_,e,_⟩:=x;exact⟨_,e⟩
 | .own _,x=>x
 | .xd _,x=>by obtain⟨_,⟨u,_,_,e,_⟩,_⟩:=x;exact⟨u,e⟩
 | .rng _ _,x=>by obtain⟨_,_,_,e⟩:=x;exact⟨_,e⟩
 | .frz _ _,x=>⟨_,x.1⟩
 | .tbl _,x=>⟨_,x⟩
 | .met _ _,x=>⟨_,x⟩
 | .ext _,x=>x.2.1
theorem AL{X:Cx}{o:Expr}{td:TE}{ap cp:Pos}(hc:X.calm=true)(hg:Gl X "sorted")(hm:X.mg "sorted"=none)(ho:PE X o td)(J:attributeBase o "items" X.env (eval o X.env)=eval o X.env)(hl:(ap.endLine==cp.line)=true):
  PE X (.Call (.Name "sorted" p1) [.Call (.Attribute o "items" ap) [] [] cp] [] q1) (D_ td):=by
 intro pins s σ H Q I h;refine wpAny_Call_Name_kw (et I hg hm boot_sorted ?_);refine PyProof.Rows.callWith_builtin1 ?_ rfl rfl;show wpAny _ _ (spliced ((false,eval (.Call (.Attribute o "items" ap) [] [] cp) X.env)::backTo q1 (starEach [] X.env))) _ _ s;refine Calls.spliced_cons ?_;refine wpAny_Call_method0_late J hl (bW (ho pins s σ H _ I h) λv s1 hp=>?_);obtain⟨x,H1,I1,r1,a,kvs,ns,ex,hd,hk,up,h64,q1⟩:=hp;subst ex;obtain rfl:v=Value.ref a:=r1;obtain⟨z,hs,vs,rel,dd⟩:=sq I1.hok hd;obtain⟨t1,t2,_⟩:=hZ I1 (.inl ⟨kvs,.inl hd⟩);refine⟨"dict","dict.items",PySem.F.plainAttrs_dict,PySem.F.slot_dict_items,PySem.F.type_dict_items,t1,t2,Calls.callWith_builtin rfl (PySem.evalArgs_none ?_)⟩;refine call_meetsIn PySem.F.slot_dict_items t1 PySem.F.entry_dict_items (PySem.F.args_dict_items_1 _) (meets_dict_items (bg X.prog X.w) a hs) ⟨⟨vs,dd⟩,?_⟩;refine Calls.spliced_nil ?_;obtain⟨ep,dat⟩:=(dd.push {cls:= .type "dict_items",data:= .fields #[.ref a]}).dictAt;have lv:=rel.length;have ln:ns.length=vs.length:=by have:=congrArg List.length hk;simp at this;omega
 have kn:vs.map (·.1)=ns.map (Sum.inl:Int->Key):=by rw[<-rel.keys];exact hk
 refine PySem.W.mR (ns:=ns) (I.ok.hd hc) ⟨_,aq _ rfl,rfl,rfl⟩ dat (by omega) (λj k x key Z e2=>?_) ln up λh' tk B c as hkp hl' has hnd hB hB2 hpr=>?_
 ·have U:(vs.map (·.1))[j]? =some k:=by rw[aj,Z];rfl
  rw[kn,aj] at U;cases q:ns[j]? with
  |none=>rw[q] at U;cases U
  |some n=>
   rw[q] at U;cases U;rcases bE (show ga (.inl n) key=true from e2) with⟨i,t,e,rfl⟩|⟨y,t,e,_⟩
   ·cases e;exact⟨_,t,rfl,rfl⟩
   ·cases e
 ·have keep:∀b u,s1.heap.get? b=some u->h'.get? b=some u:=λb u e=>hkp b u (ae _ e)
  have none1:∀b,(s1.heap.push {cls:= .type "dict_items",data:= .fields #[.ref a]}).get? b=none->s1.heap.get? b=none/\H1 b=none:=λb e=>by
   have Z:s1.heap.get? b=none:=by
    cases q:s1.heap.get? b with
    |none=>rfl
    |some o=>rw[ae _ q] at e;cases e
   refine⟨Z,?_⟩;cases q:H1 b with
   |none=>rfl
   |some u=>obtain⟨o,ho⟩:=(I1.hok b u q).here;rw[Z] at ho;cases ho
  have fr:∀b,b∈as->s1.heap.get? b=none/\H1 b=none:=λb J=>none1 b (has b J).1;obtain⟨fB1,fB2⟩:=none1 B hB
  let Hm:Hp:=λb=>if b∈as then(match ns[as.idxOf b]?,kvs[as.idxOf b]? with|some n,some kv=>some (.tup [.int n,kv.2])|_,_=>none) else H1 b
  have Y:∀b,b∉as->Hm b=H1 b:=λb J=>if_neg J
  have hm1:∀(j:Nat)(b:Addr)(n:Int)(v:V),as[j]? =some b->ns[j]? =some n->(kvs[j]?.map (·.2))=some v->Hm b=some (.tup [.int n,v]):=λj b n v Z e2 U=>by
   have J:=ak Z
   have hi:as.idxOf b=j:=by obtain⟨hj,rfl⟩:=aw Z;exact hnd.idxOf_getElem j hj
   show(if b∈as then _ else _)=_
   rw[if_pos J,hi,e2];cases q:kvs[j]? with
   |none=>rw[q] at U;cases U
   |some kv=>rw[q] at U;cases U;rfl
  have hE:∀b u,H1 b=some u->Hm b=some u:=λb u e=>by
   rw[Y b λJ=>by rw[(fr b J).2] at e;cases e]
   exact e
  have hBm:Hm B=none:=by rw[Y B λJ=>(has B J).2 rfl];exact fB2
  have hEB:∀b u,H1 b=some u->upd Hm B (.lst (as.map .ref)) b=some u:=λb u e=>by
   rw[aL (λz=>by subst z;rw[fB2] at e;cases e)]
   exact hE b u e
  refine⟨.ref B,_,I1.grown (H':=upd Hm B (.lst (as.map .ref))) (t':=tk) keep hEB (λb o e n=>?_) (λb u e n=>?_),rfl,q1 Hm as B (by omega) hE (λb u e=>?_) (λb J=>(fr b J).2) hBm hm1⟩
  ·rw[aL (λz=>by subst z;rw[fB1] at e;cases e),Y b λJ=>by rw[(fr b J).1] at e;cases e]
   exact n
  ·by_cases J:b=B
   ·subst J;rw[bF] at e;cases e;refine⟨by simp;omega,as.map .ref,c,lN as,hB2⟩
   ·rw[aL J] at e;by_cases ha:b∈as
    ·obtain⟨j,hj,rfl⟩:=List.getElem_of_mem ha;have Z:as[j]? =some as[j]:=by simp
     have e2:ns[j]? =some (ns[j]'(by omega)):=by simp
     have U:vs[j]? =some (vs[j]'(by omega)):=by simp
     obtain⟨v,e4,rv⟩:=KV.get rel (k:=(vs[j]'(by omega)).1) (u:=(vs[j]'(by omega)).2) U
     obtain⟨t,ht⟩:=hpr j _ _ _ _ Z e2 U;rw[hm1 j _ _ v Z e2 (by rw[e4];rfl)] at e
     cases e;exact⟨by rw[sizeLine_eq];exact(show 2<=16777216 by decide),[.int _ t,_],.cons ⟨t,rfl⟩ (.cons rv .nil),_,ht,⟨rfl,rfl⟩,0,rfl⟩
    ·rw[Y b ha,n] at e;cases e
  ·by_cases ha:b∈as
   ·exact .inr ha
   ·rw[Y b ha] at e;exact .inl e
open PySem PySem.Spec PyProof.Rows Tab23
section
variable{X:Cx}
theorem lV{pins:List (Addr×Obj)}{σ:St}{H:Hp}{s:Shared}{h':Heap}{tk:Nat}{D:Addr}{out:Array Value}{c:Nat}{ns:List Int}{Q:VK}(I:Inv X pins σ H s)(k:∀b u,s.heap.get? b=some u->h'.get? b=some u)(F:s.heap.get? D=none)
  (J:h'.get? D=some (seqObj "list" out c)) (hi:IntsAre out.toList ns)(U:ns.length<64)(q:∀l,H l=none->Q (.ref l) (upd H l (.lst (ns.map V.int)))):EP X pins σ Q (.ref D) {s with heap:=h',toks:=tk}:=by
 have B:H D=none:=by
  cases q:H D with
  |none=>rfl
  |some u=>obtain⟨o,ho⟩:=(I.hok D u q).here;rw[F] at ho;cases ho
 refine⟨.ref D,_,I.grown (H':=upd H D (.lst (ns.map V.int))) (t':=tk) k (λb u e=>?_) (λb o e n=>?_) (λb u e n=>?_),rfl,q D B⟩
 ·rw[aL (λz=>by subst z;rw[B] at e;cases e)];exact e
 ·rw[aL (λz=>by subst z;rw[F] at e;cases e)];exact n
 ·by_cases hb:b=D
  ·subst hb;rw[bF] at e;cases e;exact⟨by rw[List.length_map,sizeLine_eq];omega,out.toList,c,iR hi,by rw[Array.toArray_toList];exact J⟩
  ·rw[aL hb,n] at e;cases e
theorem nz:fO X (.builtin "sorted") (λxs H Q=>∃p ns,xs=[.ref p]/\dD X.K H p (ns.map V.int)/\ns.length<64/\∀l,H l=none->Q (.ref l) (upd H l (.lst ((dM ns).map V.int)))):=by
 intro pins s σ H xs us Q I r h;obtain⟨p,ns,rfl,hq,Z,q⟩:=h;obtain⟨u,rfl,F⟩:=vals1 r;cases F;obtain⟨its,J,U,_⟩:=I.list hq;have hi:=intsAre_of J;have hl:=hi.length;refine sorted_ints U.isList hi (by omega) λout Y a1 B a3=>?_
 obtain⟨c,hc⟩:=sortedAll_at s.heap its out;rw[<-rc B a3] at q;exact lV (tk:=s.toks) I (λb o e=>sortedAll_old e) (Heap.get?_none_of_le (Nat.le_succ _)) hc a1 (by rw[B.length_eq];exact Z) q
def Ey(K:aA)(x:V)(H:Hp)(Q:VK):Prop:=∃p ns,x=.ref p/\(dD K H p (ns.map V.int)∨fP K H p (ns.map V.int))/\ns.length<=2/\(∀n∈ns,0<=n/\n<10)/\∀l,H l=none->Q (.ref l) (upd H l (.lst ((iU ns).map V.int)))
def Cj(K:aA)(te:TE):TE:=λσ H Q=>te σ H λx H1=>Ey K x H1 Q
theorem xZ{e:Expr}{te:TE}{p2 q2:Pos}(hc:X.calm=true)(hg:Gl X "sorted")(hm:X.mg "sorted"=none)(hg2:Gl X "set")(Z:X.mg "set"=none)(he:PE X e te)(B:starEach [e] X.env=[(false,eval e X.env)]):
  PE X (.Call (.Name "sorted" p1) [.Call (.Name "set" p2) [e] [] q2] [] q1) (Cj X.K te):=by
 intro pins s σ H Q I h;refine wpAny_Call_Name_kw (et I hg hm boot_sorted (PyProof.Rows.callWith_builtin1 ?_ rfl rfl));show wpAny _ _ (spliced ((false,eval (.Call (.Name "set" p2) [e] [] q2) X.env)::backTo q1 (starEach [] X.env))) _ _ s;refine Calls.spliced_cons (wpAny_Call_Name_kw (et I hg2 Z boot_set (aX ?_ B rfl)));rw[B];refine Calls.spliced_cons (bW (he pins s σ H _ I h) λv J hp=>?_);obtain⟨x,H1,I1,r1,p,ns,ex,F,h2,hb,q⟩:=hp;subst ex;cases r1;refine Calls.spliced_nil ?_;obtain⟨hs,t,a1,a2,a3,a4,a5,hsz⟩:=C3 (!X.w.params.followText "set-order") h2 hb;have hh:=I.ok.hd hc;have hsl:hs.length=(iU ns).length:=by rw[<-a4,(cT hs).length_eq]
 have go:∀{T:String}{OK:Heap->Prop},SqN X.prog X.w T p ns OK->OK J.heap->wpAny (model X.prog X.w) X.A (call (.type "set") [.ref p]) (λv s2=>wpAny (model X.prog X.w) X.A (spliced (backTo q1 (starEach [] X.env))) (λvs s3=>wpAny (model X.prog X.w) X.A (call (.builtin "sorted") (v::vs)) (EP X pins σ Q) X.xe s3) X.xe s2) X.xe J:=λK ok=>by
  refine qF K hh ok a5 (by omega) a1 λh' tk R k=>Calls.spliced_nil ?_
  refine PySem.W.pU hh R (by omega) (λz=>by rw[a3,z];rfl) a2 λh2 tk2 D out c k2 hD hc2 hi=>?_
  rw[a4] at hi;show EP X pins σ Q (.ref D) {J with heap:=h2,toks:=tk2};refine lV (tk:=tk2) I1 (λb u e=>k2 b u (k b u e)) ?_ hc2 hi (by omega) q
  cases z:J.heap.get? D with
  |none=>rfl
  |some o=>exact nomatch (show h'.get? D=none from hD).symm.trans (k D o z)
 rcases F with F|F
 ·obtain⟨its,U,Y,_⟩:=I1.list F;exact go (uO (intsAre_of U)) Y.isList
 ·obtain⟨its,U,Y,_⟩:=I1.tuple F;exact go (sI (intsAre_of U)) Y
end
end L2
namespace Ev
open PySem PySem.Spec PyProof.Rows L2
variable{m:Nat}{ι ι1:Nat->Addr}{H:Hp}{vs:List (Key×V)}{kvs:List (Key×D)}{Q:VK}{st st0 st1:a9}{a e o:Expr}{sc:Scope}{α:Type}
theorem su{K:aA}{ds:List D}{vs:List V}(r:VRels K H ι m ds vs)(lo hi:Option Int):VRels K H ι m (cutD ds lo hi) (pq vs lo hi):=by unfold cutD pq;rw[<-r.length];exact(r.drop _).take _
theorem Eo{X:Cx}:DZ X (λvx lo hi H Q=>∃ι st dx,Sim X.K H ι st/\VRel X.K H ι st.length dx vx/\cu X.K H ι st (slice dx lo hi st) Q):=by
 intro pins s σ H x v vl vu lo hi sl Q I F hs U J h;obtain⟨ι,st,dx,S,B,P⟩:=h;have sz:sizeLine=16777216:=sizeLine_eq;unfold slice at P;split at P
 ·split at P
  ·exact False.elim P
  ·rename_i hw;cases B with
   |tup ha ra=>
    exact z9 pins s σ H _ v vl vu lo hi sl Q I F hs U J ⟨_,_,rfl,ha,by rw[<-ra.length];exact hw,P.tup S (su ra lo hi)⟩
 ·split at P
  ·rename_i xs es;obtain⟨a,vs,rfl,c,rv⟩:=B.seq S es;rcases c with c|c
   ·exact xB pins s σ H _ v vl vu lo hi sl Q I F hs U J ⟨_,_,rfl,c,P.alloc S (su rv lo hi)⟩
   ·exfalso;cases B with
    |tup _ _=>exact(‹∀bs:List D,¬D.tup _=D.tup bs› _) rfl
    |fl h _=>exact pZ I c h.sql
    |ref h=>
     obtain⟨u,e',Z,Y⟩:=S.obj h;rcases mG I c with⟨_,e⟩|⟨_,_,e⟩|e<;>rw[e] at e'<;>first|(cases e';done)|(cases e';exact absurd rfl (Z _))|(cases e';exact absurd rfl (Y _ _))
  ·exact False.elim P
def rB(K:aA)(f:Bt):List V->Hp->VK->Prop:=λvs H Q=>∃ι st ds,Sim K H ι st/\VRels K H ι st.length ds vs/\cu K H ι st (eL f ds st) Q
noncomputable def Bt.val:Bt->Value
 | .len=>.builtin "len"
 | .list=>.type "list"
 | .tuple=>.type "tuple"
 | .int=>.type "int"
 | .dict=>.type "dict"
 | .max=>.builtin "max"
 | .sorted=>.builtin "sorted"
theorem DRels.anyK{K:aA}{k:Key}(h:DRels K H ι m kvs vs):(kvs.any λkv=>decide (kv.1=k))=vs.any λkv=>decide (kv.1=k):=by
 induction h with
 |nil=>rfl
 |cons h t ih=>rw[List.any_cons,List.any_cons,ih]
theorem DRels.repl{K:aA}{k:Key}{d:D}{v:V}(h:DRels K H ι m kvs vs)(q:VRel K H ι m d v):DRels K H ι m (kvs.map λkv=>if kv.1=k then(kv.1,d) else kv) (vs.map λkv=>if kv.1=k then(kv.1,v) else kv):=by
 induction h with
 |nil=>exact .nil
 | @cons k' d' v' ds vs h t ih=>
  rw[List.map_cons,List.map_cons];by_cases e:k'=k
  ·rw[if_pos e,if_pos e];exact .cons q ih
  ·rw[if_neg e,if_neg e];exact .cons h ih
theorem DRels.put{K:aA}{k:Key}{d:D}{v:V}(h:DRels K H ι m kvs vs)(q:VRel K H ι m d v):DRels K H ι m (bP kvs k d) (putK vs k v):=by
 unfold bP putK;rw[h.anyK];split
 ·exact h.repl q
 ·exact h.append (.cons q .nil)
theorem rE{K:aA}{H:Hp}{ι:Nat->Addr}{m:Nat}:∀{ds:List D}{vs:List V}{ps:List (Key×D)},n_ ds=some ps->VRels K H ι m ds vs->∃qs,EX K H qs vs/\DRels K H ι m ps qs
 |[],_,_,h,.nil=>by cases h;exact⟨[],.nil,.nil⟩
 |d::ds,_,_,h,.cons (v:=v) (vs:=vs) r t=>by
  obtain⟨p,h1,h⟩:=bs h;obtain⟨ps,F,rfl⟩:=map_some h;obtain⟨qs,q1,q2⟩:=rE F t;cases d with
  |tup xs=>
   obtain⟨z,B,h1⟩:=bs h1;obtain⟨k,c,rfl⟩:=map_some h1;cases gD B;cases r with
   |tup hq rr=>
    cases rr with
    |cons ra rr=>
     cases rr with
     |cons rb rr=>cases rr;have:=gG c ra;subst this;exact⟨(k,_)::qs,.cons ⟨_,rfl,hq⟩ q1,.cons rb q2⟩
  |_=>cases h1
theorem o_{K:aA}{H:Hp}{ι:Nat->Addr}{m:Nat}:∀{ps:List (Key×D)}{qs:List (Key×V)},DRels K H ι m ps qs->∀{acc:List (Key×D)}{c:List (Key×V)},DRels K H ι m acc c->DRels K H ι m (ps.foldl (λacc p=>bP acc p.1 p.2) acc) (qs.foldl (λacc p=>putK acc p.1 p.2) c)
 |_,_,.nil,_,_,q=>q
 |_,_,.cons h t,_,_,q=>o_ t (q.put h)
theorem cu.allocK{K:aA}(S:Sim K H ι st)(P:cu K H ι st (.ok (.ref st.length) (st++[.dct kvs])) Q)(r:DRels K H ι st.length kvs vs):∀p,H p=none->Q (.ref p) (upd H p (.dK vs)):=λp c=>by
 obtain⟨ι',E,e,B⟩:=S.laid (o:= .dct kvs) (ho:= .dK vs) c (λι' h1 I=>⟨vs,bF,r.ext0 ⟨Nat.le_succ _,h1,λb xs e=>by rw[aL (aJ e c)];exact e,λb F u e=>by rw[aL (aJ e c)];exact e⟩⟩)
 have l:(st++[O.dct kvs]).length=st.length+1:=by simp
 refine P _ ι' _ (by rw[l];exact E) B ?_
 rw[<-e,l];exact .ref (aI _)
theorem kq{K:aA}{H:Hp}{ι:Nat->Addr}{m:Nat}:∀{ds:List D}{vs:List V}{ns:List Int},lS ds=some ns->VRels K H ι m ds vs->vs=ns.map V.int
 |[],_,_,h,.nil=>by cases h;rfl
 |d::ds,_,_,h,.cons (v:=v) (vs:=vs) r t=>by
  cases d with
  |int i=>obtain⟨ms,h1,rfl⟩:=map_some h;cases r;rw[kq h1 t];rfl
  |_=>cases h
theorem i_{K:aA}{H:Hp}{ι:Nat->Addr}{m:Nat}:∀ns:List Int,VRels K H ι m (ns.map .int) (ns.map V.int)
 |[]=>.nil
 |n::ns=>.cons (.int n) (i_ ns)
theorem BI{X:Cx}(hc:X.calm=true)(f:Bt):fO X f.val (rB X.K f):=by
 intro pins s σ H xs us Q I r h;obtain⟨ι,st,ds,S,rv,P⟩:=h;have sz:sizeLine=16777216:=sizeLine_eq;cases ds with
 |nil=>exact False.elim P
 |cons x ds=>cases ds with
  |cons y ds=>cases ds with
   |cons=>exact False.elim P
   |nil=>
   replace P:cu X.K H ι st (DF f x y st) Q:=P
   cases rv with
   |cons h1 rv=>cases rv with
    |cons h2 t=>
     cases t;cases f with
     |max=>cases x with
      |int i=>cases y with
       |int j=>cases h1;cases h2;exact tR hc pins s σ H _ us Q I r ⟨_,_,rfl,P.same S (.int _)⟩
       |_=>exact False.elim P
      |_=>exact False.elim P
     |_=>exact False.elim P
  |nil=>
  obtain⟨v,rfl,B⟩:=rv.inv1
  replace P:cu X.K H ι st (sA f x st) Q:=P
  cases f with
  |len=>
   simp only[sA] at P;split at P
   ·rename_i ys es;obtain⟨a,vs,rfl,c,J⟩:=B.seq S es;exact nC pins s σ H _ us Q I r ⟨_,_,rfl,c,by rw[<-J.length];exact P.same S (.int _)⟩
   ·split at P
    ·rename_i kvs es;obtain⟨n,a,vs,rfl,q,ea,rfl,Y,U⟩:=wO S es B;obtain⟨u,rfl,Z⟩:=vals1 r;cases Z;exact DB I (.inl Y) λt s' I'=>⟨.int kvs.length,H,I',by rw[U.length];exact⟨t,rfl⟩,P.same S (.int _)⟩
    ·exact False.elim P
  |list=>
   simp only[sA] at P;split at P
   ·rename_i ys es;obtain⟨a,vs,rfl,c,J⟩:=B.seq S es;exact nA pins s σ H _ us Q I r ⟨_,_,rfl,c,P.alloc S J⟩
   ·exact False.elim P
  |tuple=>
   simp only[sA] at P;split at P
   ·rename_i ys es;obtain⟨a,vs,rfl,c,J⟩:=B.seq S es;rcases c with c|c
    ·exact gV pins s σ H _ us Q I r ⟨_,_,rfl,.inl ⟨c,P.tup S J⟩⟩
    ·exact gV pins s σ H _ us Q I r ⟨_,_,rfl,.inr ⟨c,P.same S (.tup c J)⟩⟩
   ·exact False.elim P
  |int=>cases x with
   |bl b=>cases B;exact tU pins s σ H _ us Q I r (.inr ⟨b,rfl,P.same S (.int _)⟩)
   |_=>exact False.elim P
  |dict=>cases x with
   |ref n=>
    simp only[sA] at P;split at P
    ·rename_i xs q;split at P
     ·rename_i ps hps;cases B with
      |ref F=>obtain⟨ys,h1,h2⟩:=S.ob _ _ q;obtain⟨qs,k1,k2⟩:=rE hps h2;exact qH hc pins s σ H _ us Q I r ⟨_,ys,qs,rfl,h1,k1,P.allocK S (o_ k2 .nil)⟩
     ·exact False.elim P
    ·rename_i kvs q;cases B with
     |ref F=>obtain⟨vs,Y,U⟩:=S.ob _ _ q;obtain⟨u,rfl,Z⟩:=vals1 r;cases Z;exact wR I (.inl Y) λp s' hp I'=>⟨.ref p,_,I',rfl,P.allocK S U p hp⟩
    ·exact False.elim P
   |_=>exact False.elim P
  |sorted=>
   simp only[sA] at P;split at P
   ·rename_i ns F;split at P
    ·rename_i hl;cases x with
     |ref n=>
      simp only[numsOf] at F;split at F
      ·rename_i xs q;cases B with
       |ref hn'=>obtain⟨vs,Y,U⟩:=S.ob _ _ q;have e:=kq F U;subst e;exact nz pins s σ H _ us Q I r ⟨_,ns,rfl,dD.of Y,hl,P.alloc S (i_ _)⟩
      ·cases F
     |_=>cases F
    ·exact False.elim P
   ·exact False.elim P
  |_=>exact False.elim P
def pK(P:Program)(w:World):xf:=λ_ _ _ _ _ _=>False
theorem zf{P:Program}{w:World}{X:Cx}:lc (pK P w) X E0:=λ_ _ _ _ _ _ _ z=>z.elim
section
variable{X:Cx}{pins:List (Addr×Obj)}{σ:L2.St}{H:Hp}{s:Shared}
theorem rj{k:Nat}{f:Addr}{fd:FuncData}{ps:List Str}{sp:Sp}{us:List Value}{vs:List V}(F:FnOk X.prog X.w X.K X.mg X.base (pK X.prog X.w) k f fd ps sp)(hr:Room k X.A)(J:Binds X.K fd ps [])
  (I:Inv X pins σ H s)(r:bn vs us)(h:sp vs H Q E0):wpAny (model X.prog X.w) X.A (call (.ref f) us) (EP X pins σ Q) X.xe s:=by
 have B:(us++[]).length=ps.length:=by rw[List.append_nil,<-r.length];exact F.len _ _ _ _ h
 refine wpAny_call (codeAny_mono (F.run X.A X.stack s H ⟨us,[]⟩ us vs Q _ hr I.env0 (by have:=J s us I.kIn B;rwa [List.append_nil] at this) r h) λr s' c=>?_)
 cases r with
 |error e=>exact c.elim
 |ok fl=>
  cases fl with
  |ret u=>exact I.after c
  |next=>exact False.elim c
  |brk=>exact False.elim c
  |cont=>exact False.elim c
end
theorem oF{name:Str}{apos pos:Pos}{args:List Expr}{prog:Program}{w:World}{A:Around}{E:Value->Shared->Prop}{s:Shared}{env:Env}{Q:Value->Shared->Prop}
  (B:attributeBase o name env (eval o env)=eval o env)
  (I:methodCallForm (args.length+([]:List Keyword).length) (backTo pos (starEach args env)) (backToKw pos (keywordEach [] env))=true)
  (c:(apos.endLine==pos.line)=true)
  (h:wpAny (model prog w) A (eval o env) (λU s₁=>∀Y,wpAny (model prog w) A (getMethod U name Y) (λJ s₂=>wpAny (model prog w) A (callWith pos J.1 J.2 (backTo pos (starEach args env)) (backToKw pos (keywordEach [] env))) Q E s₂) E s₁) E s):
  wpAny (model prog w) A (eval (.Call (.Attribute o name apos) args [] pos) env) Q E s:=by
 rw[arm_eval_Call,B];refine aa (aW h (λU s₁ h₁=>?_) λ_ _ e=>e);refine aa (wpAny_standAt ?_);have F:methodCallPos true o env apos pos=pure pos:=by unfold methodCallPos;simp[c]
 unfold methodCall;rw[I];refine aa (wpAny_holding (aW (h₁ _) (λJ s2 Z=>?_) λ_ _ e=>e));exact aa (wpAny_of_eq F Z)
def uG(X:Cx)(m:Str)(ta:TE)(t:TA):TE:=λσ H Q=>ta σ H λx H1=>∃a C dx fs f k fd ps sp,x=.ref a/\H1 a=some (.ins C dx fs)/\fs.lookup m=none/\Cls X.K C/\Meth X.K C m f/\
 FnOk X.prog X.w X.K X.mg X.base (pK X.prog X.w) k f fd ps sp/\Room k X.A/\Binds X.K fd ps []/\t σ H1 λvs H2=>∀E:XK,sp (.ref a::vs) H2 Q E
section
variable{X:Cx}{m:Str}{o e:Expr}{es:List Expr}{ta:TE}{t:TA}{apos pos:Pos}
theorem vK(he:PE X o ta)(J:attributeBase o m X.env (eval o X.env)=eval o X.env)(B:(apos.endLine==pos.line)=true)
  (U:methodCallForm ((e::es).length+([]:List Keyword).length) (backTo pos (starEach (e::es) X.env)) (backToKw pos (keywordEach [] X.env))=true)(ha:PA X (e::es) t)
  (Y:starEach (e::es) X.env=(false,eval e X.env)::starEach es X.env)(Z:(backTo pos (starEach es X.env)).any (·.1)=false):PE X (.Call (.Attribute o m apos) (e::es) [] pos) (uG X m ta t):=by
 intro pins s σ H Q I h;refine oF J U B (bW (he pins s σ H _ I h) λu s1 hp pl=>?_);obtain⟨x,H1,I1,rx,a,C,dx,fs,f,k,fd,ps,sp,ex,ea,l,c,hm,F,hr,hb,q⟩:=hp;subst ex;obtain rfl:u=Value.ref a:=rx;refine kF I1 ea c hm l ?_;refine PySem.W.callWith_K (first:=[.ref a]) (h₀:=X.base) I.ok.mod.kin hm.kp (bW (ha pos pins s1 σ H1 _ I1 q) λus s2 ⟨vs,H2,I2,r,q2⟩=>⟨I2.kIn,?_⟩) Y Z
 exact rj (us:= .ref a::us) (vs:= .ref a::vs) F hr hb I2 (.cons rfl r) (q2 _)
theorem sQ(he:PE X o ta)(J:attributeBase o m X.env (eval o X.env)=eval o X.env)(B:(apos.endLine==pos.line)=true):PE X (.Call (.Attribute o m apos) [] [] pos) (uG X m ta xv):=by
 intro pins s σ H Q I h;refine oF J rfl B (bW (he pins s σ H _ I h) λu s1 hp pl=>?_);obtain⟨x,H1,U,Z,a,C,dx,fs,f,k,fd,ps,sp,ex,ea,l,c,Y,F,hr,hb,q⟩:=hp;subst ex;obtain rfl:u=Value.ref a:=Z;refine kF U ea c Y l ?_;exact PySem.W.callWith_K0 (first:=[.ref a]) U.kIn Y.kp (rj (us:=[.ref a]) (vs:=[.ref a]) F hr hb U (.cons rfl .nil) (q _))
end
theorem _root_.L2.PS.or{X:Cx}{e:Stmt}{t u:TS}(h1:PS X e t)(c:PS X e u):PS X e (λD σ H=>t D σ H∨u D σ H):=λpins s σ H D I h=>h.elim (h1 pins s σ H D I) (c pins s σ H D I)
structure ICl where
 x:Str
 flds:List Str
 mts:List (Str×Nat)
structure Tab where
 fns:List Str
 csts:List (Str×D)
 calm:Bool
 icl:List ICl
 mks:List (Str×Nat)
noncomputable def Tab.ics(T:Tab)(f:Str):List Str:=(T.icl.filter λc=>c.flds.contains f).map (·.x)
noncomputable def Tab.ims(T:Tab)(m:Str):List (Str×Nat):=T.icl.filterMap λc=>(c.mts.lookup m).map λj=>(c.x,j)
noncomputable def gc:List Str->Str->Option Nat
 |[],_=>none
 |y::r,x=>if y=x then some 0 else(gc r x).map (· +1)
theorem cM:∀{N:List Str}{x:Str}{i:Nat},gc N x=some i->N[i]? =some x
 |[],_,_,h=>by cases h
 |y::r,x,i,h=>by
  unfold gc at h;split at h
  ·rename_i e;cases h;rw[e];rfl
  ·cases q:gc r x with
   |none=>rw[q] at h;cases h
   |some j=>rw[q] at h;have:j+1=i:=ai h;subst this;simpa using cM q
noncomputable def BJ:List (Str×Bt):=[("len",.len),("list",.list),("tuple",.tuple),("int",.int),("dict",.dict),("max",.max),("sorted",.sorted)]
noncomputable def tV:List Str:=["len","list","tuple","int","dict","max","sorted","isinstance","range","zip","enumerate","reversed","set"]
noncomputable def DI:Operator->Option Bo
 | .Add=>some .add
 | .Sub=>some .sub
 | .Mult=>some .mul
 | .FloorDiv=>some .fdiv
 | .Mod=>some .mod
 | .Pow=>some .pow
 |_=>none
def cR(sc scope:Scope)(N:List Str)(x:Str):Bool:=
 (scope.kind== .function)&&(scope.names.lookup x==some .local)&&decide ((x::iN scope N).Nodup)&&(x != "__debug__")&&(x != "__classdict__")&&
 (scope.names.all λy=>(y.2 != .cell)&&(y.2 != .local||scope.names.lookup y.1==some .local)&&(y.2 != .free||sc.names.lookup y.1==some .cell||sc.names.lookup y.1==some .free))&&
 N.all λz=>(scope.names.lookup z !=some .local||scope.names.lookup (zv z)==none)&&(zv z != "__debug__")&&(zv z != "__classdict__")
def dC(sc scope:Scope)(N:List Str)(x y:Str):Bool:=
 cR sc scope N x&&(scope.names.lookup y==some .local)&&decide ((x::y::iN scope N).Nodup)&&(y != "__debug__")&&(y != "__classdict__")
noncomputable def iW(sc scope:Scope):Scope:=
 {scope with names:=scope.names.map λ(n,k)=>if(k== .free&&sc.kind== .function&&sc.names.lookup n==some .cell) then(n,.cell) else(n,k)}
noncomputable def bA(sc:Scope)(x:Str):Bool:=sc.names.lookup x==some .globalImplicit
noncomputable def ir:Expr->Bool
 | .Slice .. =>false
 |_=>true
noncomputable def A5:Expr->Option Str
 | .Name x _=>some x
 |_=>none
theorem gF{x:Str}(h:A5 e=some x):∃p,e= .Name x p:=by cases e<;>cases h;exact⟨_,rfl⟩
def yQ:Expr->Option (Str×List Expr)
 | .Call f as ks _=>(match ks with
  |[]=>(A5 f).map λx=>(x,as)
  |_=>none)
 |_=>none
theorem k6{x:Str}{as:List Expr}(h:yQ e=some (x,as)):∃p q,e= .Call (.Name x p) as [] q:=by
 cases e with
 |Call f as ks q=>
  cases ks with
  |nil=>obtain⟨y,h1,c⟩:=map_some h;cases c;obtain⟨p,rfl⟩:=gF h1;exact⟨p,q,rfl⟩
  |cons=>cases h
 |_=>cases h
def sx(e:Expr):Option (Str×Expr):=(yQ e).bind λp=>(one p.2).map λa=>(p.1,a)
theorem jj{r:Str}(h:sx e=some (r,a)):∃p q,e= .Call (.Name r p) [a] [] q:=by obtain⟨⟨x,as⟩,h1,h⟩:=bs h;obtain⟨b,B,c⟩:=map_some h;cases c;cases dA B;exact k6 h1
noncomputable def Cu:Option Expr->Option Key
 |some (.Constant c _ _)=>(match c with
  | .str k=>some (.inr k)
  | .int i=>some (.inl i)
  |_=>none)
 |_=>none
theorem uL{o:Option Expr}{k:Key}(h:Cu o=some k):∃c p q,o=some (.Constant c p q)/\((∃x,c=.str x/\k=.inr x)∨∃i,c=.int i/\k=.inl i):=by
 cases o with
 |none=>cases h
 |some e=>
  cases e with
  |Constant c _ _=>
   cases c with
   |str=>cases h;exact⟨_,_,_,rfl,.inl ⟨_,rfl,rfl⟩⟩
   |int=>cases h;exact⟨_,_,_,rfl,.inr ⟨_,rfl,rfl⟩⟩
   |_=>cases h
  |_=>cases h
noncomputable def so:List (Option Expr)->Option (List Key)
 |[]=>some []
 |k::r=>(Cu k).bind λx=>(so r).map (x:: ·)
noncomputable def d0:Expr->Bool
 | .Name .. =>true
 | .Attribute .. =>true
 | .Subscript .. =>true
 | .Call (.Attribute ..) .. =>true
 | .Call (.Name ..) (_::_) .. =>true
 |_=>false
noncomputable def oK(s:Str):Bool:=s== "pop"
noncomputable def Dg:List Comprehension->Option (Expr×Expr×List Expr)
 |[⟨t,it,ifs,k⟩]=>if k=0 then some (t,it,ifs) else none
 |_=>none
theorem wA{B:List Comprehension}{p:Expr×Expr×List Expr}(h:Dg B=some p):B=[⟨p.1,p.2.1,p.2.2,0⟩]:=by
 rcases B with _|⟨⟨t,it,ifs,k⟩,_|⟨c,l⟩⟩
 ·cases h
 ·obtain⟨h1,h⟩:=f6 h;cases h1;cases h;rfl
 ·cases h
def zg:Expr->Option (Str×Str)
 | .Tuple [a,b] _ _=>(A5 a).bind λx=>(A5 b).map λy=>(x,y)
 |_=>none
theorem sT{z:Str×Str}(h:zg e=some z):∃p q k r,e= .Tuple [.Name z.1 p,.Name z.2 q] k r:=by
 cases e with
 |Tuple l k r=>
  rcases l with _|⟨a,_|⟨b,_|⟨c,l⟩⟩⟩
  ·cases h
  ·cases h
  ·obtain⟨x,h1,h⟩:=bs h;obtain⟨y,B,rfl⟩:=map_some h;obtain⟨p,rfl⟩:=gF h1;obtain⟨q,rfl⟩:=gF B;exact⟨p,q,k,r,rfl⟩
  ·cases h
 |_=>cases h
noncomputable def Fc:Expr->Option (Option Expr×Option Expr)
 | .Slice lo hi st _=>(match st with
  |none=>some (lo,hi)
  |_=>none)
 |_=>none
theorem xA{q:Option Expr×Option Expr}(h:Fc e=some q):∃p,e= .Slice q.1 q.2 none p:=by
 cases e with
 |Slice lo hi st p=>
  cases st with
  |none=>cases h;exact⟨p,rfl⟩
  |some=>cases h
 |_=>cases h
def B4(sc:Scope)(e:Expr):Option (Expr×Expr):=(yQ e).bind λp=>if p.1= "zip" /\bA sc p.1=true then oi p.2 else none
theorem t6{z:Expr×Expr}(h:B4 sc e=some z):bA sc "zip"=true/\∃p q,e= .Call (.Name "zip" p) [z.1,z.2] [] q:=by obtain⟨⟨r,as⟩,h1,h⟩:=bs h;obtain⟨⟨e,c⟩,h⟩:=f6 h;cases e;cases gD h;exact⟨c,k6 h1⟩
def CK(sc:Scope)(e:Expr):Option Expr:=(sx e).bind λp=>if p.1= "range" /\bA sc p.1=true then some p.2 else none
theorem vj(h:CK sc e=some a):bA sc "range"=true/\∃p q,e= .Call (.Name "range" p) [a] [] q:=by obtain⟨⟨r,b⟩,h1,h⟩:=bs h;obtain⟨⟨e,c⟩,h⟩:=f6 h;cases h;cases e;exact⟨c,jj h1⟩
noncomputable def oN:Expr->Bool
 | .UnaryOp .USub (.Constant (.int i) _ _) _=>i==1
 |_=>false
theorem oM(h:oN e=true):∃k p q,e= .UnaryOp .USub (.Constant (.int 1) k p) q:=by
 unfold oN at h;split at h
 ·rename_i i k p q;have:i=1:=by simpa using h
  subst this;exact⟨k,p,q,rfl⟩
 ·cases h
def CL(sc:Scope)(e:Expr):Option Expr:=(yQ e).bind λp=>if p.1= "range" /\bA sc p.1=true then(match p.2 with
 |[a,b,c]=>if oN b=true/\oN c=true then some a else none
 |_=>none) else none
theorem vm(h:CL sc e=some a):bA sc "range"=true/\∃p q b c,e= .Call (.Name "range" p) [a,b,c] [] q/\oN b=true/\oN c=true:=by
 obtain⟨⟨r,as⟩,h1,h⟩:=bs h;obtain⟨⟨e,B⟩,h⟩:=f6 h;cases e;dsimp only at h;split at h
 ·obtain⟨⟨I,F⟩,h⟩:=f6 h;cases h;obtain⟨p,q,rfl⟩:=k6 h1;exact⟨B,p,q,_,_,rfl,I,F⟩
 ·cases h
def vZ(f:Str)(sc:Scope)(e:Expr):Option Expr:=(sx e).bind λp=>if p.1=f/\bA sc p.1=true then some p.2 else none
theorem iw{f:Str}(h:vZ f sc e=some a):bA sc f=true/\∃p q,e= .Call (.Name f p) [a] [] q:=by obtain⟨⟨r,b⟩,h1,h⟩:=bs h;obtain⟨⟨e,c⟩,h⟩:=f6 h;cases h;cases e;exact⟨c,jj h1⟩
def A9(m:Str):Expr->Option Expr
 | .Call (.Attribute o m' ap) as ks cp=>(match ks with
  |[]=>(match as with
   |[]=>if(m'==m&&(ap.endLine==cp.line)&&d0 o)=true then some o else none
   |_=>none)
  |_=>none)
 |_=>none
theorem oC{m:Str}(h:A9 m e=some o):∃ap cp,e= .Call (.Attribute o m ap) [] [] cp/\(ap.endLine==cp.line)=true/\d0 o=true:=by
 cases e with
 |Call f as ks cp=>
  cases f with
  |Attribute o m ap=>
   cases ks with
   |cons=>cases h
   |nil=>
    cases as with
    |cons=>cases h
    |nil=>
     obtain⟨c,h⟩:=f6 h;cases h;simp only[Bool.and_eq_true,beq_iff_eq] at c;obtain⟨⟨rfl,F⟩,B⟩:=c;exact⟨ap,cp,rfl,by simpa using F,B⟩
  |_=>cases h
 |_=>cases h
def Er(f:Str)(args:List Expr):Option Expr:=if f= "sorted" then(one args).bind λc=>A9 "items" c else none
def Ft(sc:Scope)(f:Str)(args:List Expr):Option Expr:=if f= "sorted" then(one args).bind λc=>vZ "set" sc c else none
noncomputable def xr:List (Str×Bool):=[("list",false),("tuple",true)]
noncomputable def isZero:Expr->Bool
 | .Constant (.int i) _ _=>i==0
 |_=>false
theorem qp(h:isZero e=true):∃k p,e= .Constant (.int 0) k p:=by
 cases e with
 |Constant c k p=>
  cases c with
  |int i=>
   have:i=0:=by simpa[isZero] using h
   subst this;exact⟨_,_,rfl⟩
  |_=>cases h
 |_=>cases h
mutual
noncomputable def cE(T:Tab)(n:Nat)(sc:Scope)(N:List Str)(e:Expr):Option Ex:=match n with
 |0=>none
 |n+1=>match e with
  | .Constant k _ _=>(match k with
   | .int i=>some (.c (.int i))
   | .str s=>some (.c (.str s))
   | .bool b=>some (.c (.bl b))
   | .none=>some (.c .non)
   |_=>none)
  | .Name x _=>(sc.names.lookup x).bind λk=>match k with
   | .local=>(gc N x).map .v
   | .cell=>(gc N x).map .v
   | .free=>(gc N x).map .v
   | .globalImplicit=>(T.csts.lookup x).map .c
   |_=>none
  | .Tuple es _ _=>if es.length<=1000 then(t5 T n sc N es).map .tup else none
  | .List es _=>if es.length<=1000 then(t5 T n sc N es).map .lst else none
  | .Dict ks vs _=>(match ks with
   |[]=>(match vs with
    |[]=>some .emp
    |_=>none)
   |k::ks=>(so (k::ks)).bind λks'=>(t5 T n sc N vs).bind λvs'=>if ks'.length=vs.length/\ks'.length<=15/\ks'.Nodup then some (.dict ks' vs') else none)
  | .BinOp a op b _=>(cE T n sc N a).bind λa'=>(DI op).bind λo=>(cE T n sc N b).map λb'=>.bin o a' b'
  | .UnaryOp op a _=>(match op with
   | .Not=>(cE T n sc N a).map .not
   |_=>none)
  | .BoolOp op es p=>(match es with
   |[]=>none
   |a::r=>match r with
    |[]=>cE T n sc N a
    |b::r=>(cE T n sc N a).bind λa'=>(cE T n sc N (.BoolOp op (b::r) p)).map λb'=>match op with
     | .And=>.and a' b'
     | .Or=>.or a' b')
  | .Compare a ops bs _=>(one ops).bind λop=>(one bs).bind λb=>(cE T n sc N a).bind λa'=>(cE T n sc N b).map λb'=>.cmp op a' b'
  | .IfExp c a b _=>(cE T n sc N c).bind λc'=>(cE T n sc N a).bind λa'=>(cE T n sc N b).map λb'=>.ite c' a' b'
  | .Subscript a b _=>(Fc b).elim (if ir b=true then(cE T n sc N a).bind λa'=>(cE T n sc N b).map λb'=>.ix a' b' else none)
   λq=>match q.1 with
    |none=>q.2.bind λh=>(cE T n sc N a).bind λa'=>(cE T n sc N h).map λh'=>.sl a' h' h' false true
    |some l=>(cE T n sc N a).bind λa'=>(cE T n sc N l).bind λl'=>match q.2 with
     |none=>some (.sl a' l' l' true false)
     |some h=>(cE T n sc N h).map λh'=>.sl a' l' h' true true
  | .Call f args kws cp=>(match kws with
   |[]=>(match f with
   | .Name f _=>if bA sc f=true then(Er f args).elim ((Ft sc f args).elim (match args with
     |[]=>none
     |a::as=>(gc T.fns f).elim ((T.mks.lookup f).elim ((BJ.lookup f).elim (if f= "isinstance" then(one as).bind λt'=>(A5 t').bind λt=>if bA sc t=true then(xr.lookup t).bind λtp=>(cE T n sc N a).map λa'=>.isi a' tp else none else none)
       λb=>if T.calm=true then(t5 T n sc N (a::as)).map (.bt b) else none)
       λj=>(t5 T n sc N (a::as)).map (.new f j))
       λi=>(t5 T n sc N (a::as)).map (.fn i))
     λo=>if T.calm=true then(cE T n sc N o).map .sset else none)
     λo=>if T.calm=true then(cE T n sc N o).map .sit else none
    else none
   | .Attribute o m ap=>if(d0 o&&(ap.endLine==cp.line)&&decide (args.length<29))=true then(cE T n sc N o).bind λo'=>
     if oK m=true then(match args with
      |[]=>some (.pop o' false)
      |_=>(one args).bind λa=>if isZero a=true then some (.pop o' true) else none)
     else if m= "get" then(one args).elim ((oi args).bind λz=>(cE T n sc N z.1).bind λb'=>(cE T n sc N z.2).map λc'=>.dget o' b' c') λb=>(cE T n sc N b).map λb'=>.dget1 o' b'
     else(t5 T n sc N args).map λas'=>.meth o' m (T.ims m) as' else none
   |_=>none)
   |_=>none)
  | .ListComp elt gens scope _=>(Dg gens).bind λq=>(A5 q.1).elim ((zg q.1).bind λz=>if dC sc scope N z.1 z.2=true/\T.calm=true then
     (cE T n (iW sc scope) (z.1::z.2::iN scope N) elt).bind λe'=>match q.2.2 with
      |[]=>(vZ "enumerate" sc q.2.1).elim ((cE T n sc N q.2.1).map λa'=>.compU a' e') λa=>(cE T n sc N a).map λa'=>.compE a' e'
      |_=>none
    else none)
    λx=>if T.calm=true/\cR sc scope N x=true then
     (sx q.2.1).elim (mj T n sc N false q.2.1 x elt q.2.2 scope) λra=>if ra.1= "range" /\bA sc ra.1=true then mj T n sc N true ra.2 x elt q.2.2 scope else mj T n sc N false q.2.1 x elt q.2.2 scope
    else none
  | .Attribute o f _=>if d0 o=true then(cE T n sc N o).map (λo'=>.fld o' f [] (T.ics f)) else none
  |_=>none
noncomputable def t5(T:Tab)(n:Nat)(sc:Scope)(N:List Str)(es:List Expr):Option (List Ex):=match n with
 |0=>none
 |n+1=>match es with
  |[]=>some []
  |e::r=>(cE T n sc N e).bind λe'=>(t5 T n sc N r).map λr'=>e'::r'
noncomputable def mj(T:Tab)(n:Nat)(sc:Scope)(N:List Str)(rng:Bool)(src:Expr)(x:Str)(elt:Expr)(ifs:List Expr)(scope:Scope):Option Ex:=match n with
 |0=>none
 |n+1=>(cE T n sc N src).bind λs'=>(cE T n (iW sc scope) (x::iN scope N) elt).bind λe'=>match ifs with
   |[]=>some (.comp rng s' e')
   |c::r=>(match r with
    |[]=>if rng=false then(cE T n (iW sc scope) (x::iN scope N) c).map λc'=>.compIf s' c' e' else none
    |_=>none)
end
structure LRel(K:aA)(H:Hp)(ι:Nat->Addr)(m:Nat)(loc:Loc)(σ:L2.St):Prop where
 len:loc.length=σ.length
 at_:∀(i:Nat)(d:D),loc[i]? =some (some d)->∃v:V,σ[i]? =some (some v)/\VRel K H ι m d v
theorem LRel.ext{K:aA}{H':Hp}{ι':Nat->Addr}{m':Nat}{loc:Loc}{σ:L2.St}(L:LRel K H ι m loc σ)(E:Ext H H' ι ι' m m'):LRel K H' ι' m' loc σ:=
 ⟨L.len,λi d e=>let⟨v,h1,h2⟩:=L.at_ i d e;⟨v,h1,h2.ext E⟩⟩
theorem LRel.cons{K:aA}{loc:Loc}{σ:L2.St}{d:D}{v:V}(L:LRel K H ι m loc σ)(r:VRel K H ι m d v):LRel K H ι m (some d::loc) (some v::σ):=
 ⟨by simp[L.len],λi e h=>by
  cases i with
  |zero=>
   have:d=e:=by simpa using h
   subst this;exact⟨v,rfl,r⟩
  |succ i=>simpa using L.at_ i e (by simpa using h)⟩
theorem LRel.set{K:aA}{loc:Loc}{σ:L2.St}{d:D}{v:V}(L:LRel K H ι m loc σ)(j:Nat)(r:VRel K H ι m d v):LRel K H ι m (loc.set j (some d)) (σ.set j (some v)):=
 ⟨by simp[L.len],λi e h=>by
  by_cases hj:j=i
  ·subst hj
   have c:j<loc.length:=by have:=(aw h).1;simpa using this
   rw[aO c] at h;cases h;exact⟨v,by rw[aO (by rw[<-L.len];exact c)],r⟩
  ·rw[aM hj] at h;obtain⟨w,h1,B⟩:=L.at_ i e h;exact⟨w,by rw[aM hj];exact h1,B⟩⟩
def tE(K:aA)(m:Loc->M D):TE:=λσ H Q=>∃ι st loc,Sim K H ι st/\LRel K H ι st.length loc σ/\cu K H ι st (m loc st) Q
def iM(K:aA)(H:Hp)(ι:Nat->Addr)(st:a9)(r:R D)(Q:Bool->Hp->Prop):Prop:=match r with
 | .ok (.bl k) st'=>∀H' ι',Ext H H' ι ι' st.length st'.length->Sim K H' ι' st'->Q k H'
 |_=>False
def tT(K:aA)(m:Loc->M D):TT:=λσ H Q=>∃ι st loc,Sim K H ι st/\LRel K H ι st.length loc σ/\iM K H ι st (m loc st) Q
def w9(K:aA)(H:Hp)(ι:Nat->Addr)(st:a9)(r:R (List D))(Q:List V->Hp->Prop):Prop:=match r with
 | .ok ds st'=>∀H' ι' vs,Ext H H' ι ι' st.length st'.length->Sim K H' ι' st'->VRels K H' ι' st'.length ds vs->Q vs H'
 | .bad=>False
def tA(K:aA)(m:Loc->M (List D)):TA:=λσ H Q=>∃ι st loc,Sim K H ι st/\LRel K H ι st.length loc σ/\w9 K H ι st (m loc st) Q
section
variable{K:aA}{H:Hp}{ι:Nat->Addr}{st:a9}{σ:L2.St}{loc:Loc}
theorem bi{m:Loc->M D}{d:D}(S:Sim K H ι st)(L:LRel K H ι st.length loc σ)(e:m loc st=.ok d st1)(k:∀H1 ι1 v,Ext H H1 ι ι1 st.length st1.length->Sim K H1 ι1 st1->VRel K H1 ι1 st1.length d v->Q v H1):tE K m σ H Q:=
 ⟨ι,st,loc,S,L,by rw[e];exact k⟩
theorem jl{m:Loc->M D}{Q:Bool->Hp->Prop}{b:Bool}(S:Sim K H ι st)(L:LRel K H ι st.length loc σ)(e:m loc st=.ok (.bl b) st1)(k:∀H1 ι1,Ext H H1 ι ι1 st.length st1.length->Sim K H1 ι1 st1->Q b H1):tT K m σ H Q:=
 ⟨ι,st,loc,S,L,by rw[e];exact k⟩
theorem j6{m:Loc->M (List D)}{Q:List V->Hp->Prop}{ds:List D}(S:Sim K H ι st)(L:LRel K H ι st.length loc σ)(e:m loc st=.ok ds st1)(k:∀H1 ι1 vs,Ext H H1 ι ι1 st.length st1.length->Sim K H1 ι1 st1->VRels K H1 ι1 st1.length ds vs->Q vs H1):tA K m σ H Q:=
 ⟨ι,st,loc,S,L,by rw[e];exact k⟩
theorem aY{m:M α}{f:α->M D}(P:cu K H ι st (a_ m f st0) Q):∃a st1,m st0=.ok a st1/\cu K H ι st (f a st1) Q:=by
 unfold a_ at P;cases e:m st0 with
 |ok a st1=>rw[e] at P;exact⟨a,st1,rfl,P⟩
 |bad=>rw[e] at P;exact P.elim
theorem dG{m:M α}{f:α->M D}{Q:Bool->Hp->Prop}(P:iM K H ι st (a_ m f st0) Q):∃a st1,m st0=.ok a st1/\iM K H ι st (f a st1) Q:=by
 unfold a_ at P;cases e:m st0 with
 |ok a st1=>rw[e] at P;exact⟨a,st1,rfl,P⟩
 |bad=>rw[e] at P;exact P.elim
theorem pE{m:M α}{f:α->M (List D)}{Q:List V->Hp->Prop}(P:w9 K H ι st (a_ m f st0) Q):∃a st1,m st0=.ok a st1/\w9 K H ι st (f a st1) Q:=by
 unfold a_ at P;cases e:m st0 with
 |ok a st1=>rw[e] at P;exact⟨a,st1,rfl,P⟩
 |bad=>rw[e] at P;exact P.elim
theorem bO{o:Option α}{a:α}(e:dI o st0=.ok a st1):o=some a/\st1=st0:=by
 unfold dI at e;cases o with
 |none=>cases e
 |some b=>cases e;exact⟨rfl,rfl⟩
theorem cg{x:D}{b:Bool}(e:eS x=some b):x=.bl b:=by cases x<;>cases e;rfl
theorem wg{x:D}{b:Int}(e:lu x=some b):x=.int b:=by cases x<;>cases e;rfl
theorem iM.inv{r:R D}{Q:Bool->Hp->Prop}(P:iM K H ι st r Q):∃b st1,r=.ok (.bl b) st1/\∀H' ι',Ext H H' ι ι' st.length st1.length->Sim K H' ι' st1->Q b H':=by
 unfold iM at P;split at P
 ·exact⟨_,_,rfl,P⟩
 ·exact P.elim
theorem iM.mono{r:R D}{Q:Bool->Hp->Prop}{H1:Hp}(P:iM K H ι st r Q)(E:Ext H H1 ι ι1 st.length st1.length):iM K H1 ι1 st1 r Q:=by obtain⟨b,c,rfl,k⟩:=P.inv;exact λH' ι' F B=>k H' ι' (E.trans F) B
end
theorem _root_.L2.PE.imp{X:Cx}{e:Expr}{t t':TE}(h:PE X e t)(k:∀σ H Q,t' σ H Q->t σ H Q):PE X e t':=λpins s σ H Q I q=>h pins s σ H Q I (k σ H Q q)
theorem _root_.L2.PT.imp{X:Cx}{e:Expr}{t t':TT}(h:PT X e t)(k:∀σ H Q,t' σ H Q->t σ H Q):PT X e t':=λpins s σ H Q I q=>h pins s σ H Q I (k σ H Q q)
theorem _root_.L2.PA.imp{X:Cx}{es:List Expr}{t t':TA}(h:PA X es t)(k:∀σ H Q,t' σ H Q->t σ H Q):PA X es t':=λpos pins s σ H Q I q=>h pos pins s σ H Q I (k σ H Q q)
def gW(K:aA)(E:XK)(H:Hp)(ι:Nat->Addr)(st:a9)(r:R Rs)(Q:VK):Prop:=match r with
 | .ok (.v d) st'=>∀H' ι' v,Ext H H' ι ι' st.length st'.length->Sim K H' ι' st'->VRel K H' ι' st'.length d v->Q v H'
 | .ok (.x n) st'=>∀H' ι',Ext H H' ι ι' st.length st'.length->Sim K H' ι' st'->E (.ref (ι' n)) none H'
 | .bad=>False
theorem gW.mono{K:aA}{E:XK}{r:R Rs}{H1:Hp}(P:gW K E H ι st r Q)(F:Ext H H1 ι ι1 st.length st1.length):gW K E H1 ι1 st1 r Q:=by
 cases r with
 |ok f st2=>
  cases f with
  |v d=>exact λH' ι' v B c I=>P H' ι' v (F.trans B) c I
  |x n=>exact λH' ι' B c=>P H' ι' (F.trans B) c
 |bad=>exact P
theorem gW.val{K:aA}{m:M Rs}{E:XK}(P:cu K H ι st (a_ m (λr=>dI r.val?) st1) Q):gW K E H ι st (m st1) Q:=by
 obtain⟨r,c,e,P⟩:=aY P;rw[e];cases r with
 |v d=>exact P
 |x n=>exact P.elim
def Cv(K:aA)(n:Nat)(f:List D->M Rs):Sp:=λvs H Q E=>vs.length=n/\∃ι st ds,Sim K H ι st/\VRels K H ι st.length ds vs/\gW K E H ι st (f ds st) Q
structure Ctx(T:Tab)(g:fR)(X:Cx)(sc:Scope)(N:List Str):Prop where
 sc:X.env.scope=sc
 n:X.N=N
 nd:N.Nodup
 nm:∀x∈N,(x==("__debug__":Str))=false/\(x==("__classdict__":Str))=false
 calm:T.calm=true->X.calm=true
 un:X.A.units+100<cLine
 fns:∀i f,T.fns[i]? =some f->(f==("__debug__":Str))=false/\∃a fd ps k,X.mg f=some (.ref a)/\PySem.W.keepIn X.K (.ref a)=true/\Binds X.K fd ps []/\Room k X.A/\(∀ds st,ds.length≠ps.length->g i ds st=R.bad)/\FnOk X.prog X.w X.K X.mg X.base (pK X.prog X.w) k a fd ps (Cv X.K ps.length (g i))
 csts:∀x d,T.csts.lookup x=some d->(x==("__debug__":Str))=false/\∃u v,X.mg x=some u/\RelV v u/\∀H ι m,VRel X.K H ι m d v
 blt:∀x∈tV,X.mg x=none
 icl:∀c∈T.icl,∃C,PySem.W.nsIn X.K mainGlobals c.x=some (some (.ref C))/\Cls X.K C/\(∀f∈c.flds,fJ X.K C f)/\(∀m j,(m,j)∈c.mts->∃a fd ps k,Meth X.K C m a/\Binds X.K fd ps []/\Room k X.A/\(∀ds st,ds.length≠ps.length->g j ds st=R.bad)/\FnOk X.prog X.w X.K X.mg X.base (pK X.prog X.w) k a fd ps (Cv X.K ps.length (g j)))
 mks:∀x j,(x,j)∈T.mks->(x==("__debug__":Str))=false/\∃C a fd ps k,PySem.W.nsIn X.K mainGlobals x=some (some (.ref C))/\X.mg x=some (.ref C)/\Mk X.K C a/\Binds X.K fd ps []/\Room (k+1) X.A/\(∀ds st,ds.length≠ps.length->g j ds st=R.bad)/\FnOk X.prog X.w X.K X.mg X.base (pK X.prog X.w) k a fd ps (Cv X.K ps.length (g j))
end Ev
namespace L2
open PySem PySem.Spec PyProof.Rows
variable{p pos:Pos}
noncomputable def E_(K:aA)(a:Addr)(n:Nat):It:=
 ⟨λi H=>i<n/\∃xs x,dD K H a xs/\xs[n - 1 - i]? =some x,λi H x H'=>H'=H/\∀xs,dD K H a xs->xs[n - 1 - i]? =some x,λi _=>n=i⟩
theorem uD{P:Program}{w:World}{K:aA}{tg:Expr}(a it:Addr)(n:Nat):Turn P w K tg (E_ K a n) [it] it (λi h=>h.IsRevIter it a ((n:Int) - 1 - (i:Int))) where
 mem:=by simp
 obj:=λi h st b B=>by
  have e:b=it:=by simpa using B
  subst e;obtain⟨o,e,c,d⟩:=st;exact⟨o,e,λv z=>by rw[d] at z;cases z⟩
 keep:=λi h h' st k=>st.at λo e=>k it (by simp) o e
 item:=by
  intro X Z Y hK hc i pins s σ H E I J st F;subst Z Y hK;obtain⟨hi,xs,x,hq,hx⟩:=F;obtain⟨its,rv,p,hz⟩:=I.list hq;obtain⟨u,hu,ru⟩:=rv.get hx;obtain⟨f0,f1,f2,f3,f4,f5⟩:=J it (by simp)
  have e:(n:Int) - 1 - (i:Int)=((n - 1 - i:Nat):Int):=by omega
  rw[e] at st;refine wpAny_pyNext_rev_item st p.isList (x:=u) (by simpa using hu) λh' st' sb=>?_
  have I1:Inv X pins σ H {s with heap:=h'}:=I.turned (t':=s.toks) (λb o B e=>(sb.2 b B).trans e) f0 f1 f3 f4 f5
  have U:h'.IsRevIter it a ((n:Int) - 1 - ((i+1:Nat):Int)):=by
   have:(n:Int) - 1 - ((i+1:Nat):Int)=((n - 1 - i:Nat):Int) - 1:=by omega
   rw[this];exact st'
  obtain⟨o,e,c,d⟩:=id st';exact⟨u,rfl,o7 (s:={s with heap:=h'}) e c d (by decide) ⟨x,H,I1,ru,⟨rfl,λys hy=>by rw[I.list_inj hy hq];exact hx⟩,U,λb B=>(J b B).1⟩⟩
 done:=by
  intro X Z Y hK hc i pins s σ H E I J st F;subst Z Y hK;have F:n=i:=F;obtain⟨f0,f1,f2,f3,f4,f5⟩:=J it (by simp)
  have e:(n:Int) - 1 - (i:Int)= -1:=by omega
  rw[e] at st;exact wpAny_pyNext_rev_end (I.ok.hd hc) st λh' eb=>⟨rfl,I.turned (t':=s.toks) (λb o B e=>eb b o B e) f0 f1 f3 f4 f5⟩
 self:=λ_ _ _ _ _ st h=>wpAny_pyIter_revIter st h
section
variable{X:Cx}{tg:Expr}
def EJ(K:aA)(ta:TA):TI:=λσ H R=>ta σ H λvs H1=>∃a xs,vs=[.ref a]/\dD K H1 a xs/\R (E_ K a xs.length) H1
theorem wW:bootBuiltins "reversed"=some (.type "reversed"):=by decide+kernel
theorem AG{a:Expr}{ta:TA}(hg:Gl X "reversed")(Y:X.mg "reversed"=none)(ha:PA X [a] ta)(hs:starEach [a] X.env=[(false,eval a X.env)]):PI X tg (.Call (.Name "reversed" p) [a] [] pos) (EJ X.K ta):=by
 intro pins s σ H R I h;refine Call_ (et I hg Y wW (aX (bW (ha pos pins s σ H _ I h) λus B ⟨vs,H1,I1,r1,q1⟩=>?_) hs rfl));obtain⟨b,xs,e,U,q⟩:=q1;subst e;obtain⟨u,rfl,F⟩:=vals1 r1;cases F;obtain⟨its,rv,J,hz⟩:=I1.list U;have Z:=rv.length;refine call_reversed_list J.isList ?_;have I2:=I1.kept (t':=B.toks) (h':=B.heap.push (revObj b ((its.toArray.size:Int) - 1))) λb q z=>ae _ z
 have st:(B.heap.push (revObj b ((its.toArray.size:Int) - 1))).IsRevIter B.heap.objs.size b ((xs.length:Int) - 1 - ((0:Nat):Int)):=by
  rw[show(xs.length:Int) - 1 - ((0:Nat):Int)=(its.toArray.size:Int) - 1 by rw[List.size_toArray,Z];omega]
  exact⟨_,aq _ rfl,rfl,rfl⟩
 refine wpAny_pyIter_revIter st ⟨B.heap.objs.size,[B.heap.objs.size],_,_,H1,rfl,I2,uD b _ xs.length,st,λc hb=>?_,q⟩;have e:c=B.heap.objs.size:=by simpa using hb
 subst e;exact I1.fpOk (ac _) (I1.hok.fresh (ac _))
noncomputable def Fa(lo:Int)(n:Nat):It:=⟨λi _=>i<n,λi H x H'=>H'=H/\x=.int (lo - i),λi _=>n<=i⟩
theorem sG{P:Program}{w:World}{K:aA}{tg:Expr}(it:Addr)(lo:Int)(n:Nat):Turn P w K tg (Fa lo n) [it] it (λi h=>IsRangeIter h it (lo+(i:Nat)*(-1)) ((n:Int) - (i:Nat)) (-1)) where
 mem:=by simp
 obj:=λi h st b c=>by
  have e:b=it:=by simpa using c
  subst e;exact⟨_,st,λv z=>nomatch (show Data.fields _=Data.cell v from z)⟩
 keep:=λi h h' st k=>k it (by simp) _ st
 item:=by
  intro X Y F Z U i pins s σ H E I B st J;subst Y F Z;obtain⟨f0,f1,f2,f3,f4,f5⟩:=B it (by simp)
  refine(Walks.range (prog:=X.prog) (w:=X.w) (I.ok.hd U) it lo (-1) n).item i s _ _ J st λv h' tk hv st' kk=>?_;obtain⟨t,rfl⟩:=hv;have I1:Inv X pins σ H {s with heap:=h',toks:=tk}:=I.turned (λb o c e=>kk b o (by simpa using c) e) f0 f1 f3 f4 f5
  refine⟨_,rfl,o7 (s:={s with heap:=h',toks:=tk}) (n:= "range_iterator") st' rfl rfl (by decide) ⟨.int (lo - i),H,I1,⟨t,?_⟩,⟨rfl,rfl⟩,st',λb c=>(B b c).1⟩⟩
  rw[show lo - (i:Int)=lo+(i:Int)*(-1) by omega]
 done:=by
  intro X Y F Z U i pins s σ H E I B st J;subst Y F Z;obtain⟨f0,f1,f2,f3,f4,f5⟩:=B it (by simp)
  exact wpAny_pyNext_range_end (I.ok.hd U) st (by have:n<=i:=J;omega) λh' eb=>⟨rfl,I.turned (t':=s.toks) (λb o c e=>eb b o c e) f0 f1 f3 f4 f5⟩
 self:=λ_ _ _ _ _ st h=>wpAny_pyIter_rangeiter st h
def De(ta:TA):TI:=λσ H R=>ta σ H λvs H1=>∃i:Int,vs=[.int i,.int (-1),.int (-1)]/\ -1000000<=i/\i<=1000000/\R (Fa i (i+1).toNat) H1
theorem lK(a:Int):Builtin.Range.rangeSize a (-1) (-1)=((a+1).toNat:Nat):=by
 unfold Builtin.Range.rangeSize;rw[if_neg (by decide)]
 split<;>simp<;>omega
theorem small_down{a:Int}(h1: -1000000<=a)(F:a<=1000000):Builtin.Range.small a (-1) (-1)=true:=by
 unfold Builtin.Range.small;rw[lK];have B:(((a+1).toNat:Nat):Int)<=1000001:=by omega
 have c:0<=(((a+1).toNat:Nat):Int):=by omega
 generalize (((a+1).toNat:Nat):Int)=b at*;simp only[Builtin.Range.rangeFitsLong,Bool.and_eq_true,Bool.or_eq_true,decide_eq_true_eq,beq_iff_eq];exact⟨by omega,.inr (by decide)⟩
theorem xY{a b c:Expr}{ta:TA}(Z:Gl X "range")(Y:X.mg "range"=none)(ha:PA X [a,b,c] ta)(hs:starEach [a,b,c] X.env=(false,eval a X.env)::starEach [b,c] X.env)(J:∀pos,(backTo pos (starEach [b,c] X.env)).any (·.1)=false):
  PI X tg (.Call (.Name "range" p) [a,b,c] [] pos) (De ta):=by
 intro pins s σ H R I h;refine Call_ (et I Z Y boot_range (aX (bW (ha pos pins s σ H _ I h) λus F ⟨vs,H1,I1,r1,q1⟩=>?_) hs (J _)));obtain⟨i,e,q1,q2,q⟩:=q1;subst e;cases r1 with
 |cons r rr=>
  cases rr with
  |cons r' rr=>
   cases rr with
   |cons r'' rr=>
    cases rr;obtain⟨t,rfl⟩:=r;obtain⟨t',rfl⟩:=r';obtain⟨B,rfl⟩:=r'';refine call_range_3 (by decide) ?_ (.inl (PyProof.noPylong_small (by omega)))
    have U:Inv X pins σ H1 {F with heap:=F.heap.push {cls:= .type "range",data:= .fields #[.int i t,.int (-1) t',.int (-1) B]},toks:=F.toks}:=I1.kept λb o e=>ae _ e;refine wpAny_pyIter_range (IsRange.new ..) (small_down q1 q2) ?_;refine⟨_,[(F.heap.push {cls:= .type "range",data:= .fields #[.int i t,.int (-1) t',.int (-1) B]}).objs.size],_,_,H1,rfl,U.kept (t':=F.toks) λb o e=>ae _ e,sG _ i (i+1).toNat,?_,λb hb=>?_,q⟩
    ·show IsRangeIter _ _ (i+((0:Nat):Int)*(-1)) ((((i+1).toNat:Nat):Int) - ((0:Nat):Int)) (-1);rw[show i+((0:Nat):Int)*(-1)=i by simp,show(((i+1).toNat:Nat):Int) - ((0:Nat):Int)=Builtin.Range.rangeSize i (-1) (-1) by rw[lK];simp]
     exact aq _ rfl
    ·have e:b=(F.heap.push {cls:= .type "range",data:= .fields #[.int i t,.int (-1) t',.int (-1) B]}).objs.size:=by simpa using hb
     subst e;exact U.fpOk (ac _) (U.hok.fresh (ac _))
def Ej(td ty tx:TE):TE:=λσ H Q=>td σ H λx H1=>∃a,x=.ref a/\D4 H1 a/\ty σ H1 λy H2=>tx σ H2 λz H3=>∃kvs k,H3 a=some (.dK kvs)/\y=kV k/\kvs.length<sizeLine/\match d9 kvs k with
 |some w=>Q w H3
 |none=>Q z (upd H3 a (.dK (putK kvs k z)))
theorem AS{o e f:Expr}{apos cpos:Pos}{td ty tx:TE}(ho:PE X o td)(J:PE X e ty)(hf:PE X f tx)(m:M2 X o "setdefault" apos e f cpos):PE X (.Call (.Attribute o "setdefault" apos) [e,f] [] cpos) (Ej td ty tx):=by
 intro pins s σ H Q I h;refine wpAny_Call_method m.base m.few m.line PySem.F.plainAttrs_dict PySem.F.slot_dict_setdefault PySem.F.type_dict_setdefault (bW (ho pins s σ H _ I h) λu s1 hp=>?_);obtain⟨x,H1,Y,rx,a,ex,d,q1⟩:=hp;subst ex;obtain rfl:u=Value.ref a:=rx;obtain⟨t1,t2,_⟩:=hZ Y d;refine⟨t1,t2,?_⟩;rw[m.trees];refine Calls.callWith_builtin rfl (Calls.evalArgs_plain (Calls.spliced_cons (bW (J pins s1 σ H1 _ Y q1) λiv s2 ⟨y,H2,I2,ry,q2⟩=>Calls.spliced_cons (bW (hf pins s2 σ H2 _ I2 q2) λfv s3 ⟨z,H3,I3,rz,kvs,k,ea,ey,hz,q3⟩=>Calls.spliced_nil ?_))));subst ey;obtain⟨Z,hd,vs,rel,U⟩:=sq I3.hok ea;have rk:=rel.val k;refine call_meetsIn PySem.F.slot_dict_setdefault U.typeIs PySem.F.entry_dict_setdefault (PySem.F.args_dict_setdefault_3 _ _ _) (kt_meets_setdefault (bg X.prog X.w) a (gQ ry) hd fv) ⟨vs,U,by rw[<-rel.length];exact Z,λw B=>?_,λB h' c hs=>?_⟩
 ·rw[B] at rk;cases hv:d9 kvs k with
  |none=>rw[hv] at rk;exact rk.elim
  |some v=>rw[hv] at rk q3;exact⟨v,H3,I3.tok _,rk,q3⟩
 ·rw[B] at rk;cases hv:d9 kvs k with
  |some v=>rw[hv] at rk;exact rk.elim
  |none=>
   rw[hv] at q3;have J:∃q,h'.get? a=some q:=let⟨q,_,_,hq,_⟩:=c;⟨q,hq⟩;exact⟨z,_,jV I3 (by rw[ea];exact True.intro) hs J (kS (by have:=dE kvs k z;omega) hd (rel.put k rz) c),rz,q3⟩
end
end L2
namespace Ev
open PySem PySem.Spec PyProof.Rows L2
variable{m0 n:Nat}{ι0:Nat->Addr}
def Dc(K:aA)(tl:TE):TI:=λσ H R=>tl σ H λx H1=>∃a,x=.ref a/\(((∃xs,dD K H1 a xs)/\R (D3 K a) H1)∨((∃xs,fP K H1 a xs)/\R (E8 K a) H1))
theorem mU{X:Cx}{tg l:Expr}{tl:TE}(hl:PE X l tl):PI X tg l (Dc X.K tl):=by
 intro pins s σ H R I h;refine bW (hl pins s σ H _ I h) λv c Z=>?_;obtain⟨x,H1,B,U,q1⟩:=Z;obtain⟨a,rfl,⟨⟨xs,F⟩,q⟩|⟨⟨xs,F⟩,q⟩⟩:=q1
 ·cases U;obtain⟨its,rv,p,Y⟩:=B.list F;refine wpAny_pyIter_list p.isList ?_;refine⟨c.heap.objs.size,[c.heap.objs.size],_,_,H1,rfl,B.kept (t':=c.toks) λb o e=>ae _ e,sE a _,⟨_,aq _ rfl,rfl,rfl⟩,λb J=>?_,q⟩;have e:b=c.heap.objs.size:=by simpa using J
  subst e;exact B.fpOk (ac _) (B.hok.fresh (ac _))
 ·cases U;obtain⟨its,rv,p,Y⟩:=B.tuple F;refine wpAny_pyIter_tuple (show c.heap.IsTuple a its.toArray from p) ?_;refine⟨c.heap.objs.size,[c.heap.objs.size],_,_,H1,rfl,B.kept (t':=c.toks) λb o e=>ae _ e,pQ a _,⟨_,aq _ rfl,rfl,rfl⟩,λb J=>?_,q⟩;have e:b=c.heap.objs.size:=by simpa using J
  subst e;exact B.fpOk (ac _) (B.hok.fresh (ac _))
def c_(K:aA)(J:It)(s:Src)(H0:Hp)(ι0:Nat->Addr)(m0:Nat):Prop:=∀H ι st i,Ext H0 H ι0 ι m0 st.length->Sim K H ι st->
 (eK s i st=some none->J.stop i H)/\∀x,eK s i st=some (some x)->J.go i H/\∀v H',J.yld i H v H'->H'=H/\VRel K H ι st.length x v
theorem c_.tup{K:aA}{a:Addr}{c:Hp}{xs:List D}{vs:List V}(h:fP K c a vs)(r:VRels K c ι0 m0 xs vs):c_ K (E8 K a) (.its xs) c ι0 m0:=λH ι st i E S=>by
 have l:=r.length;have h':=fP.ext E.toExt0 h;refine⟨λe=>?_,λx e=>?_⟩
 ·have e:xs[i]? =none:=ai e;exact⟨vs,h',by have:=List.getElem?_eq_none_iff.mp e;omega⟩
 ·have e:xs[i]? =some x:=ai e;obtain⟨v,B,rv⟩:=(r.ext E).get e;refine⟨⟨vs,v,h',B⟩,λw H' y=>⟨y.1,?_⟩⟩;have:=y.2 vs h';rw[B] at this;cases this;exact rv
theorem c_.fl{K:aA}{a:Addr}{c:Hp}{xs:List D}{vs:List V}(h:xi K c a vs)(r:VRels K c ι0 m0 xs vs):c_ K (D3 K a) (.its xs) c ι0 m0:=λH ι st i E S=>by
 have l:=r.length;have h':=(xi.ext E.toExt0 h).sql;refine⟨λe=>?_,λx e=>?_⟩
 ·have e:xs[i]? =none:=ai e;exact⟨vs,h',by have:=List.getElem?_eq_none_iff.mp e;omega⟩
 ·have e:xs[i]? =some x:=ai e;obtain⟨v,B,rv⟩:=(r.ext E).get e;refine⟨⟨vs,v,h',B⟩,λw H' y=>⟨y.1,?_⟩⟩;have:=y.2 vs h';rw[B] at this;cases this;exact rv
theorem c_.ref{K:aA}{I:Hp}(F:n<m0):c_ K (D3 K (ι0 n)) (.at n) I ι0 m0:=λH ι st i E S=>by
 simp only[eK];cases q:st[n]? with
 |none=>exact⟨λe=>(by cases e),λx e=>(by cases e)⟩
 |some o=>
  have c:=S.ob n o q;rw[E.ad n F] at c;cases o with
  |dct kvs=>exact⟨λe=>(by cases e),λx e=>(by cases e)⟩
  |ins _ _=>exact⟨λe=>(by cases e),λx e=>(by cases e)⟩
  |lst xs=>
   obtain⟨vs,h1,r⟩:=c;have l:=r.length;have h':dD K H (ι0 n) vs:=dD.of h1;refine⟨λe=>?_,λx e=>?_⟩
   ·have e:xs[i]? =none:=ai e;exact⟨vs,h',by have:=List.getElem?_eq_none_iff.mp e;omega⟩
   ·have e:xs[i]? =some x:=ai e;obtain⟨v,B,rv⟩:=r.get e;refine⟨⟨vs,v,h',B⟩,λw H' y=>⟨y.1,?_⟩⟩;have:=y.2 vs h';rw[B] at this;cases this;exact rv
theorem c_.rng{K:aA}{B:Hp}{k:Nat}:c_ K (D2 0 k) (.its (bN k)) B ι0 m0:=λH ι st i E S=>by
 refine⟨λe=>?_,λx e=>?_⟩
 ·have e:(bN k)[i]? =none:=ai e;show k<=i;have:=List.getElem?_eq_none_iff.mp e;simpa[bN] using this
 ·have e:(bN k)[i]? =some x:=ai e
  have hi:i<k:=by have:=(aw e).1;simpa[bN] using this
  have c:x=.int (i:Int):=by
   have:(bN k)[i]? =some (.int (i:Int)):=by simp[bN,hi]
   rw[this] at e;exact(ai e).symm
  subst c;refine⟨hi,λv H' y=>⟨y.1,?_⟩⟩;have:v=.int (0+(i:Int)):=y.2;rw[this,Int.zero_add];exact .int _
theorem c_.down{K:aA}{B:Hp}{k:Nat}{lo:Int}:c_ K (Fa lo k) (.its (eO lo k)) B ι0 m0:=λH ι st i E S=>by
 refine⟨λe=>?_,λx e=>?_⟩
 ·have e:(eO lo k)[i]? =none:=ai e;show k<=i;have:=List.getElem?_eq_none_iff.mp e;simpa[eO] using this
 ·have e:(eO lo k)[i]? =some x:=ai e
  have hi:i<k:=by have:=(aw e).1;simpa[eO] using this
  have c:x=.int (lo - (i:Int)):=by
   have:(eO lo k)[i]? =some (.int (lo - (i:Int))):=by simp[eO,hi]
   rw[this] at e;exact(ai e).symm
  subst c;refine⟨hi,λv H' y=>⟨y.1,?_⟩⟩;have:v=.int (lo - (i:Int)):=y.2;rw[this];exact .int _
theorem c_.rev{K:aA}{k:Nat}{U:Hp}(J:n<m0):c_ K (E_ K (ι0 n) k) (.rv n k) U ι0 m0:=λH ι st i E S=>by
 simp only[eK];cases q:st[n]? with
 |none=>exact⟨λe=>(by cases e),λx e=>(by cases e)⟩
 |some o=>
  have c:=S.ob n o q;rw[E.ad n J] at c;cases o with
  |dct _|ins _ _=>exact⟨λe=>(by cases e),λx e=>(by cases e)⟩
  |lst xs=>
   obtain⟨vs,h1,r⟩:=c;have h':dD K H (ι0 n) vs:=dD.of h1;dsimp only;by_cases hk:i=k
   ·rw[if_pos hk];exact⟨λ_=>hk.symm,λx e=>nomatch ai e⟩
   ·rw[if_neg hk];by_cases hl:i<k
    ·rw[if_pos hl];cases e2:xs[k - 1 - i]? with
     |none=>exact⟨λe=>(by cases e),λx e=>(by cases e)⟩
     |some y=>refine⟨λe=>(nomatch ai e),λx e=>?_⟩;have e:y=x:=ai (ai e);subst e;obtain⟨v,B,rv⟩:=r.get e2;refine⟨⟨hl,vs,v,h',B⟩,λw H' F=>?_⟩;obtain⟨rfl,I⟩:=F;have:=I vs h';rw[B] at this;cases this;exact⟨rfl,rv⟩
    ·rw[if_neg hl];exact⟨λe=>(by cases e),λx e=>(by cases e)⟩
structure EltOk(K:aA)(tc:TT)(te:TE)(f:Loc->D->M (Option D)):Prop where
 turn:∀{H:Hp}{ι:Nat->Addr}{st st1:a9}{loc:Loc}{σ:L2.St}{x:D}{v:V}{o:Option D}{Q:Option V->Hp->Prop},Sim K H ι st->LRel K H ι st.length loc σ->VRel K H ι st.length x v->f loc x st=.ok o st1->
  (∀H1 ι1 w,Ext H H1 ι ι1 st.length st1.length->Sim K H1 ι1 st1->(match o,w with|some y,some z=>VRel K H1 ι1 st1.length y z|none,none=>True|_,_=>False)->Q w H1)->
  tc (some v::σ) H λb H3=>if b=true then te (some v::σ) H3 λy H4=>Q (some y) H4 else Q none H3
end Ev
namespace L2
open PySem PySem.Spec PyProof.Rows
variable{fp:List Addr}{s:Shared}{pins:List (Addr×Obj)}{scope:Scope}{x y:Str}
theorem Inv.turnLaid{X:Cx}{σ:St}{H:Hp}{h':Heap}{t':Nat}{p:Addr}{xs:List V}(I:Inv X pins σ H s)(Z:∀b∈fp,eZ X pins H b)
  (k:∀b o,b∉fp->s.heap.get? b=some o->h'.get? b=some o)(hp:s.heap.objs.size<=p)(new:cj X.prog X.w (upd H p (.tup xs)) h' p (.tup xs)):Inv X pins σ (upd H p (.tup xs)) {s with heap:=h',toks:=t'}:=by
 have J:H p=none:=I.hok.fresh hp;have F:∀b u,H b=some u->b∉fp:=λb u e z=>by rw[(Z b z).1] at e;cases e
 have Y:∀{b:Addr}{o:Obj},s.heap.get? b=some o->b≠p:=λe=>au (az (am e) hp)
 refine I.step (g':=s.gens) (d':=s.drawn) (ch:=fp) (λb U=>?_) (λb o _ _ B e _=>k b o B e) (λb o _ _ B e _=>⟨o.slots,k b o B e⟩) (λb o _ e n=>by rw[aL (Y e)];exact n)
  (λb o B e=>⟨o,k b o B e⟩) (λb ys e=>by rw[aL (aJ e J)];exact e) (λb o u e=>by rw[aL (aJ e J)];exact e) (λb ps e=>⟨#[],by rw[aL (aJ e J),e];simp⟩) (λm hm=>?_) (λb u e=>?_) I.bare
 ·obtain⟨f0,f1,f2,f3,f4,f5⟩:=Z b U;exact⟨f3,f1,f4,f5⟩
 ·obtain⟨o,es,ep,ho,r⟩:=hm;exact⟨o,es,ep,k _ o (λz=>(Z _ z).2.1 rfl) ho,r⟩
 ·by_cases U:b=p
  ·subst U;rw[bF] at e;cases e;exact new
  ·rw[aL U] at e;refine(I.hok b u e).stay (λc v B q=>k c v ?_ q) (λc q=>by rw[aL (aJ q J)];exact q) λc ys q=>by rw[aL (aJ q J)];exact q
   rcases B with z|z
   ·rw[z];exact F b u e
   ·exact F c _ z
noncomputable def E9(K:aA)(a:Addr):It:=
 ⟨λi H=>∃xs x,dD K H a xs/\xs[i]? =some x,
  λi H v H'=>∃p x,v=.ref p/\H p=none/\H'=upd H p (.tup [.int (i:Int),x])/\∀xs,dD K H a xs->xs[i]? =some x,
  λi H=>∃xs,dD K H a xs/\xs.length<=i⟩
noncomputable def EN(e it a:Addr)(i:Nat)(h:Heap):Prop:=(∃old,IsEnum h e it (i:Int) old)/\h.IsListIter it a i
theorem sF{P:Program}{w:World}{K:aA}{elts:List Expr}{k:Nat}{pos:Pos}(a e it:Addr)(Y:e≠it):Turn P w K (.Tuple elts k pos) (E9 K a) [e,it] e (EN e it a) where
 mem:=by simp
 obj:=λi h st b B=>by
  obtain⟨⟨old,U⟩,o,ho,c,d⟩:=st;rcases List.mem_cons.mp B with rfl|B
  ·exact⟨_,U,λv z=>by have z':Data.fields _=Data.cell v:=z;cases z'⟩
  ·have:b=it:=by simpa using B
   subst this;exact⟨o,ho,λv z=>by rw[d] at z;cases z⟩
 keep:=λi h h' ⟨⟨old,U⟩,st⟩ kk=>⟨⟨old,kk e (by simp) _ U⟩,st.at λo q=>kk it (by simp) o q⟩
 item:=by
  intro X hP hw hK hc i pins s σ H E I hf st hg;subst hP hw hK;obtain⟨⟨old,U⟩,J⟩:=st;obtain⟨xs,x,hq,hx⟩:=hg;obtain⟨its,rv,p,hz⟩:=I.list hq;obtain⟨u,hu,ru⟩:=rv.get hx;refine wpAny_pyNext_enum_item U J p.isList (x:=u) (by simpa using hu) Y λh1 heo Z ht1 hz1 hk1=>?_
  refine⟨_,rfl,wpAny_letOwnedTupleGo_enum heo λh2 he2 F=>?_⟩
  replace F:Heap.SameBut e h1 h2:=F
  have lt:=am U;have ht2:h2.get? s.heap.objs.size=some {cls:= .type "tuple",data:= .seq #[.int i s.toks,u]}:=(F.2 _ (bp lt)).trans ht1;have hn:H s.heap.objs.size=none:=I.hok.fresh (ac _)
  have I2:Inv X pins σ (upd H s.heap.objs.size (.tup [.int (i:Int),x])) {s with heap:=h2,toks:=s.toks+1}:=by
   refine I.turnLaid (fp:=[e,it]) hf (λb o B q=>?_) (ac _) ⟨(by show 2<=sizeLine;decide),[.int i s.toks,u],.cons ⟨_,rfl⟩ (.cons ru .nil),?_⟩
   ·have hbe:b≠e:=λz=>B (by simp[z])
    have hbi:b≠it:=λz=>B (by simp[z])
    exact(F.2 b hbe).trans (hk1 b o hbe hbi q)
   ·exact⟨_,ht2,⟨rfl,rfl⟩,_,rfl⟩
  refine⟨.ref s.heap.objs.size,_,I2,rfl,⟨_,x,rfl,hn,rfl,λys hy=>by rw[I.list_inj hy hq];exact hx⟩,⟨⟨u,?_⟩,?_⟩,λb B=>?_⟩
  ·have:((i+1:Nat):Int)=(i:Int)+1:=by omega
   rw[this];exact he2
  ·exact Z.at λo q=>(F.2 it (Ne.symm Y)).trans q
  ·obtain⟨f0,_⟩:=hf b B
   have:b≠s.heap.objs.size:=by
    rcases List.mem_cons.mp B with rfl|B
    ·exact au lt
    ·have:b=it:=by simpa using B
     subst this;obtain⟨o,ho,_⟩:=J;exact au (am ho)
   rw[aL this];exact f0
 done:=by
  intro X hP hw hK hc i pins s σ H E I hf st hg;subst hP hw hK;obtain⟨⟨old,U⟩,J⟩:=st;obtain⟨xs,hq,hx⟩:=hg;obtain⟨its,rv,p,hz⟩:=I.list hq;obtain⟨f0,f1,f2,f3,f4,f5⟩:=hf it (by simp)
  have hl:=rv.length;exact wpAny_pyNext_enum_end (I.ok.hd hc) U J p.isList (by simp;omega) λh' eb=>⟨rfl,I.turned (t':=s.toks) (λb o B e=>eb b o B e) f0 f1 f3 f4 f5⟩
 self:=λ_ _ _ _ _ st h=>wpAny_pyIter_enum st.1.choose_spec h
def bx(X:Cx)(x y:Str)(scope:Scope)(fp:List Addr)(s:Shared)(H:Hp):Cx:={bJ X x scope fp s H with N:=x::y::iN scope X.N}
theorem wS{X:Cx}{σ:St}{H:Hp}(I:Inv X pins σ H s)(C:CompScope X x scope)(c:∀b∈fp,eZ X pins H b)(ho:∀b∈fp,∃o,s.heap.get? b=some o):
  (bx X x y scope fp s H).Ok:=by
 have h:=gH I C c ho;exact⟨h.mod,h.kind,h.glob,h.blt,h.above,h.inj,h.has,h.cab,h.hd,h.frames,h.stk,h.exf,h.bs,h.bsz,h.noex,h.exfs,h.funs,h.frf⟩
theorem tQ{X:Cx}{σ:St}{H:Hp}{h':Heap}{tk:Nat}{m:Str->Option Value}(I:Inv X pins σ H s)(C:CompScope X x scope)(F:∀b∈fp,eZ X pins H b)(ho:∀b∈fp,∃o,s.heap.get? b=some o)
  (U:h'.Ns s.heap.objs.size m)(k:∀b o,s.heap.get? b=some o->h'.get? b=some o):Inv (bx X x y scope fp s H) pins (none::none::σ) H {s with heap:=h',toks:=tk}:=by
 have J:=pw (x:=x) (scope:=scope) (fp:=fp) (h':=h') (tk:=tk) I C F ho U k;refine⟨wS I C F ho,J.os,J.bare,J.base,?_,J.cell,J.free,J.freeC,J.pin,J.hok,?_⟩
 ·obtain⟨m',c,Y⟩:=J.loc;refine⟨m',c,λi z v h1 B Z=>?_⟩;cases i with
  |zero=>simp at B
  |succ i=>
   cases i with
   |zero=>simp at B
   |succ i=>exact Y (i+1) z v (by simpa[bJ,bx] using h1) (by simpa using B) Z
 ·show(none::none::σ).length=(x::y::iN scope X.N).length;rw[List.length_cons,List.length_cons,List.length_cons,List.length_cons,I.len,iN,List.length_map]
theorem mh{X:Cx}{σ σ':St}{H H':Hp}{s':Shared}{h':Heap}(I:Inv X pins σ H s)(Y:∀b∈fp,eZ X pins H b)(J:Inv (bx X x y scope fp s H) pins σ' H' s')
  (U:Heap.SameBut s.heap.objs.size s'.heap h'):Inv X pins σ H' {s' with heap:=h'}:=by
 have hC:H' s.heap.objs.size=none:=J.free;have ne:∀b o,s.heap.get? b=some o->b≠s.heap.objs.size:=λb o e=>au (am e)
 have u:Un (tH X.stack) fp H H' s.heap h':=
  ⟨λb o e n B F=>(U.2 b (ne b o e)).trans (J.base.keep b o e n B F),λb o e n B F=>by
    obtain⟨sl,q⟩:=J.base.slot b o e n B F;exact⟨sl,(U.2 b (ne b o e)).trans q⟩,J.base.free,λb o e F=>by
    obtain⟨o',q⟩:=J.base.there b o e F;exact⟨o',(U.2 b (ne b o e)).trans q⟩,J.base.tups,J.base.frzs,J.base.tbls⟩
 have Z:gX X.prog X.w H' h':=λb ob e=>by
  refine(J.hok b ob e).stay (λc w' hc q=>(U.2 c ?_).trans q) (λ_ q=>q) λ_ _ q=>q;intro z;rcases hc with y|y
  ·rw[z] at y;rw[<-y,hC] at e;cases e
  ·rw[z,hC] at y;cases y
 exact I.call' (s':={s' with heap:=h'}) J.os u Z J.bare λb B=>⟨(Y b B).2.2.2.1,(Y b B).2.1,(Y b B).2.2.2.2.1,(Y b B).2.2.2.2.2⟩
end L2
namespace PySem
open Sem (wp)
open AutoSeq1 (wpAny_loadPart')
variable{a t:Addr}{h h':Heap}{prog:Program}
section
variable{prog:Program}{w:World}{A:Around}{E:Value->Shared->Prop}{s:Shared}{it t:Addr}{i:Nat}{items:Array Value}{Q:Value->Shared->Prop}
theorem nS{x:Value}(c:s.heap.IsTupleIter it t i)(U:s.heap.IsTuple t items)(J:items[i]? =some x)(Z:∀h',h'.IsTupleIter it t (i+1)->Heap.SameBut it s.heap h'->Q x {s with heap:=h'}):
  wpAny (model prog w) A (Builtin.SmallTypes.nextOf (.ref it)) Q E s:=by
 obtain⟨o,ho,Y,hd⟩:=id c;obtain⟨ol,B,_,nl,I⟩:=U;unfold Builtin.SmallTypes.nextOf;refine aa (wpAny_callSpecial?_slot (name:=Str.ofString "__next__") c.typeIs F.slot_tuple_iterator_next (wpAny_call_entry F.slot_tuple_iterator_next c.typeIs F.entry_tuple_iterator_next ?_ (F.args_tuple_iterator_next_1 _)));refine aa (m:=field (.ref it) 0) (a8 ho hd (x:= .ref t) rfl ?_);refine aa (m:=field (.ref it) 1) (a8 ho hd (x:= .int i 0) rfl ?_);refine aa (m:=seqItems? (.ref t)) (wpAny_seqItems B I ?_);simp only[Int.toNat_natCast,J];refine aa (wpAny_setField ho hd (by simp) (ah ⟨x,rfl,ah (Z _ ⟨_,Heap.get?_update_self _ ho (Obj.isFreed_of_fields (Obj.data_mapFields hd _)),(Obj.cls_mapFields ..).trans Y,?_⟩ (Heap.SameBut.update ..))⟩))
 rw[Obj.data_mapFields hd];simp[rawInt]
theorem mH(Y:A.handled=none)(c:s.heap.IsTupleIter it t i)(U:s.heap.IsTuple t items)(J:items[i]? =none)
  (Z:∀h' e,Heap.ExtBut it s.heap h'->(∃o,h'.get? e=some o/\o.cls=.type "StopIteration")->E (.ref e) {s with heap:=h'}):wpAny (model prog w) A (Builtin.SmallTypes.nextOf (.ref it)) Q E s:=by
 obtain⟨o,ho,hc,hd⟩:=id c;obtain⟨ol,B,_,nl,I⟩:=U;unfold Builtin.SmallTypes.nextOf;refine aa (wpAny_callSpecial?_slot (name:=Str.ofString "__next__") c.typeIs F.slot_tuple_iterator_next (wpAny_call_entry F.slot_tuple_iterator_next c.typeIs F.entry_tuple_iterator_next ?_ (F.args_tuple_iterator_next_1 _)));refine aa (m:=field (.ref it) 0) (a8 ho hd (x:= .ref t) rfl ?_);refine aa (m:=field (.ref it) 1) (a8 ho hd (x:= .int i 0) rfl ?_);refine aa (m:=seqItems? (.ref t)) (wpAny_seqItems B I ?_);simp only[Int.toNat_natCast,J];refine aa (wpAny_rule (aa (wpAny_setField ho hd (by simp) (aa (m:=newExc (.type "StopIteration") []) ?_))))
 unfold newExc newTuple;refine aa (wpAny_newObj_type (aa (m:=firstArgMember _ _) (wpAny_of_eq (a:=Value.none) (by first|rfl|(simp only[firstArgMember];rfl)) (wpAny_newObj_type ?_ (by size_fits)))) (by size_fits))
 unfold raiseNew;refine aa (wpAny_handled ?_);rw[show A.in1.handled=none from Y];exact aa (ah (wpAny_throw (Z _ _ (((Heap.SameBut.update ..).extBut.push _).push _) ⟨_,aq _ rfl,rfl⟩)))
theorem ij(x:h.IsTuple a items)(k:∀o,h.get? a=some o->h'.get? a=some o):h'.IsTuple a items:=let⟨o,ho,r⟩:=x;⟨o,k o ho,r⟩
theorem cC{b:Addr}(x:h.IsTupleIter a b i)(k:∀o,h.get? a=some o->h'.get? a=some o):h'.IsTupleIter a b i:=let⟨o,ho,r⟩:=x;⟨o,k o ho,r⟩
end
theorem Draws.tup{w:World}{A:Around}(F:A.handled=none)(it t:Addr)(B:t≠it)(items:Array Value):
  Draws prog w A it [it,t] items.size (λi v=>items[i]? =some v) (λi h=>h.IsTupleIter it t i/\h.IsTuple t items) where
 live:=λ_ _ st=>let⟨o,ho,_⟩:=st.1;⟨o,ho⟩
 frame:=λ_ _ _ st hk=>⟨cC st.1 λo e=>hk it (by simp) o e,ij st.2 λo e=>hk t (by simp) o e⟩
 item:=λi s Q E hi st I=>nS st.1 st.2 (x:=items[i]) (by simp[hi]) λh' c hs'=>I _ h' s.toks (by simp[hi]) ⟨c,st.2.extBut hs'.extBut B⟩ hs'
 done:=λs Q E st J=>mH F st.1 st.2 (by simp) J
noncomputable def fi(h:Heap)(t:Addr):Heap:=(h.push {cls:= .type "tuple_iterator",data:= .fields #[.ref t,.int 0 0]}).push {cls:= .type "enumerate",data:= .fields #[.none,.bool false,.ref h.objs.size,rawInt 0,.none,.none]}
set_option maxHeartbeats 4000000 in
theorem oE(t:Addr)(items:Array Value)(n:Nat)(dct:Option Addr)(sl:Array (Option Value)):
  Meets (Builtin.«enumerate.__new__» ⟨[.type "enumerate",.ref t],[]⟩) (λ_ R s=>s.heap.get? t=some {cls:= .type "tuple",dict:=dct,data:= .seq items n,slots:=sl}/\
   R (.ok (.ret (.ref (s.heap.push {cls:= .type "tuple_iterator",data:= .fields #[.ref t,.int 0 0]}).objs.size))) {s with heap:=fi s.heap t}):=
 .of_wp λprog w A R s h=>by
  obtain⟨J,g,d,tk,os⟩:=s;obtain⟨B,h⟩:=h;have F:=sub_enumerate;have I:Heap.IsTuple (Shared.heap ⟨J,g,d,tk,os⟩) t items:=⟨_,B,rfl,n,rfl⟩
  wp_walk using wpAny_loadPart' B
  refine wpAny_stack_any λst=>ah ?_;split
  ·rename_i c _ _ _ _ _;cases(c==Value.type "enumerate")<;>(wp_walk using wpAny_loadPart' B,wpAny_pyIter_tuple I;exact⟨_,rfl,h⟩)
  ·wp_walk using wpAny_loadPart' B,wpAny_pyIter_tuple I
   exact⟨_,rfl,h⟩
theorem qG{w:World}{A:Around}{E:Value->Shared->Prop}{s:Shared}{items:Array Value}{Q:Value->Shared->Prop}(Y:s.heap.IsTuple t items)
  (h:IsEnum (fi s.heap t) (s.heap.objs.size+1) s.heap.objs.size 0 .none->(fi s.heap t).IsTupleIter s.heap.objs.size t 0->(∀b o,s.heap.get? b=some o->(fi s.heap t).get? b=some o)->Q (.ref (s.heap.objs.size+1)) {s with heap:=fi s.heap t}):
  wpAny (model prog w) A (call (.type "enumerate") [.ref t]) Q E s:=by
 obtain⟨⟨c,dct,Z,sl⟩,U,B,n,hd⟩:=Y
 replace B:c=.type "tuple":=B
 replace hd:Z=.seq items n:=hd
 subst B hd;refine callType_new F.called_enumerate (by decide) (F.typeCall_enumerate_1 _) (F.newCall_enumerate_1 _) (λobj=>F.args_object_init_2 obj _) F.entry_enumerate_new (oE t items n dct sl) ⟨U,?_⟩
 have I:(s.heap.push {cls:= .type "tuple_iterator",data:= .fields #[.ref t,.int 0 0]}).objs.size=s.heap.objs.size+1:=Heap.size_push ..
 have J:IsEnum (fi s.heap t) (s.heap.objs.size+1) s.heap.objs.size 0 .none:=by rw[<-I];exact aq _ rfl
 show _/\_;rw[I];exact⟨⟨_,J,rfl⟩,h J ⟨_,ae _ (aq _ rfl),rfl,rfl⟩ λb o x=>ae _ (ae _ x)⟩
theorem tK{w:World}{A:Around}{E:Value->Shared->Prop}{s:Shared}{e it:Addr}{i:Nat}{items:Array Value}{old:Value}{Q:Option Value->Shared->Prop}(J:A.handled=none)
  (U:IsEnum s.heap e it i old)(c:s.heap.IsTupleIter it t i)(F:s.heap.IsTuple t items)(B:items[i]? =none)(Y:∀h',Heap.ExtBut it s.heap h'->Q none {s with heap:=h'}):wpAny (model prog w) A (pyNext (.ref e)) Q E s:=by
 have D:Draws prog w A.in1 it [it,t] 0 (λ_ _=>True) (λ_ h=>h.IsTupleIter it t i/\h.IsTuple t items):=by
  refine⟨λ_ _ st=>?_,λ_ h h' st hk=>?_,λj s' Q' E' I=>absurd I (Nat.not_lt_zero _),λs' Q' E' st Z=>mH J st.1 st.2 B Z⟩
  ·obtain⟨o,ho,_⟩:=st.1;exact⟨o,ho⟩
  ·exact⟨cC st.1 λo e=>hk it (by simp) o e,ij st.2 λo e=>hk t (by simp) o e⟩
 exact wpAny_pyNext_enum_endD D U ⟨c,F⟩ Y
end PySem
namespace L2
open PySem PySem.Spec PyProof.Rows
noncomputable def BR(K:aA)(a:Addr):It:=
 ⟨λi H=>∃xs x,fP K H a xs/\xs[i]? =some x,
  λi H v H'=>∃p x,v=.ref p/\H p=none/\H'=upd H p (.tup [.int (i:Int),x])/\∀xs,fP K H a xs->xs[i]? =some x,
  λi H=>∃xs,fP K H a xs/\xs.length<=i⟩
noncomputable def Dn(e it a:Addr)(i:Nat)(h:Heap):Prop:=(∃old,IsEnum h e it (i:Int) old)/\h.IsTupleIter it a i
theorem pS{P:Program}{w:World}{K:aA}{elts:List Expr}{k:Nat}{pos:Pos}(a e it:Addr)(Z:e≠it):Turn P w K (.Tuple elts k pos) (BR K a) [e,it] e (Dn e it a) where
 mem:=by simp
 obj:=λi h st b B=>by
  obtain⟨⟨old,U⟩,o,ho,c,d⟩:=st;rcases List.mem_cons.mp B with rfl|B
  ·exact⟨_,U,λv z=>by have z':Data.fields _=Data.cell v:=z;cases z'⟩
  ·have:b=it:=by simpa using B
   subst this;exact⟨o,ho,λv z=>by rw[d] at z;cases z⟩
 keep:=λi h h' ⟨⟨old,U⟩,st⟩ kk=>⟨⟨old,kk e (by simp) _ U⟩,cC st λo q=>kk it (by simp) o q⟩
 item:=by
  intro X hP hw hK Y i pins s σ H E I hf st hg;subst hP hw hK;obtain⟨⟨old,U⟩,J⟩:=st;obtain⟨xs,x,hq,hx⟩:=hg;obtain⟨its,rv,p,hz⟩:=I.tuple hq;obtain⟨u,hu,ru⟩:=rv.get hx;have pt:s.heap.IsTuple a its.toArray:=p
  have nea:e≠a:=by
   obtain⟨o,ho,Y,_⟩:=pt;intro z;rw[<-z,U] at ho;cases ho;have Y:Value.type "enumerate"=Value.type "tuple":=Y;exact absurd Y (by decide)
  have nia:a≠it:=by
   obtain⟨o,ho,Y,_⟩:=pt;obtain⟨o2,ho2,hc2,_⟩:=J;intro z;rw[<-z,ho] at ho2;cases ho2;rw[Y] at hc2;exact absurd hc2 (by decide)
  refine wpAny_pyNext_enum_itemD (Draws.tup (A:=X.A.in1) (I.ok.hd Y) it a nia its.toArray) U ⟨J,pt⟩ (by have:=(aw hu).1;simpa using this) Z (by simp[Z,nea]) λu' h1 tk hP heo hst ht1 hz1 hk1=>?_
  have eu:u'=u:=by
   have:its[i]? =some u':=by simpa using hP
   rw[hu] at this;exact(ai this).symm
  subst eu;refine⟨_,rfl,wpAny_letOwnedTupleGo_enum heo λh2 he2 F=>?_⟩
  replace F:Heap.SameBut e h1 h2:=F
  have lt:=am U;have ht2:h2.get? s.heap.objs.size=some {cls:= .type "tuple",data:= .seq #[.int i tk,u']}:=(F.2 _ (bp lt)).trans ht1;have hn:H s.heap.objs.size=none:=I.hok.fresh (ac _)
  have I2:Inv X pins σ (upd H s.heap.objs.size (.tup [.int (i:Int),x])) {s with heap:=h2,toks:=tk+1}:=by
   refine I.turnLaid (fp:=[e,it]) hf (λb o B q=>?_) (ac _) ⟨(by show 2<=sizeLine;decide),[.int i tk,u'],.cons ⟨_,rfl⟩ (.cons ru .nil),?_⟩
   ·have hbe:b≠e:=λz=>B (by simp[z])
    have hbi:b≠it:=λz=>B (by simp[z])
    exact(F.2 b hbe).trans (hk1 b o hbe hbi q)
   ·exact⟨_,ht2,⟨rfl,rfl⟩,_,rfl⟩
  refine⟨.ref s.heap.objs.size,_,I2,rfl,⟨_,x,rfl,hn,rfl,λys hy=>by rw[I.tuple_inj hy hq];exact hx⟩,⟨⟨u',?_⟩,?_⟩,λb B=>?_⟩
  ·have:((i+1:Nat):Int)=(i:Int)+1:=by omega
   rw[this];exact he2
  ·exact cC hst.1 λo q=>(F.2 it (Ne.symm Z)).trans q
  ·obtain⟨f0,_⟩:=hf b B
   have:b≠s.heap.objs.size:=by
    rcases List.mem_cons.mp B with rfl|B
    ·exact au lt
    ·have:b=it:=by simpa using B
     subst this;obtain⟨o,ho,_⟩:=J;exact au (am ho)
   rw[aL this];exact f0
 done:=by
  intro X hP hw hK Y i pins s σ H E I hf st hg;subst hP hw hK;obtain⟨⟨old,U⟩,J⟩:=st;obtain⟨xs,hq,hx⟩:=hg;obtain⟨its,rv,p,hz⟩:=I.tuple hq;obtain⟨f0,f1,f2,f3,f4,f5⟩:=hf it (by simp)
  have hl:=rv.length;exact tK (I.ok.hd Y) U J (show s.heap.IsTuple a its.toArray from p) (by simp;omega) λh' eb=>⟨rfl,I.turned (t':=s.toks) (λb o B e=>eb b o B e) f0 f1 f3 f4 f5⟩
 self:=λ_ _ _ _ _ st h=>wpAny_pyIter_enum st.1.choose_spec h
def wt(K:aA)(tl:TA):TI:=λσ H R=>tl σ H λvs H1=>∃a,vs=[.ref a]/\(((∃xs,dD K H1 a xs)/\R (E9 K a) H1)∨((∃xs,fP K H1 a xs)/\R (BR K a) H1))
theorem oa{X:Cx}{elts:List Expr}{k:Nat}{Z:Pos}{a:Expr}{ta:TA}{p pos:Pos}(hg:Gl X "enumerate")(hm:X.mg "enumerate"=none)(ha:PA X [a] ta)(hs:starEach [a] X.env=[(false,eval a X.env)]):
  PI X (.Tuple elts k Z) (.Call (.Name "enumerate" p) [a] [] pos) (wt X.K ta):=by
 intro pins s σ H R I h;refine Call_ (et I hg hm boot_enumerate (aX (bW (ha pos pins s σ H _ I h) λus c ⟨vs,H1,I1,r1,q1⟩=>?_) hs rfl));obtain⟨a,e,q⟩:=q1;subst e;cases r1 with
 |cons r rr=>
  cases rr;cases r
  have new:∀b∈[c.heap.objs.size+1,c.heap.objs.size],eZ X pins H1 b:=λb Y=>by
   have J:c.heap.objs.size<=b:=by
    rcases List.mem_cons.mp Y with rfl|Y
    ·exact Nat.le_succ _
    ·have:b=c.heap.objs.size:=by simpa using Y
     rw[this];exact ac _
   exact I1.fpOk J (I1.hok.fresh J)
  rcases q with⟨⟨xs,hq⟩,q⟩|⟨⟨xs,hq⟩,q⟩
  ·obtain⟨its,rv,U,hz⟩:=I1.list hq;refine call_enumerate_list U.isList λh' F B hsz hk=>?_;refine wpAny_pyIter_enum F ?_;exact⟨_,[c.heap.objs.size+1,c.heap.objs.size],_,_,H1,rfl,I1.kept (t':=c.toks) hk,sF a _ _ (bp (aI _)),⟨⟨_,F⟩,B⟩,new,q⟩
  ·obtain⟨its,rv,U,hz⟩:=I1.tuple hq;refine qG (show c.heap.IsTuple a its.toArray from U) λF B hk=>?_;refine wpAny_pyIter_enum F ?_;exact⟨_,[c.heap.objs.size+1,c.heap.objs.size],_,_,H1,rfl,I1.kept (t':=c.toks) hk,pS a _ _ (bp (aI _)),⟨⟨_,F⟩,B⟩,new,q⟩
end L2
namespace Ev
open PySem PySem.Spec PyProof.Rows L2
variable{st st0:a9}{ι ι0:Nat->Addr}
def dY(K:aA)(J:It)(s:Src)(H0:Hp)(ι0:Nat->Addr)(m0:Nat):Prop:=∀H ι st i,Ext H0 H ι0 ι m0 st.length->Sim K H ι st->
 (eK s i st=some none->J.stop i H)/\∀x,eK s i st=some (some x)->J.go i H/\∀v H',J.yld i H v H'->Ext H H' ι ι st.length st.length/\Sim K H' ι st/\VRel K H' ι st.length x v
theorem Sim.tup{K:aA}{H:Hp}(S:Sim K H ι st){p:Addr}(c:H p=none){xs:List V}:Ext H (upd H p (.tup xs)) ι ι st.length st.length/\Sim K (upd H p (.tup xs)) ι st:=by
 have E:Ext H (upd H p (.tup xs)) ι ι st.length st.length:=⟨⟨ac _,λ_ _=>rfl,λb ys e=>by rw[aL (aJ e c)];exact e,λb F u e=>by rw[aL (aJ e c)];exact e⟩,λb F e k=>⟨by rw[aL (aJ e c)];exact e,k⟩⟩
 refine⟨E,S.inj,λn o e=>?_⟩;have I:n<st.length:=(aw e).1;have B:ι n≠p:=by obtain⟨_,h,_⟩:=S.obj I;exact aJ h c
 have old:=S.ob n o e;exact old.move E.toExt0 (aL B)
theorem dY.en{K:aA}{n:Nat}{H0:Hp}{m0:Nat}(Y:n<m0):dY K (E9 K (ι0 n)) (.en n) H0 ι0 m0:=λH ι st i E S=>by
 simp only[eK];cases q:st[n]? with
 |none=>exact⟨λe=>(by cases e),λx e=>(by cases e)⟩
 |some o=>
  have c:=S.ob n o q;rw[E.ad n Y] at c;cases o with
  |dct _|ins _ _=>exact⟨λe=>(by cases e),λx e=>(by cases e)⟩
  |lst xs=>
   obtain⟨vs,h1,r⟩:=c;have l:=r.length;have h':dD K H (ι0 n) vs:=dD.of h1;refine⟨λe=>?_,λx e=>?_⟩
   ·have e:xs[i]?.map (λx=>D.tup [.int (i:Int),x])=none:=ai e;have e:xs[i]? =none:=by simpa using e
    exact⟨vs,h',by have:=List.getElem?_eq_none_iff.mp e;omega⟩
   ·have e:xs[i]?.map (λx=>D.tup [.int (i:Int),x])=some x:=ai e;cases e2:xs[i]? with
    |none=>rw[e2] at e;cases e
    |some y=>rw[e2] at e;have e:D.tup [.int (i:Int),y]=x:=ai e;subst e;obtain⟨v,B,rv⟩:=r.get e2;refine⟨⟨vs,v,h',B⟩,λw H' I=>?_⟩;obtain⟨p,z,rfl,U,rfl,J⟩:=I;have:=J vs h';rw[B] at this;cases this;obtain⟨F,Z⟩:=S.tup (xs:=[.int (i:Int),v]) U;exact⟨F,Z,.tup (.inl (.inl bF)) (.cons (.int _) (.cons (rv.ext F) .nil))⟩
theorem dY.enT{K:aA}{a:Addr}{xs:List D}{B:Hp}{m0:Nat}(r:VRel K B ι0 m0 (.tup xs) (.ref a)):dY K (BR K a) (.its (fh 0 xs)) B ι0 m0:=λH ι st i E S=>by
 cases r.ext E with
 | @tup _ _ vs h' r=>
  simp only[eK,cH];have l:=r.length;refine⟨λe=>?_,λx e=>?_⟩
  ·have e:=ai e;have e:xs[i]? =none:=by simpa using e
   exact⟨vs,h',by have:=List.getElem?_eq_none_iff.mp e;omega⟩
  ·have e:=ai e;cases e2:xs[i]? with
   |none=>rw[e2] at e;cases e
   |some y=>rw[e2] at e;have e:D.tup [.int ((0+i:Nat):Int),y]=x:=ai e;rw[Nat.zero_add] at e;subst e;obtain⟨v,c,rv⟩:=r.get e2;refine⟨⟨vs,v,h',c⟩,λw H' I=>?_⟩;obtain⟨p,z,rfl,U,rfl,J⟩:=I;have:=J vs h';rw[c] at this;cases this;obtain⟨F,Y⟩:=S.tup (xs:=[.int (i:Int),v]) U;exact⟨F,Y,.tup (.inl (.inl bF)) (.cons (.int _) (.cons (rv.ext F) .nil))⟩
structure EltG(K:aA)(tt:V->Hp->(Option V->Hp->Prop)->Prop)(f:D->M (Option D))(H0:Hp)(ι0:Nat->Addr)(m0:Nat):Prop where
 turn:∀{H:Hp}{ι:Nat->Addr}{st st1:a9}{x:D}{v:V}{o:Option D}{Q:Option V->Hp->Prop},Ext H0 H ι0 ι m0 st.length->Sim K H ι st->VRel K H ι st.length x v->f x st=.ok o st1->
  (∀H1 ι1 w,Ext H H1 ι ι1 st.length st1.length->Sim K H1 ι1 st1->(match o,w with|some y,some z=>VRel K H1 ι1 st1.length y z|none,none=>True|_,_=>False)->Q w H1)->tt v H Q
theorem kW{K:aA}{tt:V->Hp->(Option V->Hp->Prop)->Prop}{f:D->M (Option D)}{J:It}{s:Src}{H:Hp}{H0:Hp}{Q:VK}(ok:EltG K tt f H ι st.length)
  (F:dY K J s H ι st.length)(E0:Ext H0 H ι0 ι st0.length st.length)(S:Sim K H ι st)(P:cu K H0 ι0 st0 (cA f s st) Q):∀Dd,H Dd=none->∃W:Nat->Nat->List V->Hp->Prop,(∃m,W 0 m [] (upd H Dd (.lst [])))/\∀i m ys H2,W i m ys H2->
   (J.stop i H2/\Q (.ref Dd) H2)∨(J.go i H2/\∃N:List V->Hp->Prop,(∀Y H',N Y H'->∃m',m'<m/\W (i+1) m' Y H')/\
    ∀x H',J.yld i H2 x H'->tt x H' λw B=>match w with
     |some y=>B Dd=some (.lst ys)/\ys.length<sizeLine/\N (ys++[y]) (upd B Dd (.lst (ys++[y])))
     |none=>N ys B):=by
 intro Dd hD;have sz:sizeLine=16777216:=sizeLine_eq;unfold cA at P;split at P
 case isFalse=>exact P.elim
 case isTrue hz=>
 refine⟨λi m ys H2=>i+m<=1000001/\∃ι2 c acc,Ext H H2 ι ι2 st.length c.length/\Sim K H2 ι2 c/\H2 Dd=some (.lst ys)/\(∀n,n<c.length->ι2 n≠Dd)/\VRels K H2 ι2 c.length acc ys/\acc.length<=i/\
   cu K H0 ι0 st0 (a_ (eQ f s m i acc) alloc c) Q,⟨bV s st+1,by omega,ι,st,[],?_,?_,bF,λn hn=>?_,.nil,ac _,P⟩,?_⟩
 ·exact⟨⟨ac _,λ_ _=>rfl,λb xs e=>by rw[aL (aJ e hD)];exact e,λb Z u e=>by rw[aL (aJ e hD)];exact e⟩,λb Z e k=>⟨by rw[aL (aJ e hD)];exact e,k⟩⟩
 ·refine⟨S.inj,λn o e=>?_⟩;have hn:n<st.length:=(aw e).1;have hne:ι n≠Dd:=by obtain⟨_,h,_⟩:=S.obj hn;exact aJ h hD
  have E:Ext0 H (upd H Dd (.lst [])) ι ι st.length st.length:=⟨ac _,λ_ _=>rfl,λb xs e=>by rw[aL (aJ e hD)];exact e,λb Z u e=>by rw[aL (aJ e hD)];exact e⟩
  have old:=S.ob n o e;exact old.move E (aL hne)
 ·obtain⟨_,h,_⟩:=S.obj hn;exact aJ h hD
 ·rintro i m ys H2 ⟨hm,ι2,c,acc,E2,S2,hDd,ap,ra,la,P2⟩;obtain⟨zs,st9,U,P9⟩:=aY P2;obtain⟨c1,c2⟩:=F H2 ι2 c i E2 S2;cases m with
  |zero=>cases U
  |succ m=>
   simp only[eQ] at U;cases en:eK s i c with
   |none=>rw[en] at U;cases U
   |some ox=>
    rw[en] at U;cases ox with
    |none=>
     have U:R.ok acc c=R.ok zs st9:=U;cases U;refine .inl ⟨c1 en,?_⟩;obtain⟨ι',h1,h2,h3⟩:=S2.add hDd ap ra;have l:(c++[O.lst acc]).length=c.length+1:=by simp
     refine P9 H2 ι' (.ref Dd) ?_ h3 ?_
     ·rw[l];have E6:=E0.trans E2;refine⟨⟨Nat.le_succ_of_le E6.le,λn hn=>(h1 n (az hn E6.le)).trans (E6.ad n hn),E6.tp,E6.fz⟩,λb Z e k=>?_⟩;obtain⟨g1,g2⟩:=E6.fr b Z e k;refine⟨g1,λn hn=>?_⟩;by_cases hn':n=c.length
      ·rw[hn',h2];obtain⟨g3,_⟩:=E0.fr b Z e k;exact(aJ g3 hD).symm
      ·rw[h1 n (by omega)];exact g2 n (by omega)
     ·rw[<-h2,l];exact .ref (aI _)
    |some x=>
     obtain⟨hgo,hyl⟩:=c2 x en
     refine .inr ⟨hgo,λY H'=>∃ι2 c acc,Ext H H' ι ι2 st.length c.length/\Sim K H' ι2 c/\H' Dd=some (.lst Y)/\(∀n,n<c.length->ι2 n≠Dd)/\VRels K H' ι2 c.length acc Y/\acc.length<=i+1/\
      cu K H0 ι0 st0 (a_ (eQ f s m (i+1) acc) alloc c) Q,λY H' b=>⟨m,aI _,by omega,b⟩,λv H' y=>?_⟩
     obtain⟨EY,SY,rv⟩:=hyl v H' y;obtain⟨hDd,_⟩:=EY.fr Dd _ hDd ap
     replace E2:=E2.trans EY
     replace ra:=ra.ext EY
     simp only[a_] at U;cases e3:f x c with
     |bad=>rw[e3] at U;cases U
     |ok o st3=>
      rw[e3] at U
      refine ok.turn (Q:=λw B=>match w with
       |some y=>B Dd=some (.lst ys)/\ys.length<sizeLine/\∃ι2 c acc,Ext H (upd B Dd (.lst (ys++[y]))) ι ι2 st.length c.length/\Sim K (upd B Dd (.lst (ys++[y]))) ι2 c/\upd B Dd (.lst (ys++[y])) Dd=some (.lst (ys++[y]))/\(∀n,n<c.length->ι2 n≠Dd)/\VRels K (upd B Dd (.lst (ys++[y]))) ι2 c.length acc (ys++[y])/\acc.length<=i+1/\
         cu K H0 ι0 st0 (a_ (eQ f s m (i+1) acc) alloc c) Q
       |none=>∃ι2 c acc,Ext H B ι ι2 st.length c.length/\Sim K B ι2 c/\B Dd=some (.lst ys)/\(∀n,n<c.length->ι2 n≠Dd)/\VRels K B ι2 c.length acc ys/\acc.length<=i+1/\
         cu K H0 ι0 st0 (a_ (eQ f s m (i+1) acc) alloc c) Q) E2 SY rv e3 λB ι4 w E4 S4 r4=>?_
      obtain⟨I,ap4⟩:=E4.fr Dd _ hDd ap;cases o with
      |none=>
       cases w with
       |some _=>exact r4.elim
       |none=>
        have e9':eQ f s m (i+1) acc st3=.ok zs st9:=U;refine⟨ι4,st3,acc,E2.trans E4,S4,I,ap4,ra.ext E4,by omega,?_⟩
        unfold a_;rw[e9'];exact P9
      |some yd=>
       cases w with
       |none=>exact r4.elim
       |some yv=>
        have e9':eQ f s m (i+1) (acc++[yd]) st3=.ok zs st9:=U;have lra:=ra.length;refine⟨I,by omega,ι4,st3,acc++[yd],?_⟩
        have E5:Ext0 B (upd B Dd (.lst (ys++[yv]))) ι4 ι4 st3.length st3.length:=⟨ac _,λ_ _=>rfl,λb xs e=>by rw[aL (fc e I (by intro z;cases z))];exact e,λb Z u e=>by rw[aL (fc e I (by intro z;cases z))];exact e⟩
        refine⟨?_,⟨S4.inj,λn Z e=>?_⟩,bF,ap4,VRels.ext0 E5 ((ra.ext E4).append (.cons r4 .nil)),by simp;omega,?_⟩
        ·have E6:=E2.trans E4;refine⟨⟨E6.le,E6.ad,λb xs e=>E5.tp b xs (E6.tp b xs e),λb Z u e=>E5.fz b Z u (E6.fz b Z u e)⟩,λb Z e k=>?_⟩;obtain⟨g1,g2⟩:=E6.fr b Z e k;exact⟨by rw[aL (aJ e hD)];exact g1,g2⟩
        ·have hn:n<st3.length:=(aw e).1;have old:=S4.ob n Z e;exact old.move E5 (aL (ap4 n hn))
        ·unfold a_;rw[e9'];exact P9
theorem DE{K:aA}{J:It}{s:Src}{c:Hp}{m0:Nat}(F:c_ K J s c ι0 m0):dY K J s c ι0 m0:=λH ι st i E S=>by obtain⟨h1,U⟩:=F H ι st i E S;refine⟨h1,λx e=>?_⟩;obtain⟨I,B⟩:=U x e;refine⟨I,λv H' y=>?_⟩;obtain⟨rfl,r⟩:=B v H' y;exact⟨Ext.refl _ _ _,S,r⟩
theorem gH{K:aA}{Y:TT}{te:TE}{f:Loc->D->M (Option D)}(ok:EltOk K Y te f){J:It}{s:Src}{H:Hp}{Z:Hp}{loc:Loc}{σ:L2.St}{Q:VK}
  (F:c_ K J s H ι st.length)(E0:Ext Z H ι0 ι st0.length st.length)(S:Sim K H ι st)(L:LRel K H ι st.length loc σ)(P:cu K Z ι0 st0 (cA (f loc) s st) Q):∀Dd,H Dd=none->∃W:Nat->Nat->List V->Hp->Prop,(∃m,W 0 m [] (upd H Dd (.lst [])))/\∀i m ys I,W i m ys I->
   (J.stop i I/\Q (.ref Dd) I)∨(J.go i I/\∃N:List V->Hp->Prop,(∀c H',N c H'->∃m',m'<m/\W (i+1) m' c H')/\
    ∀x H',J.yld i I x H'->Y (some x::σ) H' λb B=>if b=true then te (some x::σ) B λy U=>U Dd=some (.lst ys)/\ys.length<sizeLine/\N (ys++[y]) (upd U Dd (.lst (ys++[y]))) else N ys B):=
 kW (tt:=λv H' K=>Y (some v::σ) H' λb B=>if b=true then te (some v::σ) B λy U=>K (some y) U else K none B) ⟨λE S r ee k=>ok.turn S (L.ext E) r ee k⟩ (DE F) E0 S P
end Ev
namespace L2
open PySem PySem.Spec PyProof.Rows
section
end
end L2
namespace Ev
open PySem PySem.Spec PyProof.Rows L2
variable{a b c e elt iter:Expr}{i n:Nat}{f x:Str}{xs:List Ex}{es ifs r:List Expr}{H:Hp}{σ:L2.St}{a' b' l' s' y:Ex}{st st1:a9}{sc scope:Scope}
section
variable{T:Tab}{g:fR}{X:Cx}{sc:Scope}{N:List Str}{pos p2:Pos}
theorem vA{m:Loc->M D}(h:PE X e (tE X.K m))(F:∀whole,isTrue e X.env whole=(do let v <-whole;standAt e.pos;holding [v] (truthy v))):PT X e (tT X.K m):=
 (AA h F).imp λσ H Q B=>by
  obtain⟨ι,st,loc,S,L,P⟩:=B;obtain⟨b,st1,I,k⟩:=P.inv;exact bi S L I λH1 ι1 v U J c=>by cases c;exact⟨b,rfl,k H1 ι1 U J⟩
theorem iE{d:D}{v:V}(h:PE X e (tC v))(r:∀H ι m,VRel X.K H ι m d v):PE X e (tE X.K (run g (.c d))):=
 h.imp λσ H Q B=>by obtain⟨ι,st,loc,S,L,P⟩:=B;rw[run] at P;exact P.same S (r H ι _)
theorem wH(C:Ctx T g X sc N)(hi:gc N x=some i)(c:DY sc x):PE X (.Name x pos) (tE X.K (run g (.v i))):=by
 have F:X.N[i]? =some x:=by rw[C.n];exact cM hi
 obtain⟨h1,I⟩:=C.nm x (ak (cM hi));refine(AJ F (by rw[C.sc];exact c) h1 I).imp λσ H Q B=>?_
 obtain⟨ι,st,loc,S,L,P⟩:=B;rw[run] at P;unfold dI at P;cases e:loc[i]? with
 |none=>rw[e] at P;exact P.elim
 |some o=>
  rw[e] at P;cases o with
  |none=>exact P.elim
  |some d=>obtain⟨v,c,r⟩:=L.at_ i d e;exact⟨v,c,P.same S r⟩
theorem zy{k:Nat}(I:PA X es (tA X.K (runs g xs)))(Y:es.length<=1000)(Z:es.length=xs.length):PE X (.Tuple es k pos) (tE X.K (run g (.tup xs))):=
 (AK I).imp λσ H Q F=>by obtain⟨ι,st,loc,S,L,P⟩:=F;rw[run] at P;obtain⟨ds,st1,B,P⟩:=aY P;have sz:sizeLine=16777216:=sizeLine_eq;refine j6 S L B λH1 ι1 vs U J c=>⟨?_,(P.mono U).tup J c⟩;have:=runs_len B;have l:=c.length;omega
where
 runs_len:∀{xs:List Ex}{loc:Loc}{st st1:a9}{ds:List D},runs g xs loc st=.ok ds st1->ds.length=xs.length
 |[],loc,st,st1,ds,e=>by rw[runs] at e;cases e;rfl
 |x::xs,loc,st,st1,ds,e=>by
  rw[runs] at e;simp only[a_,ret] at e;split at e
  ·split at e
   ·rename_i e2;cases e;rw[List.length_cons,List.length_cons,runs_len e2]
   ·cases e
  ·cases e
theorem Dr(I:PA X es (tA X.K (runs g xs)))(Y:es.length<=1000)(Z:es.length=xs.length):PE X (.List es pos) (tE X.K (run g (.lst xs))):=
 (AQ I).imp λσ H Q F=>by obtain⟨ι,st,loc,S,L,P⟩:=F;rw[run] at P;obtain⟨ds,st1,B,P⟩:=aY P;have sz:sizeLine=16777216:=sizeLine_eq;refine j6 S L B λH1 ι1 vs U J c=>⟨?_,(P.mono U).alloc J c⟩;have:=zy.runs_len B;have l:=c.length;omega
theorem BL{pins:List (Addr×Obj)}{s:Shared}(I:Inv X pins σ H s):sysModules<s.heap.objs.size:=Nat.lt_trans (by decide) (show mainGlobals<s.heap.objs.size from(I.mod.glob.keeps I.bk).lt)
theorem Dv:PE X (.Dict [] [] pos) (tE X.K (run g .emp)):=by intro pins s σ H Q I ⟨ι,st,loc,S,L,P⟩;rw[run] at P;refine wpAny_Dict_empty ⟨.ref s.heap.objs.size,_,I.laid (a:=s.heap.objs.size) (o:= .dK []) (t':=s.toks) (λ_ _ q=>ae _ q) (ac _) ?_,rfl,P.allocD S _ (I.hok.fresh (ac _))⟩;exact⟨Nat.zero_le _,beq_eq_false_iff_ne.mpr (Ne.symm (au (BL I))),[],.nil,Heap.DictOf.new s.heap⟩
theorem rq{a b:Ex}{f:D->D->M D}{Q:VK}(h:tE X.K (λloc=>a_ (run g a loc) λx=>a_ (run g b loc) λy=>f x y) σ H Q):Ck (rD X.K f) (tE X.K (run g a)) (tE X.K (run g b)) σ H Q:=by obtain⟨ι,st,loc,S,L,P⟩:=h;obtain⟨x,st1,Y,P⟩:=aY P;obtain⟨y,c,U,P⟩:=aY P;exact bi S L Y λH1 ι1 vx F S1 J=>bi S1 (L.ext F) U λH2 ι2 vy B Z I=>⟨ι2,c,x,y,Z,J.ext B,I,P.mono (F.trans B)⟩
theorem Dx{op:Operator}{o:Bo}(ho:DI op=some o)(B:PE X a (tE X.K (run g a')))(c:PE X b (tE X.K (run g b'))):PE X (.BinOp a op b pos) (tE X.K (run g (.bin o a' b'))):=by
 have e:op=o.op:=by cases op<;>cases ho<;>rfl
 subst e;refine(CT (AZ o) B c).imp λσ H Q h=>rq ?_;obtain⟨ι,st,loc,S,L,P⟩:=h;rw[run] at P;exact⟨ι,st,loc,S,L,P⟩
theorem Dp(I:PE X a (tE X.K (run g a'))):PE X (.UnaryOp .Not a pos) (tE X.K (run g (.not a'))):=
 (AN I).imp λσ H Q F=>by
  obtain⟨ι,st,loc,S,L,P⟩:=F;rw[run] at P;obtain⟨x,st1,Y,P⟩:=aY P;obtain⟨i,c,U,P⟩:=aY P;obtain⟨J,rfl⟩:=bO U;have:=cg J;subst this;exact bi S L Y λH1 ι1 v E1 Z B=>by cases B;exact⟨i,rfl,(P.mono E1).same Z (.bl _)⟩
theorem Ce(F:PT X a (tT X.K (run g a'))):PT X (.UnaryOp .Not a pos) (tT X.K (run g (.not a'))):=
 (AB F).imp λσ H Q B=>by obtain⟨ι,st,loc,S,L,P⟩:=B;rw[run] at P;obtain⟨x,st1,U,P⟩:=dG P;obtain⟨i,c,J,P⟩:=dG P;obtain⟨I,rfl⟩:=bO J;have:=cg I;subst this;exact jl S L U λH1 ι1 Z Y=>P H1 ι1 Z Y
theorem Dy(Y:PE X a (tE X.K (run g a')))(U:PE X (.BoolOp .And (b::r) pos) (tE X.K (run g b'))):PE X (.BoolOp .And (a::b::r) pos) (tE X.K (run g (.and a' b'))):=
 (AT Y U).imp λσ H Q J=>by
  obtain⟨ι,st,loc,S,L,P⟩:=J;rw[run] at P;obtain⟨x,st1,e1,P⟩:=aY P;obtain⟨i,c,e2,P⟩:=aY P;obtain⟨Z,rfl⟩:=bO e2;have:=cg Z;subst this;refine bi S L e1 λH1 ι1 v B F I=>?_;cases I;refine⟨i,rfl,?_⟩;cases i with
  |true=>rw[if_pos rfl];exact⟨ι1,c,loc,F,L.ext B,P.mono B⟩
  |false=>rw[if_neg aH];exact(P.mono B).same F (.bl false)
theorem EO(Y:PE X a (tE X.K (run g a')))(U:PE X (.BoolOp .Or (b::r) pos) (tE X.K (run g b'))):PE X (.BoolOp .Or (a::b::r) pos) (tE X.K (run g (.or a' b'))):=
 (CS Y U).imp λσ H Q J=>by
  obtain⟨ι,st,loc,S,L,P⟩:=J;rw[run] at P;obtain⟨x,st1,e1,P⟩:=aY P;obtain⟨i,c,e2,P⟩:=aY P;obtain⟨Z,rfl⟩:=bO e2;have:=cg Z;subst this;refine bi S L e1 λH1 ι1 v B F I=>?_;cases I;refine⟨i,rfl,?_⟩;cases i with
  |false=>rw[if_neg aH];exact⟨ι1,c,loc,F,L.ext B,P.mono B⟩
  |true=>rw[if_pos rfl];exact(P.mono B).same F (.bl true)
theorem zd{op:BoolOp}{t:TT}(h:PT X (.BoolOp op es pos) t):PW X (.BoolOp op es pos) t:=λc pins s σ H Q I q=>by have:=h pins s σ H Q I q;exact this
theorem Ch(U:PT X a (tT X.K (run g a')))(J:PT X (.BoolOp .And (b::r) pos) (tT X.K (run g b'))):PT X (.BoolOp .And (a::b::r) pos) (tT X.K (run g (.and a' b'))):=
 (Ay U (zd J)).pt.imp λσ H Q I=>by
  obtain⟨ι,st,loc,S,L,P⟩:=I;rw[run] at P;obtain⟨x,st1,e1,P⟩:=dG P;obtain⟨i,c,Z,P⟩:=dG P;obtain⟨Y,rfl⟩:=bO Z;have:=cg Y;subst this;refine jl S L e1 λH1 ι1 B F=>?_;cases i with
  |true=>rw[if_pos rfl];exact⟨ι1,c,loc,F,L.ext B,P.mono B⟩
  |false=>rw[if_neg aH];exact P H1 ι1 B F
theorem D7(U:PT X a (tT X.K (run g a')))(J:PT X (.BoolOp .Or (b::r) pos) (tT X.K (run g b'))):PT X (.BoolOp .Or (a::b::r) pos) (tT X.K (run g (.or a' b'))):=
 (CP U (zd J)).pt.imp λσ H Q I=>by
  obtain⟨ι,st,loc,S,L,P⟩:=I;rw[run] at P;obtain⟨x,st1,e1,P⟩:=dG P;obtain⟨i,c,Z,P⟩:=dG P;obtain⟨Y,rfl⟩:=bO Z;have:=cg Y;subst this;refine jl S L e1 λH1 ι1 B F=>?_;cases i with
  |false=>rw[if_neg aH];exact⟨ι1,c,loc,F,L.ext B,P.mono B⟩
  |true=>rw[if_pos rfl];exact P H1 ι1 B F
theorem Cd{op:BoolOp}{t:TT}(c:PT X a t):PT X (.BoolOp op [a] pos) t:=by
 cases op with
 |And=>exact(xS c).pt
 |Or=>exact(Ax c).pt
theorem Dw(c:X.A.units+100<cLine){op:CmpOp}(F:behindInMarks op b=false)(J:PE X a (tE X.K (run g a')))(I:PE X b (tE X.K (run g b'))):PE X (.Compare a [op] [b] pos) (tE X.K (run g (.cmp op a' b'))):=
 (x5 (vS c op) J I F).imp λσ H Q B=>by obtain⟨ι,st,loc,S,L,P⟩:=B;rw[run] at P;exact rq ⟨ι,st,loc,S,L,P⟩
theorem xt{m:Loc->M D}{t:TE}{Q:Bool->Hp->Prop}(k:∀c,tE X.K m σ H c->t σ H c)(h:tT X.K m σ H Q):y4 t σ H Q:=by
 refine k _ ?_;obtain⟨ι,st,loc,S,L,P⟩:=h;obtain⟨b,st1,e,q⟩:=P.inv;exact bi S L e λH1 ι1 v I F B=>by cases B;exact⟨b,rfl,q H1 ι1 I F⟩
theorem Cg(c:X.A.units+100<cLine){op:CmpOp}(F:behindInMarks op b=false)(J:PE X a (tE X.K (run g a')))(I:PE X b (tE X.K (run g b'))):PT X (.Compare a [op] [b] pos) (tT X.K (run g (.cmp op a' b'))):=
 (xU (vS c op) J I F).imp λσ H Q h=>xt (λU B=>by obtain⟨ι,st,loc,S,L,P⟩:=B;rw[run] at P;exact rq ⟨ι,st,loc,S,L,P⟩) h
theorem EQ(c:X.A.units+100<cLine)(hs:ir b=true)(I:PE X a (tE X.K (run g a')))(F:PE X b (tE X.K (run g b'))):PE X (.Subscript a b pos) (tE X.K (run g (.ix a' b'))):=
 (CU (EF c) I F (λo i=>by cases b<;>first|rfl|cases hs)).imp λσ H Q B=>by obtain⟨ι,st,loc,S,L,P⟩:=B;rw[run] at P;exact rq ⟨ι,st,loc,S,L,P⟩
theorem By{lo hi:Option Expr}{h':Ex}{U Y:Bool}{tl th:TO}(ha:PE X a (tE X.K (run g a')))(B:PO X lo tl)(F:PO X hi th)
  (kl:∀{H:Hp}{ι:Nat->Addr}{st st1:a9}{loc:Loc}{σ:L2.St}{o:Option Int}{Q:Option Int->Hp->Prop},Sim X.K H ι st->LRel X.K H ι st.length loc σ->(if U=true then a_ (run g l' loc) λz=>a_ (dI (lu z)) λi=>ret (some i) else ret none) st=R.ok o st1->
   (∀H1 ι1,Ext H H1 ι ι1 st.length st1.length->Sim X.K H1 ι1 st1->Q o H1)->tl σ H Q)
  (kh:∀{H:Hp}{ι:Nat->Addr}{st st1:a9}{loc:Loc}{σ:L2.St}{o:Option Int}{Q:Option Int->Hp->Prop},Sim X.K H ι st->LRel X.K H ι st.length loc σ->(if Y=true then a_ (run g h' loc) λz=>a_ (dI (lu z)) λi=>ret (some i) else ret none) st=R.ok o st1->
   (∀H1 ι1,Ext H H1 ι ι1 st.length st1.length->Sim X.K H1 ι1 st1->Q o H1)->th σ H Q):PE X (.Subscript a (.Slice lo hi none p2) pos) (tE X.K (run g (.sl a' l' h' U Y))):=
 (vJ Eo ha B F).imp λσ H Q hp=>by obtain⟨ι,st,loc,S,L,P⟩:=hp;rw[run] at P;obtain⟨x,st1,e1,P⟩:=aY P;obtain⟨ol,st2,e2,P⟩:=aY P;obtain⟨oh,c,e3,P⟩:=aY P;refine bi S L e1 λH1 ι1 vx J S1 r1=>kl S1 (L.ext J) e2 λH2 ι2 I S2=>kh S2 ((L.ext J).ext I) e3 λH3 ι3 Z S3=>⟨ι3,c,x,S3,(r1.ext I).ext Z,P.mono ((J.trans I).trans Z)⟩
theorem rL{ι:Nat->Addr}{loc:Loc}{o:Option Int}{Q:Option Int->Hp->Prop}(S:Sim X.K H ι st)(L:LRel X.K H ι st.length loc σ)(e:(if false=true then a_ (run g l' loc) λz=>a_ (dI (lu z)) λi=>ret (some i) else ret none) st=R.ok o st1)
  (k:∀H1 ι1,Ext H H1 ι ι1 st.length st1.length->Sim X.K H1 ι1 st1->Q o H1):qY σ H Q:=by
 rw[if_neg aH] at e;cases e;exact k H ι (Ext.refl _ _ _) S
theorem iu{ι:Nat->Addr}{loc:Loc}{o:Option Int}{Q:Option Int->Hp->Prop}(S:Sim X.K H ι st)(L:LRel X.K H ι st.length loc σ)(e:(if true=true then a_ (run g l' loc) λz=>a_ (dI (lu z)) λi=>ret (some i) else ret none) st=R.ok o st1)
  (k:∀H1 ι1,Ext H H1 ι ι1 st.length st1.length->Sim X.K H1 ι1 st1->Q o H1):y7 (tE X.K (run g l')) σ H Q:=by
 rw[if_pos rfl] at e;simp only[a_,ret] at e;cases e1:run g l' loc st with
 |bad=>rw[e1] at e;cases e
 |ok z st2=>
  rw[e1] at e;simp only[dI] at e;cases e2:lu z with
  |none=>rw[e2] at e;cases e
  |some i=>
   rw[e2] at e;cases e;have:=wg e2;subst this;exact bi S L e1 λH1 ι1 v F B c=>by cases c;exact⟨i,rfl,k H1 ι1 F B⟩
theorem Ds{c':Ex}(U:PT X c (tT X.K (run g c')))(Z:PE X a (tE X.K (run g a')))(Y:PE X b (tE X.K (run g b'))):PE X (.IfExp c a b pos) (tE X.K (run g (.ite c' a' b'))):=
 (vL U Z Y).imp λσ H Q J=>by
  obtain⟨ι,st,loc,S,L,P⟩:=J;rw[run] at P;obtain⟨x,st1,e1,P⟩:=aY P;obtain⟨i,B,e2,P⟩:=aY P;obtain⟨e3,rfl⟩:=bO e2;have:=cg e3;subst this;refine jl S L e1 λH1 ι1 F I=>?_;cases i with
  |true=>rw[if_pos rfl];exact⟨ι1,B,loc,I,L.ext F,P.mono F⟩
  |false=>rw[if_neg aH];exact⟨ι1,B,loc,I,L.ext F,P.mono F⟩
theorem ER{as:List Expr}(C:Ctx T g X sc N)(hg:bA sc f=true)(hi:gc T.fns f=some i)(ha:PA X (a::as) (tA X.K (runs g xs)))(hl:(a::as).length=xs.length)
  (he:starEach (a::as) X.env=(false,eval a X.env)::starEach as X.env)(c:(backTo pos (starEach as X.env)).any (·.1)=false):PE X (.Call (.Name f p2) (a::as) [] pos) (tE X.K (run g (.fn i xs))):=by
 obtain⟨hd,ad,fd,ps,k,hm,Y,hb,hr,I,F⟩:=C.fns i f (cM hi)
 have B:Gl X f:=by show X.env.scope.names.lookup f=some .globalImplicit;rw[C.sc];simpa[bA] using hg
 refine(x6 F hr B hm Y hb .nil zf ha hd he c).imp λσ H Q Z=>?_;obtain⟨ι,st,loc,S,L,P⟩:=Z;rw[run] at P;obtain⟨ds,st1,e1,P⟩:=aY P;refine j6 S L e1 λH1 ι1 vs E1 S1 J=>?_;rw[List.append_nil];refine⟨?_,ι1,st1,ds,S1,J,(gW.val P).mono E1⟩;by_cases hps:ds.length=ps.length
 ·rw[<-J.length];exact hps
 ·have U:=gW.val (E:=E0) P;rw[I ds st1 hps] at U;exact U.elim
theorem ES{b:Bt}{as:List Expr}(C:Ctx T g X sc N)(U:T.calm=true)(hg:bA sc f=true)(hb:BJ.lookup f=some b)(Y:PA X (a::as) (tA X.K (runs g xs)))
  (J:starEach (a::as) X.env=(false,eval a X.env)::starEach as X.env)(B:(backTo pos (starEach as X.env)).any (·.1)=false):PE X (.Call (.Name f p2) (a::as) [] pos) (tE X.K (run g (.bt b xs))):=by
 have F:Gl X f:=by show X.env.scope.names.lookup f=some .globalImplicit;rw[C.sc];simpa[bA] using hg
 have I:∀x:Str,x∈tV->X.mg x=none:=C.blt
 have key:PE X (.Call (.Name f p2) (a::as) [] pos) (Ek (rB X.K b) (tA X.K (runs g xs))):=by
  have c:=aQ hb;have Z:fO X b.val (rB X.K b):=BI (C.calm U) b;simp only[BJ,List.mem_cons,List.mem_nil_iff,Prod.mk.injEq,or_false] at c;rcases c with⟨rfl,rfl⟩|⟨rfl,rfl⟩|⟨rfl,rfl⟩|⟨rfl,rfl⟩|⟨rfl,rfl⟩|⟨rfl,rfl⟩|⟨rfl,rfl⟩
  ·exact km Z F (I _ (by decide+kernel)) PySem.boot_len Y (by decide+kernel) (by decide+kernel) J B
  all_goals first
   |exact sR Z F (I _ (by decide+kernel)) (by decide+kernel) Y (by decide+kernel) (by decide+kernel) J B
   |exact km Z F (I _ (by decide+kernel)) (by decide+kernel) Y (by decide+kernel) (by decide+kernel) J B
 refine key.imp λσ H Q hp=>?_;obtain⟨ι,st,loc,S,L,P⟩:=hp;rw[run] at P;obtain⟨ds,st1,e1,P⟩:=aY P;exact j6 S L e1 λH1 ι1 vs E1 S1 r1=>⟨ι1,st1,ds,S1,r1,P.mono E1⟩
end
set_option maxHeartbeats 8000000
section
variable{T:Tab}{g:fR}{X:Cx}{sc:Scope}{N:List Str}{pos px:Pos}
theorem dz(C:Ctx T g X sc N)(h:cR sc scope N x=true):CompScope X x scope/\(x::iN scope X.N).Nodup/\(x==("__debug__":Str))=false/\(x==("__classdict__":Str))=false:=by
 unfold cR at h;simp only[Bool.and_eq_true,List.all_eq_true] at h;obtain⟨⟨⟨⟨⟨⟨h1,h2⟩,h3⟩,h4⟩,Z⟩,I⟩,Y⟩:=h;have J:(x::iN scope N).Nodup:=of_decide_eq_true h3;refine⟨⟨by simpa using h1,λy B=>?_,λy B F=>?_,by simpa using h2,λy B U=>?_,λy B F=>?_⟩,by rw[C.n];exact J,by simpa using h4,by simpa using Z⟩
 ·obtain⟨⟨a,b⟩,c⟩:=I y B;simpa using a
 ·obtain⟨⟨a,b⟩,c⟩:=I y B;rw[F] at b;simpa using b
 ·obtain⟨⟨a,b⟩,c⟩:=I y B;rw[U] at c;have c':sc.names.lookup y.1=some .cell∨sc.names.lookup y.1=some .free:=by simpa using c
  show X.env.scope.names.lookup y.1=_∨X.env.scope.names.lookup y.1=_;rw[C.sc];exact c'
 ·rw[C.n] at B;obtain⟨⟨a,b⟩,c⟩:=Y y B;rw[F] at a;simpa using a
theorem zj{y:Str}(C:Ctx T g X sc N)(h:cR sc scope N x=true)(F:y∈iN scope N):(y==("__debug__":Str))=false/\(y==("__classdict__":Str))=false:=by
 unfold cR at h;simp only[Bool.and_eq_true,List.all_eq_true] at h;obtain⟨z,B,rfl⟩:=List.mem_map.mp F;split
 ·obtain⟨⟨a,b⟩,c⟩:=h.2 z B;exact⟨by simpa using b,by simpa using c⟩
 ·exact C.nm z B
theorem iG(C:Ctx T g X sc N)(h:cR sc scope N x=true)(fp:List Addr)(s:Shared)(H:Hp):Ctx T g (bJ X x scope fp s H) (iW sc scope) (x::iN scope N):=by
 obtain⟨h1,I,F,B⟩:=dz C h;refine⟨?_,?_,by rw[<-C.n];exact I,λy c=>?_,C.calm,C.un,C.fns,C.csts,C.blt,C.icl,C.mks⟩
 ·show relabel scope X.env=iW sc scope;rw[<-C.sc];rfl
 ·show x::iN scope X.N=x::iN scope N;rw[C.n]
 ·rcases List.mem_cons.mp c with rfl|c
  ·exact⟨F,B⟩
  ·exact zj C h c
theorem l_{K:aA}{e:Ex}:EltOk K xu (tE K (run g e)) (λloc x=>a_ (run g e (some x::loc)) λy=>ret (some y)) where
 turn:=λ{H ι st st1 loc σ x v o Q} S L rv c k=>by
  unfold xu;refine EG ?_;simp only[a_,ret] at c;cases e2:run g e (some x::loc) st with
  |bad=>rw[e2] at c;cases c
  |ok y st2=>rw[e2] at c;cases c;exact bi S (L.cons rv) e2 λH1 ι1 w I F B=>k H1 ι1 (some w) I F B
theorem Bw{K:aA}{c e:Ex}:EltOk K (tT K (run g c)) (tE K (run g e)) (λloc x=>a_ (run g c (some x::loc)) λz=>a_ (dI (eS z)) λk=>if k then a_ (run g e (some x::loc)) λy=>ret (some y) else ret none) where
 turn:=λ{H ι st st1 loc σ x v o Q} S L rv B k=>by
  simp only[a_] at B;cases e2:run g c (some x::loc) st with
  |bad=>rw[e2] at B;cases B
  |ok z st2=>
   rw[e2] at B;simp only[dI] at B;cases e3:eS z with
   |none=>rw[e3] at B;cases B
   |some b=>
    rw[e3] at B;have:=cg e3;subst this;refine jl S (L.cons rv) e2 λH1 ι1 F I=>?_;cases b with
    |true=>
     rw[if_pos rfl];simp only[if_true,a_,ret] at B;cases e4:run g e (some x::loc) st2 with
     |bad=>rw[e4] at B;cases B
     |ok y st3=>rw[e4] at B;cases B;exact bi I ((L.cons rv).ext F) e4 λY ι2 w Z U J=>k Y ι2 (some w) (F.trans Z) U J
    |false=>rw[if_neg aH];simp only[Bool.false_eq_true,if_false,ret] at B;cases B;exact k H1 ι1 none F I True.intro
theorem mP{k:Loc->Src->M D}{Q:VK}{RR:It->Hp->Prop}(h:tE X.K (λloc=>a_ (run g s' loc) λd=>a_ (dI (da false d)) λs=>k loc s) σ H Q)
  (hk:∀{J:It}{s:Src}{ι ι1:Nat->Addr}{st st1:a9}{loc:Loc}{H1:Hp},c_ X.K J s H1 ι1 st1.length->Ext H H1 ι ι1 st.length st1.length->Sim X.K H1 ι1 st1->LRel X.K H1 ι1 st1.length loc σ->cu X.K H ι st (k loc s st1) Q->RR J H1)
  (c:∀loc n st,(∀xs,st[n]?≠some (.lst xs))->k loc (.at n) st=.bad):Dc X.K (tE X.K (run g s')) σ H RR:=by
 obtain⟨ι,st,loc,S,L,P⟩:=h;obtain⟨d,st1,e1,P⟩:=aY P;obtain⟨s,B,Z,P⟩:=aY P;obtain⟨I,rfl⟩:=bO Z;refine bi S L e1 λH1 ι1 v F U Y=>?_;cases Y with
 |tup h r=>cases I;exact⟨_,rfl,.inr ⟨⟨_,h⟩,hk (c_.tup h r) F U (L.ext F) P⟩⟩
 |fl h r=>cases I;exact⟨_,rfl,.inl ⟨⟨_,h.sql⟩,hk (c_.fl h r) F U (L.ext F) P⟩⟩
 | @ref n hn=>
  cases I;cases q:B[n]? with
  |none=>
   rw[c loc n B (λxs z=>by rw[q] at z;cases z)] at P
   exact P.elim
  |some o=>
   cases o with
   |lst xs=>obtain⟨vs,h1,_⟩:=U.ob n _ q;exact⟨_,rfl,.inl ⟨⟨vs,dD.of h1⟩,hk (c_.ref hn) F U (L.ext F) P⟩⟩
   |_=>
    rw[c loc n B (λxs z=>by rw[q] at z;cases z)] at P
    exact P.elim
 |_=>cases I
theorem xx{k:Loc->Src->M D}{Q:VK}{RR:It->Hp->Prop}(h:tE X.K (λloc=>a_ (run g s' loc) λd=>a_ (dI (da true d)) λs=>k loc s) σ H Q)
  (hk:∀{J:It}{s:Src}{ι ι1:Nat->Addr}{st st1:a9}{loc:Loc}{H1:Hp},c_ X.K J s H1 ι1 st1.length->Ext H H1 ι ι1 st.length st1.length->Sim X.K H1 ι1 st1->LRel X.K H1 ι1 st1.length loc σ->cu X.K H ι st (k loc s st1) Q->RR J H1):
  zu (uH (tE X.K (run g s')) xv) σ H RR:=by
 obtain⟨ι,st,loc,S,L,P⟩:=h;obtain⟨d,st1,Y,P⟩:=aY P;obtain⟨s,F,U,P⟩:=aY P;obtain⟨c,rfl⟩:=bO U;refine bi S L Y λH1 ι1 v B Z I=>?_;cases I with
 |int j=>
  simp only[da] at c;split at c
  ·rename_i hj;cases c;exact⟨j,rfl,by omega,by omega,hk c_.rng B Z (L.ext B) P⟩
  ·cases c
 |_=>cases c
theorem rM(h:∀xs,st[n]?≠some (.lst xs)):eK (.at n) i st=none:=by
 unfold eK;show(match st[n]? with|some (.lst xs)=>some xs[i]?|_=>none)=none
 cases q:st[n]? with
 |none=>rfl
 |some o=>
  cases o with
  |lst xs=>exact absurd q (h xs)
  |_=>rfl
theorem kY{f:D->M (Option D)}(n:Nat)(st:a9)(h:∀xs,st[n]?≠some (.lst xs)):cA f (.at n) st=.bad:=by
 unfold cA;split
 ·simp only[a_,eQ,rM h]
 ·rfl
def gy(g:fR)(X:Cx)(x:Str)(px:Pos)(iter:Expr)(ifs:List Expr)(elt:Expr)(scope:Scope)(y:Ex):Prop:=
 ∃wi tc te,PI X (.Name x px) iter wi/\(∀fp s H,xj (bJ X x scope fp s H) ifs tc)/\(∀fp s H,PE (bJ X x scope fp s H) elt te)/\(∀v,foldedSetIterable iter X.env v=pure v)/\∀σ H Q,tE X.K (run g y) σ H Q->qZ wi tc te σ H Q
theorem gy.pe(C:Ctx T g X sc N)(B:T.calm=true)(F:cR sc scope N x=true)(h:gy g X x px iter ifs elt scope y):PE X (.ListComp elt [⟨.Name x px,iter,ifs,0⟩] scope pos) (tE X.K (run g y)):=by
 obtain⟨J,U,te,a,b,c,d,e⟩:=h;obtain⟨h1,I,_,_⟩:=dz C F;exact(rK (pos:=pos) (C.calm B) h1 I (by rw[C.n];exact C.nd) a b c d).imp e
theorem gy.ps{z:Str}{py spos:Pos}(C:Ctx T g X sc N)(B:T.calm=true)(Y:cR sc scope N x=true)(h:gy g X x px iter ifs elt scope y)(F:X.N[i]? =some z)(J:L2.Loc X.env.scope z)(U:X.fn z=true∨X.env.scope.names.lookup z=some .local):
  PS X (.Assign [.Name z py] (.ListComp elt [⟨.Name x px,iter,ifs,0⟩] scope pos) spos) (pT (tE X.K (run g y)) (fe i)):=by
 obtain⟨wi,tc,te,a,b,c,d,e⟩:=h;obtain⟨h1,Z,_,_⟩:=dz C Y;exact λpins s σ H D I q=>(qd (py:=py) (pos:=pos) (spos:=spos) (C.calm B) h1 Z (by rw[C.n];exact C.nd) a b c d F J U) pins s σ H D I (e _ _ _ q)
variable{x:Str}{elt it:Expr}{scope:Scope}{s' c' e':Ex}
theorem BE(C:Ctx T g X sc N)(hc:cR sc scope N x=true)(hs:PE X it (tE X.K (run g s')))(I:∀fp s H,PE (bJ X x scope fp s H) elt (tE X.K (run g e')))(B:∀v,foldedSetIterable it X.env v=pure v):
  gy g X x px it [] elt scope (.comp false s' e'):=by
 refine⟨_,_,_,mU hs,λ_ _ _=>jM,I,B,λσ H Q c=>?_⟩;obtain⟨ι,st,loc,S,L,P⟩:=c;rw[run] at P;exact(mP (k:=λloc s=>cA (λx=>a_ (run g e' (some x::loc)) λy=>ret (some y)) s) ⟨ι,st,loc,S,L,P⟩ (λ{J s ι ι1 st st1 loc H1} F E U Z Y=>gH (loc:=loc) (f:=λloc x=>a_ (run g e' (some x::loc)) λy=>ret (some y)) l_ F E U Z Y) (λ_=>kY))
theorem wI(C:Ctx T g X sc N)(hc:cR sc scope N x=true)(hs:PE X it (tE X.K (run g s')))(B:∀fp s H,PT (bJ X x scope fp s H) c (tT X.K (run g c')))(Y:∀fp s H,PE (bJ X x scope fp s H) elt (tE X.K (run g e')))(U:∀v,foldedSetIterable it X.env v=pure v):
  gy g X x px it [c] elt scope (.compIf s' c' e'):=by
 refine⟨_,_,_,mU hs,λfp s H=>xT (B fp s H),Y,U,λσ H Q I=>?_⟩;obtain⟨ι,st,loc,S,L,P⟩:=I;rw[run] at P
 exact(mP (k:=λloc s=>cA (λx=>a_ (run g c' (some x::loc)) λz=>a_ (dI (eS z)) λk=>if k then a_ (run g e' (some x::loc)) λy=>ret (some y) else ret none) s) ⟨ι,st,loc,S,L,P⟩
  (λ{J s ι ι1 st st1 loc H1} F E Z L1 P1=>gH (loc:=loc) (f:=λloc x=>a_ (run g c' (some x::loc)) λz=>a_ (dI (eS z)) λk=>if k then a_ (run g e' (some x::loc)) λy=>ret (some y) else ret none) Bw F E Z L1 P1) (λ_=>kY))
variable{a:Expr}{p3 p4:Pos}
theorem yL(C:Ctx T g X sc N)(hc:cR sc scope N x=true)(U:bA sc "range"=true)(c:starEach [a] X.env=[(false,eval a X.env)])(hs:PE X a (tE X.K (run g s')))(Y:∀fp s H,PE (bJ X x scope fp s H) elt (tE X.K (run g e'))):
  gy g X x px (.Call (.Name "range" p3) [a] [] p4) [] elt scope (.comp true s' e'):=by
 have B:Gl X "range":=by show X.env.scope.names.lookup _=some .globalImplicit;rw[C.sc];simpa[bA] using U
 refine⟨_,_,_,lO B (C.blt _ (by decide+kernel)) (b9 hs dN c) c,λ_ _ _=>jM,Y,λ_=>rfl,λσ H Q I=>?_⟩
 obtain⟨ι,st,loc,S,L,P⟩:=I;rw[run] at P;exact(xx (k:=λloc s=>cA (λx=>a_ (run g e' (some x::loc)) λy=>ret (some y)) s) ⟨ι,st,loc,S,L,P⟩ (λ{J s ι ι1 st st1 loc H1} F E Z L1 P1=>gH (loc:=loc) (f:=λloc x=>a_ (run g e' (some x::loc)) λy=>ret (some y)) l_ F E Z L1 P1))
end
theorem pC{T:Tab}{N:List Str}{x:Ex}(h:cE T n sc N b=some x)(op:CmpOp):behindInMarks op b=false:=by
 cases n with
 |zero=>cases h
 |succ n=>cases b<;>first|rfl|cases h
theorem jX{T:Tab}{N:List Str}{x:Ex}(h:cE T n sc N b=some x)(env:Env)(v:Value):foldedSetIterable b env v=pure v:=by
 cases n with
 |zero=>cases h
 |succ n=>cases b<;>first|rfl|cases h
theorem bT{T:Tab}{N:List Str}{x:Ex}(h:cE T n sc N b=some x)(es:List Expr)(env:Env):starEach (b::es) env=(false,eval b env)::starEach es env:=by
 cases n with
 |zero=>cases h
 |succ n=>cases b<;>first|rfl|cases h
end Ev
set_option maxHeartbeats 4000000
namespace L2
open PySem PySem.Spec PyProof.Rows
variable{ifs:List Expr}{scope:Scope}{x y:Str}{elt iter tg:Expr}
def jK(wi:TI)(g:TG)(tc:TT)(te:TE):TE:=λσ H Q=>wi σ H λJ H1=>∀D,H1 D=none->∃W:Nat->Nat->List V->Hp->Prop,(∃m,W 0 m [] (upd H1 D (.lst [])))/\∀i m ys H2,W i m ys H2->
 (J.stop i H2/\Q (.ref D) H2)∨(J.go i H2/\∃N:List V->Hp->Prop,(∀ys' H',N ys' H'->∃m',m'<m/\W (i+1) m' ys' H')/\
  ∀x H',J.yld i H2 x H'->∀o1 o2,g x (o1::o2::σ) H' λσ2 H3=>(∃p1 p2,σ2=p1::p2::σ)/\tc σ2 H3 λb H5=>if b=true then te σ2 H5 λy H4=>H4 D=some (.lst ys)/\ys.length<sizeLine/\N (ys++[y]) (upd H4 D (.lst (ys++[y]))) else N ys H5)
theorem kX{X:Cx}{pos:Pos}{wi:TI}{g:TG}{tc:TT}{te:TE}(hc:X.calm=true)(C:CompScope X x scope)
  (hi:PI X tg iter wi)(hg:∀fp s H,PG (bx X x y scope fp s H) tg g)(ht:∀fp s H,xj (bx X x y scope fp s H) ifs tc)(he:∀fp s H,PE (bx X x y scope fp s H) elt te)
  (hs:∀x,foldedSetIterable iter X.env x=pure x){pins:List (Addr×Obj)}{s:Shared}{σ:St}{H:Hp}{Q:VK}(I:Inv X pins σ H s)(h:jK wi g tc te σ H Q)
  {use:Option (Value->Sem Unit)}{QQ:Value->Shared->Prop}{ppos:Pos}
  (fin:∀{fp:List Addr}{F s5:Shared}{Y H4:Hp}{D:Addr}{o1 Z:Option V},Inv X pins σ Y F->(∀b∈fp,eZ X pins Y b)->Inv (bx X x y scope fp F Y) pins (o1::Z::σ) H4 s5->Q (.ref D) H4->compPost (model X.prog X.w) X.A X.xe use QQ (.ref D) F.heap.objs.size (.ok .next) s5):
  wpAny (model X.prog X.w) X.A (comprehension (.ListComp elt [⟨tg,iter,ifs,0⟩] scope pos) scope X.env ppos (newList []) false (eval iter X.env) use) QQ X.xe s:=by
 refine wpAny_comprehension_free rfl hs (fN (C.cells I.ok)) C.kind C.locs (bW (hi pins s σ H _ I h) λv s1 h1=>bW h1 λitv B h2=>?_);obtain⟨it,fp,tn,J,H2,e,I2,T,st2,f2,R⟩:=h2;subst e;have hD:H2 B.heap.objs.size=none:=I2.hok.fresh (ac _);obtain⟨W,⟨m0,w0⟩,turn⟩:=R _ hD;refine wpAny_newObj_type (wpAny_newFunctionEnv C.nocell (by intro y hy;simp at hy) (λh₁ hns₁ hsb₁=>?_) C.kind)
 dsimp only at hns₁ hsb₁ ⊢
 have I3:Inv X pins σ (upd H2 B.heap.objs.size (.lst [])) {B with heap:=B.heap.push {cls:= .type "list",dict:=none,data:= .seq ([]:List Value).toArray}}:=
  I2.laid (t':=B.toks) (o:= .lst []) (λb ob q=>ae _ q) (ac _) ⟨Nat.zero_le _,[],0,.nil,aq _ rfl⟩
 have f3:∀b∈fp,eZ X pins (upd H2 B.heap.objs.size (.lst [])) b:=λb U=>by
  obtain⟨o,e,_⟩:=T.obj _ _ st2 b U;obtain⟨g0,g⟩:=f2 b U;exact⟨by rw[aL (au (am e))];exact g0,g⟩
 have o3:∀b∈fp,∃o,(B.heap.push {cls:= .type "list",dict:=none,data:= .seq ([]:List Value).toArray}).get? b=some o:=λb U=>by obtain⟨o,e,_⟩:=T.obj _ _ st2 b U;exact⟨o,ae _ e⟩
 have old:∀b o,(B.heap.push {cls:= .type "list",dict:=none,data:= .seq ([]:List Value).toArray}).get? b=some o->h₁.get? b=some o:=λb o e=>
  hsb₁.extBut b o (au (am e)) (ae _ e)
 have K0:=tQ (x:=x) (y:=y) (scope:=scope) (fp:=fp) (h':=h₁) (tk:=B.toks) I3 C f3 o3 hns₁ old;have st3:tn 0 h₁:=T.keep _ _ _ st2 λb _ o e=>old b o (ae _ e);generalize hs3:({B with heap:=B.heap.push {cls:= .type "list",dict:=none,data:= .seq ([]:List Value).toArray}}:Shared)=F at I3 K0;have es3:B.heap.push {cls:= .type "list",dict:=none,data:= .seq ([]:List Value).toArray}=F.heap:=by rw[<-hs3]
 generalize hH3:upd H2 B.heap.objs.size (.lst [])=Y at I3 K0 f3 w0
 have stat:∀{H':Hp},(∀b∈fp,H' b=none)->∀b∈fp,eZ (bx X x y scope fp F Y) pins H' b:=λ{H'} hn b U=>by
  obtain⟨o,e⟩:=o3 b U;rw[es3] at e;obtain⟨g0,g1,g2,g3,g4,g5⟩:=f3 b U;refine⟨hn b U,au (am e),λz=>?_,.inl U,λy c h=>g4 y c (C.cell_of I.ok h).2,g5⟩;rcases List.mem_cons.mp (I3.stkSub _ z) with q|q
  ·exact g1 q
  ·exact g2 q
 have loop:codeAny (model X.prog X.w) X.A (.compLoop (.ListComp elt [⟨tg,iter,ifs,0⟩] scope pos) 0 (.ref it) (.ref B.heap.objs.size) (bx X x y scope fp F Y).env)
   (compPost (model X.prog X.w) X.A X.xe use QQ (Value.ref B.heap.objs.size) F.heap.objs.size) {F with heap:=h₁,toks:=B.toks}:=by
  refine ju (λn s'=>∃i o1 Z ys H',Inv (bx X x y scope fp F Y) pins (o1::Z::σ) H' s'/\tn i s'.heap/\(∀b∈fp,H' b=none)/\W i n ys H') ?_ m0 ⟨0,none,none,[],Y,K0,st3,λb U=>(f3 b U).1,w0⟩;rintro n s4 ⟨i,o1,Z,ys,H4,I4,st4,fr4,w4⟩;rcases turn i n ys H4 w4 with⟨stop,qn⟩|⟨go,N,hNN,step⟩
  ·refine bW (T.done (bx X x y scope fp F Y) rfl rfl rfl hc i pins s4 (o1::Z::σ) H4 _ I4 (stat fr4) st4 stop) λr s5 ⟨hr,I5⟩=>?_;subst hr;exact fin I3 f3 I5 qn
  ·refine bW (T.item (bx X x y scope fp F Y) rfl rfl rfl hc i pins s4 (o1::Z::σ) H4 _ I4 (stat fr4) st4 go) λr s5 hp=>?_;obtain⟨u,hr,h5⟩:=hp;subst hr;refine bW h5 λ_ s6 hp=>?_;obtain⟨yv,H6,I6,r6,y6,st6,fr6⟩:=hp;have I6':=I6.pinned (stat fr6) (T.obj _ _ st6)
   have keepS:∀{q1 q2:Option V}{H':Hp}{s':Shared},Inv (bx X x y scope fp F Y) (pins++iY fp s6.heap) (q1::q2::σ) H' s'->tn (i+1) s'.heap/\∀b∈fp,H' b=none:=λ{q1 q2 H' s'} I'=>by refine⟨T.keep _ _ _ st6 λb U o e=>(I'.pin (b,o) (aK _ (aK _ (dv U e)))).1,λb U=>?_⟩;obtain⟨o,e,d⟩:=T.obj _ _ st6 b U;exact(I'.pin (b,o) (aK _ (aK _ (dv U e)))).2.1
   refine aW (hg fp F Y _ s6 (o1::Z::σ) H6 yv u _ I6' r6 (step yv H6 y6 o1 Z)) (λ_ s7 ⟨σ7,H7,I7,⟨p1,p2,hσ⟩,q7⟩=>?_) λ_ _ z=>False.elim z;subst hσ;refine aW (ht fp F Y _ s7 (p1::p2::σ) H7 _ I7 q7) (λbb s8 ⟨H8,I8,q8⟩=>?_) λ_ _ z=>False.elim z;cases bb with
   |false=>rw[if_neg aH] at q8 ⊢;obtain⟨m',hm,w8⟩:=hNN ys H8 q8;obtain⟨a1,a2⟩:=keepS I8;exact⟨m',hm,i+1,p1,p2,ys,H8,I8.unpinned,a1,a2,w8⟩
   |true=>
   rw[if_pos rfl] at q8 ⊢;refine aW (he fp F Y _ s8 (p1::p2::σ) H8 _ I8 q8) (λv9 s9 ⟨y9,H9,I9,r9,hacc,hsz,q9⟩=>?_) λ_ _ z=>False.elim z;refine aW (i5 (X:=bx X x y scope fp F Y) _ s9 (p1::p2::σ) H9 (.ref B.heap.objs.size) [y9] _ [v9] (λ_ H'=>N (ys++[y9]) H') I9 rfl (.cons r9 .nil) ⟨_,_,_,rfl,rfl,hacc,hsz,q9⟩) (λ_ s10 ⟨_,H10,I10,_,q10⟩=>?_) λ_ _ z=>False.elim z;obtain⟨m',hm,w10⟩:=hNN _ H10 q10;obtain⟨a1,a2⟩:=keepS I10;exact⟨m',hm,i+1,p1,p2,_,H10,I10.unpinned,a1,a2,w10⟩
 have eC:(B.heap.push {cls:= .type "list",dict:=none,data:= .seq ([]:List Value).toArray}).objs.size=F.heap.objs.size:=by rw[es3]
 rw[eC];have es4:({heap:=h₁,gens:=B.gens,drawn:=B.drawn,toks:=B.toks+([]:List (Str×Value)).length,os:=B.os}:Shared)={F with heap:=h₁,toks:=B.toks}:=by rw[<-hs3];rfl
 rw[es4];exact codeAny_compStart_list loop (T.self _ 0 _ _ _ st3 loop)
theorem lP{X:Cx}{pos:Pos}{B:TI}{g:TG}{F:TT}{te:TE}(hc:X.calm=true)(C:CompScope X x scope)
  (hi:PI X tg iter B)(hg:∀fp s H,PG (bx X x y scope fp s H) tg g)(ht:∀fp s H,xj (bx X x y scope fp s H) ifs F)(he:∀fp s H,PE (bx X x y scope fp s H) elt te)
  (hs:∀x,foldedSetIterable iter X.env x=pure x):PE X (.ListComp elt [⟨tg,iter,ifs,0⟩] scope pos) (jK B g F te):=by
 intro pins s σ H Q I h;rw[eval_ListComp];refine kX (use:=none) hc C hi hg ht he hs I h λI3 f3 J Y=>?_;obtain⟨Z,c,_⟩:=id J.loc;exact⟨Z,c,λh' U=>⟨.ref _,_,mh I3 f3 J U,rfl,Y⟩⟩
theorem n8{X:Cx}{z:Str}{p1 p2 p3 J:Pos}{k:Nat}{pos spos:Pos}{wi:TI}{g:TG}{tc:TT}{te:TE}{i:Nat}(hc:X.calm=true)(C:CompScope X x scope)(hN:X.N.Nodup)
  (hi:PI X (.Tuple [.Name x p1,.Name y p2] k p3) iter wi)(hg:∀fp s H,PG (bx X x y scope fp s H) (.Tuple [.Name x p1,.Name y p2] k p3) g)(ht:∀fp s H,xj (bx X x y scope fp s H) ifs tc)(he:∀fp s H,PE (bx X x y scope fp s H) elt te)
  (hs:∀x,foldedSetIterable iter X.env x=pure x)(hy:X.N[i]? =some z)(hl:Loc X.env.scope z)(hf:X.fn z=true∨X.env.scope.names.lookup z=some .local):
  PS X (.Assign [.Name z J] (.ListComp elt [⟨.Tuple [.Name x p1,.Name y p2] k p3,iter,ifs,0⟩] scope pos) spos) (pT (jK wi g tc te) (fe i)):=by
 have B:∃b,swapsWith (.ListComp elt [⟨.Tuple [.Name x p1,.Name y p2] k p3,iter,ifs,0⟩] scope pos) (some (.Name z J)) spos.line X.env=pure b:=⟨_,rfl⟩;obtain⟨b,B⟩:=B;cases b with
 |false=>exact qe hN hy hl (lP hc C hi hg ht he hs) B hf
 |true=>
  intro pins s σ H D I h;rw[exec_Assign_Name_used _ _ _ _ B];refine aa (wpAny_standAt (aa ?_));show wpAny _ X.A (do let _ <-comprehension (.ListComp elt [⟨.Tuple [.Name x p1,.Name y p2] k p3,iter,ifs,0⟩] scope pos) scope X.env _ (newList []) false (eval iter X.env) (some (assign (.Name z J) X.env))) _ _ s
  refine aa (aW (kX (use:=some (assign (.Name z J) X.env)) (QQ:=λ_ s'=>SP X pins D .next s') hc C hi hg ht he hs I h λ{fp Y s5 H3 H4 Dd o1 o2} F f3 I5 qn=>?_) (λ_ s' hq=>ah (ah hq)) λ_ _ e=>e)
  have I6:Inv X pins σ H4 s5:=by have:=mh F f3 I5 (Heap.SameBut.refl _ _);exact this
  obtain⟨m5,hn5,_⟩:=id I5.loc;have hC0:H4 Y.heap.objs.size=none:=I5.free;have U:X.env.locals≠Y.heap.objs.size:=au F.lt;show wpAny _ X.A (assign (.Name z J) X.env (.ref Dd)) _ _ _;refine wpAny_assign_Name (iS (v:= .ref Dd) I6 hN hy hl rfl (λs7 I7 hch=>?_) hf);obtain⟨a,sb,ha⟩:=hch
  have hCa:Y.heap.objs.size≠a:=by
   rcases ha with rfl|ha
   ·exact U.symm
   ·obtain⟨v,q⟩:=F.cell z a ha;exact(au q.lt).symm
  refine⟨m5,hn5.sameBut sb hCa,λh' Z=>⟨_,H4,?_,qn⟩⟩;refine I7.turned (t':=s7.toks) (it:=Y.heap.objs.size) (λb o B e=>(Z.2 b B).trans e) hC0 U.symm (.inr F.sz) (λz c e=>?_) λp hp=>?_
  ·obtain⟨v,q⟩:=F.cell z c e;exact au q.lt
  ·exact au (am (F.pin p hp).1)
end L2
namespace PySem
open Sem (wp)
open AutoSeq1 (wpAny_loadPart')
variable{i i1 i2 it l t z:Addr}{h h':Heap}{c c1 c2:Bool}{Q:Value->Shared->Prop}{x y:Value}{qs:Array Value}
noncomputable def c8:Bool->Heap->Addr->Addr->Nat->Prop
 |true,h,i,l,k=>h.IsListIter i l k
 |false,h,i,l,k=>h.IsTupleIter i l k
noncomputable def dW:Bool->Heap->Addr->Array Value->Prop
 |true,h,l,ps=>h.IsList l ps
 |false,h,l,ps=>h.IsTuple l ps
noncomputable def oJ:Bool->String
 |true=> "list_iterator"
 |false=> "tuple_iterator"
theorem c8.at{k:Nat}(j:c8 c h i l k)(f:∀o,h.get? i=some o->h'.get? i=some o):c8 c h' i l k:=by
 cases c
 ·exact cC j f
 ·exact Heap.IsListIter.at j f
theorem dW.at{ps:Array Value}(j:dW c h l ps)(f:∀o,h.get? l=some o->h'.get? l=some o):dW c h' l ps:=by
 cases c
 ·exact ij j f
 ·exact Heap.IsList.at j f
theorem c8.obj{k:Nat}(j:c8 c h i l k):∃o,h.get? i=some o/\∀v,o.data≠ .cell v:=by
 cases c<;>obtain⟨o,q,_,d⟩:=j<;>exact⟨o,q,λv z=>by rw[d] at z;cases z⟩
theorem dW.lt{ps:Array Value}(j:dW c h l ps):l<h.objs.size:=by cases c<;>obtain⟨o,e,_⟩:=j<;>exact am e
section
variable{prog:Program}{w:World}{A:Around}{E:Value->Shared->Prop}{s:Shared}
theorem m7{i:Nat}{items:Array Value}(B:c8 c s.heap it l i)(I:dW c s.heap l items)(F:items[i]? =some x)(J:∀h',c8 c h' it l (i+1)->Heap.SameBut it s.heap h'->Q x {s with heap:=h'}):
  wpAny (model prog w) A (Builtin.SmallTypes.nextOf (.ref it)) Q E s:=by
 cases c
 ·exact nS B I F J
 ·exact wpAny_nextOf_list_item B I F J
theorem wa{i:Nat}{items:Array Value}(J:A.handled=none)(B:c8 c s.heap it l i)(I:dW c s.heap l items)(F:items[i]? =none)
  (U:∀h' e,Heap.ExtBut it s.heap h'->(∃o,h'.get? e=some o/\o.cls=.type "StopIteration")->E (.ref e) {s with heap:=h'}):wpAny (model prog w) A (Builtin.SmallTypes.nextOf (.ref it)) Q E s:=by
 cases c
 ·exact mH J B I F U
 ·exact wpAny_nextOf_list_end J B I F U
theorem rX{items:Array Value}(B:dW c s.heap l items)
  (F:Q (.ref s.heap.objs.size) {s with heap:=s.heap.push {cls:= .type (oJ c),data:= .fields #[.ref l,.int 0 0]}}):wpAny (model prog w) A (pyIter (.ref l)) Q E s:=by
 cases c
 ·exact wpAny_pyIter_tuple B F
 ·exact wpAny_pyIter_list B F
theorem c8.new(e:h.get? i=some {cls:= .type (oJ c),data:= .fields #[.ref l,.int 0 0]}):c8 c h i l 0:=by cases c<;>exact⟨_,e,rfl,rfl⟩
end
section
variable{prog:Program}{w:World}{A:Around}{E:Value->Shared->Prop}{s:Shared}
theorem t_{TI TO:Addr}{k:Nat}{ps:Array Value}{c d:Value}(Z:ZipApart z TI TO i1 i2 t l)
  (gz:IsZip s.heap z TI TO .none)(gI:IsPair s.heap TI (.ref i1) (.ref i2))(gO:IsPair s.heap TO c d)(j1:c8 c1 s.heap i1 t k)(j2:c8 c2 s.heap i2 l k)(m1:dW c1 s.heap t ps)(m2:dW c2 s.heap l qs)(hx:ps[k]? =some x)(hy:qs[k]? =some y)
  (fin:∀g,IsZip g z TI TO (rawInt s.heap.objs.size)->IsPair g TO x y->c8 c1 g i1 t (k+1)->c8 c2 g i2 l (k+1)->IsPair g s.heap.objs.size x y->g.objs.size=s.heap.objs.size+1->
   (∀b o,b≠z->b≠TO->b≠i1->b≠i2->s.heap.get? b=some o->g.get? b=some o)->Q (.ref s.heap.objs.size) {s with heap:=g}):
  wpAny (model prog w) A (Builtin.«zip.__next__» ⟨[.ref z],[]⟩) (λr u=>∃v,r=.done (.ret v)/\Q v u) E s:=by
 show wpAny _ _ (field (.ref z) 2>>=_) _ _ _;refine aa (a8 gz rfl (x:= .bool false) rfl ?_);show wpAny _ _ (field (.ref z) 3>>=_) _ _ _;refine aa (a8 gz rfl (x:= .ref TI) rfl ?_);refine aa (wpAny_seqItems gI rfl ?_);show wpAny _ _ (Builtin.SmallTypes.ownedTupleIsFree (.ref z)>>=_) _ _ _;refine aa ?_;unfold Builtin.SmallTypes.ownedTupleIsFree;refine aa (a8 gz rfl (x:= .none) rfl (ah ?_));simp only[if_true];refine aa (wpAny_rule (aa (a8 gz rfl (x:= .ref TO) rfl ?_)));refine aa (bB gz (by simp) λg1 z1 b1=>?_)
 replace z1:IsZip g1 z TI TO .ellipsis:=z1
 refine aa ?_;simp only[List.zipIdx_cons,List.zipIdx_nil,List.forIn_cons,List.forIn_nil];refine aa (aa (wpAny_onRaise ?_));show wpAny _ _ (Builtin.SmallTypes.nextOf (.ref i1)>>=_) _ _ _;have j1':c8 c1 g1 i1 t k:=j1.at λo e=>b1.extBut _ _ Z.i1z e;have m1':dW c1 g1 t ps:=m1.at λo e=>b1.extBut _ _ Z.l1z e;refine aa (m7 (s:={s with heap:=g1}) j1' m1' hx λg2 j12 b2=>ah ?_)
 replace b2:Heap.SameBut i1 g1 g2:=b2
 have o2:IsPair g2 TO c d:=b2.extBut _ _ Z.TOi1 (b1.extBut _ _ Z.TOz gO);refine aa (wpAny_seqItems o2 rfl ?_);refine aa (wpAny_updateSeq_pair o2 λg3 o3 Y=>?_)
 replace o3:IsPair g3 TO x d:=o3
 replace Y:Heap.SameBut TO g2 g3:=Y
 refine aa (wpAny_letGo (ah (aa (aa (wpAny_onRaise ?_)))));show wpAny _ _ (Builtin.SmallTypes.nextOf (.ref i2)>>=_) _ _ _;have up3:∀b o,b≠z->b≠i1->b≠TO->s.heap.get? b=some o->g3.get? b=some o:=λb o U J n3 e=>Y.extBut _ _ n3 (b2.extBut _ _ J (b1.extBut _ _ U e));refine aa (m7 (s:={s with heap:=g3}) (j2.at λo e=>up3 i2 o Z.i2z Z.i12.symm Z.TOi2.symm e) (m2.at λo e=>up3 l o Z.l2z Z.l2i1 Z.l2TO e) hy λg4 j24 I=>ah ?_)
 replace I:Heap.SameBut i2 g3 g4:=I
 have o4:IsPair g4 TO x d:=I.extBut _ _ Z.TOi2 o3;refine aa (wpAny_seqItems o4 rfl ?_);refine aa (wpAny_updateSeq_pair o4 λB o5 F=>?_)
 replace o5:IsPair B TO x y:=o5
 replace F:Heap.SameBut TO g4 B:=F
 refine aa (wpAny_letGo (ah (ah (aa (wpAny_seqItems o5 rfl (aa (wpAny_newTuple ?_)))))));have sz5:B.objs.size=s.heap.objs.size:=by rw[F.1,I.1,Y.1,b2.1,b1.1]
 have z5:IsZip B z TI TO .ellipsis:=F.extBut _ _ Z.TOz.symm (I.extBut _ _ Z.i2z.symm (Y.extBut _ _ Z.TOz.symm (b2.extBut _ _ Z.i1z.symm z1)));have up5:∀b o,b≠z->b≠TO->b≠i1->b≠i2->s.heap.get? b=some o->B.get? b=some o:=λb o U J n3 n4 e=>F.extBut _ _ J (I.extBut _ _ n4 (up3 b o U n3 J e));have j15:c8 c1 B i1 t (k+1):=j12.at λo e=>F.extBut _ _ Z.TOi1.symm (I.extBut _ _ Z.i12 (Y.extBut _ _ Z.TOi1.symm e));have j25:c8 c2 B i2 l (k+1):=j24.at λo e=>F.extBut _ _ Z.TOi2.symm e;have ltz:z<B.objs.size:=am z5;show wpAny _ _ (Builtin.SmallTypes.ownedTupleHandOut (.ref z) (.ref B.objs.size)>>=_) _ _ _;refine aa ?_;unfold Builtin.SmallTypes.ownedTupleHandOut;have z6:IsZip (B.push {cls:= .type "tuple",data:= .seq #[x,y]}) z TI TO .ellipsis:=ae _ z5;refine aa (bB z6 (by simp) λg7 z7 b7=>?_)
 replace z7:IsZip g7 z TI TO (rawInt B.objs.size):=z7
 refine bB z7 (by simp) λg8 z8 b8=>?_
 replace z8:IsZip g8 z TI TO (rawInt B.objs.size):=z8
 have up8:∀b o,b≠z->B.get? b=some o->g8.get? b=some o:=λb o n e=>b8.extBut _ _ n (b7.extBut _ _ n (ae _ e));have t8:IsPair g8 B.objs.size x y:=b8.extBut _ _ (bp ltz) (b7.extBut _ _ (bp ltz) (aq _ rfl));have sz8:g8.objs.size=B.objs.size+1:=by rw[b8.1,b7.1,Heap.size_push]
 rw[sz5] at z8 t8 sz8;refine ah ⟨_,rfl,?_⟩;show Q (.ref B.objs.size) _;rw[sz5];exact fin g8 z8 (up8 _ _ Z.TOz o5) (j15.at λo e=>up8 _ o Z.i1z e) (j25.at λo e=>up8 _ o Z.i2z e) t8 sz8 λb o U J n3 n4 e=>up8 b o U (up5 b o U J n3 n4 e)
theorem t7{TI TO:Addr}{k:Nat}{ps:Array Value}{c d:Value}{Q:Fin->Shared->Prop}(hh:A.handled=none)(Z:ZipApart z TI TO i1 i2 t l)
  (gz:IsZip s.heap z TI TO .none)(gI:IsPair s.heap TI (.ref i1) (.ref i2))(gO:IsPair s.heap TO c d)(j1:c8 c1 s.heap i1 t k)(j2:c8 c2 s.heap i2 l k)(m1:dW c1 s.heap t ps)(m2:dW c2 s.heap l qs)(hend:ps[k]? =none∨qs[k]? =none)
  (fin:∀g e,(∀b o,b≠z->b≠TO->b≠i1->b≠i2->s.heap.get? b=some o->g.get? b=some o)->(∃o,g.get? e=some o/\o.cls=.type "StopIteration")->E (.ref e) {s with heap:=g}):
  wpAny (model prog w) A (Builtin.«zip.__next__» ⟨[.ref z],[]⟩) Q E s:=by
 show wpAny _ _ (field (.ref z) 2>>=_) _ _ _;refine aa (a8 gz rfl (x:= .bool false) rfl ?_);show wpAny _ _ (field (.ref z) 3>>=_) _ _ _;refine aa (a8 gz rfl (x:= .ref TI) rfl ?_);refine aa (wpAny_seqItems gI rfl ?_);show wpAny _ _ (Builtin.SmallTypes.ownedTupleIsFree (.ref z)>>=_) _ _ _;refine aa ?_;unfold Builtin.SmallTypes.ownedTupleIsFree;refine aa (a8 gz rfl (x:= .none) rfl (ah ?_));simp only[if_true];refine aa (wpAny_rule (aa (a8 gz rfl (x:= .ref TO) rfl ?_)));refine aa (bB gz (by simp) λU z1 b1=>?_)
 replace z1:IsZip U z TI TO .ellipsis:=z1
 refine aa ?_;simp only[List.zipIdx_cons,List.zipIdx_nil,List.forIn_cons,List.forIn_nil];refine aa (aa (wpAny_onRaise ?_));show wpAny _ _ (Builtin.SmallTypes.nextOf (.ref i1)>>=_) _ _ _;have j1':c8 c1 U i1 t k:=j1.at λo e=>b1.extBut _ _ Z.i1z e;have m1':dW c1 U t ps:=m1.at λo e=>b1.extBut _ _ Z.l1z e;cases hx:ps[k]? with
 |none=>
  refine aa (wa (s:={s with heap:=U}) hh j1' m1' hx λg2 e I he=>?_)
  replace I:Heap.ExtBut i1 U g2:=I
  obtain⟨oe,B,F⟩:=he;have z2:IsZip g2 z TI TO .ellipsis:=I _ _ Z.i1z.symm z1;have ne:e≠z:=λq=>by subst q;rw[z2] at B;cases B;simp at F
  exact bB z2 (by simp) λg3 _ Y=>fin g3 e (λb o J _ n3 _ q=>Y.extBut _ _ J (I _ _ n3 (b1.extBut _ _ J q))) ⟨oe,Y.extBut _ _ ne B,F⟩
 |some x=>
  have hy:qs[k]? =none:=by
   rcases hend with q|q
   ·rw[hx] at q;cases q
   ·exact q
  refine aa (m7 (s:={s with heap:=U}) j1' m1' hx λg2 j12 I=>ah ?_)
  replace I:Heap.SameBut i1 U g2:=I
  have o2:IsPair g2 TO c d:=I.extBut _ _ Z.TOi1 (b1.extBut _ _ Z.TOz gO);refine aa (wpAny_seqItems o2 rfl ?_);refine aa (wpAny_updateSeq_pair o2 λg3 o3 Y=>?_)
  replace Y:Heap.SameBut TO g2 g3:=Y
  refine aa (wpAny_letGo (ah (aa (aa (wpAny_onRaise ?_)))));show wpAny _ _ (Builtin.SmallTypes.nextOf (.ref i2)>>=_) _ _ _;have up3:∀b o,b≠z->b≠i1->b≠TO->s.heap.get? b=some o->g3.get? b=some o:=λb o J n2 n3 e=>Y.extBut _ _ n3 (I.extBut _ _ n2 (b1.extBut _ _ J e));refine aa (wa (s:={s with heap:=g3}) hh (j2.at λo e=>up3 i2 o Z.i2z Z.i12.symm Z.TOi2.symm e) (m2.at λo e=>up3 l o Z.l2z Z.l2i1 Z.l2TO e) hy λg4 e b4 he=>?_)
  replace b4:Heap.ExtBut i2 g3 g4:=b4
  obtain⟨oe,B,F⟩:=he;have z4:IsZip g4 z TI TO .ellipsis:=b4 _ _ Z.i2z.symm (Y.extBut _ _ Z.TOz.symm (I.extBut _ _ Z.i1z.symm z1));have ne:e≠z:=λq=>by subst q;rw[z4] at B;cases B;simp at F
  exact bB z4 (by simp) λg5 _ b5=>fin g5 e (λb o J n2 n3 n4 q=>b5.extBut _ _ J (b4 _ _ n4 (up3 b o J n3 n2 q))) ⟨oe,b5.extBut _ _ ne B,F⟩
theorem t9{TI TO:Addr}{k:Nat}{ps:Array Value}{c d:Value}{Q:Option Value->Shared->Prop}(Z:ZipApart z TI TO i1 i2 t l)
  (B:IsZip s.heap z TI TO .none)(gI:IsPair s.heap TI (.ref i1) (.ref i2))(gO:IsPair s.heap TO c d)(Y:c8 c1 s.heap i1 t k)(U:c8 c2 s.heap i2 l k)(J:dW c1 s.heap t ps)(I:dW c2 s.heap l qs)(hx:ps[k]? =some x)(hy:qs[k]? =some y)
  (fin:∀g,IsZip g z TI TO (rawInt s.heap.objs.size)->IsPair g TO x y->c8 c1 g i1 t (k+1)->c8 c2 g i2 l (k+1)->IsPair g s.heap.objs.size x y->g.objs.size=s.heap.objs.size+1->
   (∀b o,b≠z->b≠TO->b≠i1->b≠i2->s.heap.get? b=some o->g.get? b=some o)->Q (some (.ref s.heap.objs.size)) {s with heap:=g}):wpAny (model prog w) A (pyNext (.ref z)) Q E s:=by
 have ty:s.TypeIs (.ref z) "zip":=⟨_,B,rfl⟩;unfold pyNext
 exact aa (wpAny_attempt (wpAny_callSpecial?_slot (name:=Str.ofString "__next__") ty F.slot_zip_next (wpAny_call_entry F.slot_zip_next ty F.entry_zip_next
  (t_ Z B gI gO Y U J I hx hy λg a1 a2 a3 a4 a5 a6 a7=>ah (fin g a1 a2 a3 a4 a5 a6 a7)) (F.args_zip_next_1 _))))
theorem uc{TI TO:Addr}{k:Nat}{ps:Array Value}{c d:Value}{Q:Option Value->Shared->Prop}(hh:A.handled=none)(Z:ZipApart z TI TO i1 i2 t l)
  (I:IsZip s.heap z TI TO .none)(gI:IsPair s.heap TI (.ref i1) (.ref i2))(gO:IsPair s.heap TO c d)(j1:c8 c1 s.heap i1 t k)(Y:c8 c2 s.heap i2 l k)(U:dW c1 s.heap t ps)(J:dW c2 s.heap l qs)(B:ps[k]? =none∨qs[k]? =none)
  (fin:∀g,(∀b o,b≠z->b≠TO->b≠i1->b≠i2->s.heap.get? b=some o->g.get? b=some o)->Q none {s with heap:=g}):wpAny (model prog w) A (pyNext (.ref z)) Q E s:=by
 have ty:s.TypeIs (.ref z) "zip":=⟨_,I,rfl⟩;unfold pyNext;refine aa (wpAny_attempt (wpAny_callSpecial?_slot (name:=Str.ofString "__next__") ty F.slot_zip_next (wpAny_call_entry F.slot_zip_next ty F.entry_zip_next (t7 hh Z I gI gO j1 Y U J B λg e hk he=>?_) (F.args_zip_next_1 _))));obtain⟨o,h1,h2⟩:=he;exact aa (wpAny_isInstance (T:= "StopIteration") (b:=true) ⟨o,h1,h2⟩ isSubtype_stop (ah (fin _ hk)))
end
abbrev zA(c1:Bool)(h:Heap)(t:Addr):Heap:=h.push {cls:= .type (oJ c1),data:= .fields #[.ref t,.int 0 0]}
abbrev zB(c1 c2:Bool)(h:Heap)(t l:Addr):Heap:=(zA c1 h t).push {cls:= .type (oJ c2),data:= .fields #[.ref l,.int 0 0]}
abbrev zC(c1 c2:Bool)(h:Heap)(t l:Addr):Heap:=(zB c1 c2 h t l).push {cls:= .type "tuple",data:= .seq #[.ref h.objs.size,.ref (zA c1 h t).objs.size]}
abbrev zD(c1 c2:Bool)(h:Heap)(t l:Addr):Heap:=(zC c1 c2 h t l).push {cls:= .type "tuple",data:= .seq #[.none,.none]}
abbrev zE(c1 c2:Bool)(h:Heap)(t l:Addr):Heap:=(zD c1 c2 h t l).push {cls:= .type "zip",data:= .fields #[.none,.bool false,.bool false,.ref (zB c1 c2 h t l).objs.size,.ref (zC c1 c2 h t l).objs.size]}
theorem sY(c1 c2:Bool)(t l:Addr)(ps qs:Array Value):Meets (Builtin.«zip.__new__» ⟨[.type "zip",.ref t,.ref l],[]⟩) (λ_ R s=>dW c1 s.heap t ps/\dW c2 s.heap l qs/\R (.ok (.ret (.ref (zD c1 c2 s.heap t l).objs.size))) {s with heap:=zE c1 c2 s.heap t l}):=
 .of_wp λprog w A R s h=>by
  obtain⟨B,g,d,tk,os⟩:=s;obtain⟨F,I,h⟩:=h;have c:=sub_zip;have J:dW c1 (Shared.heap ⟨B,g,d,tk,os⟩) t ps:=F;have U:dW c2 (Shared.heap ⟨B.push {cls:= .type (oJ c1),data:= .fields #[.ref t,.int 0 0]},g,d,tk,os⟩) l qs:=I.at λo e=>ae _ e
  wp_walk using rX J,rX U
  exact⟨_,rfl,h⟩
theorem wU{prog:Program}{w:World}{A:Around}{E:Value->Shared->Prop}{s:Shared}{ps:Array Value}(ht:dW c1 s.heap t ps)(hl:dW c2 s.heap l qs)
  (fin:∀g,IsZip g (s.heap.objs.size+4) (s.heap.objs.size+2) (s.heap.objs.size+3) .none->IsPair g (s.heap.objs.size+2) (.ref s.heap.objs.size) (.ref (s.heap.objs.size+1))->IsPair g (s.heap.objs.size+3) .none .none->
   c8 c1 g s.heap.objs.size t 0->c8 c2 g (s.heap.objs.size+1) l 0->(∀b o,s.heap.get? b=some o->g.get? b=some o)->Q (.ref (s.heap.objs.size+4)) {s with heap:=g}):
  wpAny (model prog w) A (call (.type "zip") [.ref t,.ref l]) Q E s:=by
 refine callType_new F.called_zip (by decide) (F.typeCall_zip_2 _ _) (F.newCall_zip_2 _ _) (λobj=>F.args_object_init_3 obj _ _) F.entry_zip_new (sY c1 c2 t l ps qs) ⟨ht,hl,?_⟩
 have I:(zA c1 s.heap t).objs.size=s.heap.objs.size+1:=Heap.size_push ..;have B:(zB c1 c2 s.heap t l).objs.size=s.heap.objs.size+2:=by rw[Heap.size_push,I]
 have c:(zC c1 c2 s.heap t l).objs.size=s.heap.objs.size+3:=by rw[Heap.size_push,B]
 have J:(zD c1 c2 s.heap t l).objs.size=s.heap.objs.size+4:=by rw[Heap.size_push,c]
 have c5:(zE c1 c2 s.heap t l).get? (zD c1 c2 s.heap t l).objs.size=some _:=aq _ rfl;have Y:(zE c1 c2 s.heap t l).get? (zC c1 c2 s.heap t l).objs.size=some _:=ae _ (aq _ rfl);have Z:(zE c1 c2 s.heap t l).get? (zB c1 c2 s.heap t l).objs.size=some _:=ae _ (ae _ (aq _ rfl));have U:(zE c1 c2 s.heap t l).get? (zA c1 s.heap t).objs.size=some _:=ae _ (ae _ (ae _ (aq _ rfl)));have d1:(zE c1 c2 s.heap t l).get? s.heap.objs.size=some _:=ae _ (ae _ (ae _ (ae _ (aq _ rfl))));show _/\_;rw[B,c,J] at c5;rw[I,B] at Z;rw[c] at Y;rw[I] at U;rw[J]
 exact⟨⟨_,c5,rfl⟩,fin _ c5 Z Y (.new d1) (.new U) λb o q=>
  ae _ (ae _ (ae _ (ae _ (ae _ q))))⟩
end PySem
namespace L2
open PySem PySem.Spec PyProof.Rows
variable{pins:List (Addr×Obj)}{a b i1 i2 z:Addr}{c c1 c2:Bool}
theorem Inv.turns{X:Cx}{σ:St}{H:Hp}{s:Shared}{h':Heap}{t':Nat}{fp:List Addr}(I:Inv X pins σ H s)(J:∀b∈fp,eZ X pins H b)
  (k:∀b o,b∉fp->s.heap.get? b=some o->h'.get? b=some o):Inv X pins σ H {s with heap:=h',toks:=t'}:=by
 have F:∀b u,H b=some u->b∉fp:=λb u e z=>by rw[(J b z).1] at e;cases e
 refine I.step (g':=s.gens) (d':=s.drawn) (ch:=fp) (λb Y=>?_) (λb o _ _ B e _=>k b o B e) (λb o _ _ B e _=>⟨o.slots,k b o B e⟩) (λb o _ e n=>n)
  (λb o B e=>⟨o,k b o B e⟩) (λb ys e=>e) (λb o u e=>e) (λb ps e=>⟨#[],by rw[e];simp⟩) (λm U=>?_) (λb u e=>?_) I.bare
 ·obtain⟨f0,f1,f2,f3,f4,Z⟩:=J b Y;exact⟨f3,f1,f4,Z⟩
 ·obtain⟨o,es,ep,ho,r⟩:=U;exact⟨o,es,ep,k _ o (λz=>(J _ z).2.1 rfl) ho,r⟩
 ·refine(I.hok b u e).stay (λc v B q=>k c v ?_ q) (λc q=>q) λc ys q=>q;rcases B with z|z
  ·rw[z];exact F b u e
  ·exact F c _ z
def lh(K:aA):Bool->Hp->Addr->List V->Prop
 |true,H,a,xs=>dD K H a xs
 |false,H,a,xs=>fP K H a xs
theorem lh.inv{X:Cx}{σ:St}{H:Hp}{s:Shared}{xs:List V}(I:Inv X pins σ H s)(h:lh X.K c H a xs):∃its:List Value,bn xs its/\dW c s.heap a its.toArray:=by
 cases c
 ·obtain⟨its,rv,p,_⟩:=I.tuple h;exact⟨its,rv,(show s.heap.IsTuple a its.toArray from p)⟩
 ·obtain⟨its,rv,p,_⟩:=I.list h;exact⟨its,rv,p.isList⟩
theorem lh.inj{X:Cx}{σ:St}{H:Hp}{s:Shared}{xs ys:List V}(I:Inv X pins σ H s)(h:lh X.K c H a xs)(h':lh X.K c H a ys):xs=ys:=by
 cases c
 ·exact I.tuple_inj h h'
 ·exact I.list_inj h h'
noncomputable def E7(K:aA)(c1 c2:Bool)(a b:Addr):It:=
 ⟨λi H=>∃xs ys x y,lh K c1 H a xs/\lh K c2 H b ys/\xs[i]? =some x/\ys[i]? =some y,
  λi H v H'=>∃p x y,v=.ref p/\H p=none/\H'=upd H p (.tup [x,y])/\(∀xs,lh K c1 H a xs->xs[i]? =some x)/\∀ys,lh K c2 H b ys->ys[i]? =some y,
  λi H=>∃xs ys,lh K c1 H a xs/\lh K c2 H b ys/\(xs.length<=i∨ys.length<=i)⟩
def B2(c1 c2:Bool)(z TI TO i1 i2 a b:Addr)(i:Nat)(h:Heap):Prop:=IsZip h z TI TO .none/\IsPair h TI (.ref i1) (.ref i2)/\(∃c d,IsPair h TO c d)/\c8 c1 h i1 a i/\c8 c2 h i2 b i
theorem qM{TI TO:Addr}{i:Nat}{h:Heap}(q:B2 c1 c2 z TI TO i1 i2 a b i h):∀x∈[z,TI,TO,i1,i2],∃o,h.get? x=some o/\∀v,o.data≠ .cell v:=by
 obtain⟨q1,q2,⟨c,d,U⟩,J,I⟩:=q;intro x F;simp only[List.mem_cons,List.not_mem_nil,or_false] at F;rcases F with rfl|rfl|rfl|rfl|rfl
 ·exact⟨_,q1,λv z=>by have B:Data.fields _=Data.cell v:=z;cases B⟩
 ·exact⟨_,q2,λv z=>by have B:Data.seq _ _=Data.cell v:=z;cases B⟩
 ·exact⟨_,U,λv z=>by have B:Data.seq _ _=Data.cell v:=z;cases B⟩
 ·exact J.obj
 ·exact I.obj
theorem uB{P:Program}{w:World}{K:aA}{elts:List Expr}{k:Nat}{pos:Pos}{TI TO:Addr}(Z:ZipApart z TI TO i1 i2 a b):Turn P w K (.Tuple elts k pos) (E7 K c1 c2 a b) [z,TI,TO,i1,i2] z (B2 c1 c2 z TI TO i1 i2 a b) where
 mem:=by simp
 obj:=λi h st x F=>qM st x F
 keep:=λi h h' ⟨q1,q2,⟨c,d,q3⟩,q4,Y⟩ kk=>⟨kk z (by simp) _ q1,kk TI (by simp) _ q2,⟨c,d,kk TO (by simp) _ q3⟩,q4.at λo q=>kk i1 (by simp) o q,Y.at λo q=>kk i2 (by simp) o q⟩
 item:=by
  intro X hP hw hK hc i pins s σ H E I hf st hg;subst hP hw hK;have live:=qM st;obtain⟨q1,q2,⟨c,d,q3⟩,q4,Y⟩:=st;obtain⟨xs,ys,x,y,hq,hr,F,hy⟩:=hg;obtain⟨its,rv,p⟩:=lh.inv I hq;obtain⟨jts,U,p'⟩:=lh.inv I hr;obtain⟨u,hu,ru⟩:=rv.get F;obtain⟨v,hv,rv'⟩:=U.get hy;refine t9 Z q1 q2 q3 q4 Y p p' (x:=u) (y:=v) (by simpa using hu) (by simpa using hv) λg a1 a2 a3 a4 a5 a6 a7=>?_
  refine⟨_,rfl,wpAny_letOwnedTupleGo_zip a1 λh2 b1 J=>?_⟩
  replace J:Heap.SameBut z g h2:=J
  have lt:∀{x:Addr},x∈[z,TI,TO,i1,i2]->x<s.heap.objs.size:=λF=>by obtain⟨o,e,_⟩:=live _ F;exact am e
  have ltz:z<s.heap.objs.size:=lt (by simp)
  have hn:H s.heap.objs.size=none:=I.hok.fresh (ac _);have t2:IsPair h2 s.heap.objs.size u v:=J.extBut _ _ (bp ltz) a5
  have I2:Inv X pins σ (upd H s.heap.objs.size (.tup [x,y])) {s with heap:=h2,toks:=s.toks}:=by
   refine I.turnLaid (fp:=[z,TI,TO,i1,i2]) hf (λe o B q=>?_) (ac _) ⟨(by show 2<=sizeLine;decide),[u,v],.cons ru (.cons rv' .nil),?_⟩
   ·simp only[List.mem_cons,List.not_mem_nil,or_false,not_or] at B;exact J.extBut _ _ B.1 (a7 e o B.1 B.2.2.1 B.2.2.2.1 B.2.2.2.2 q)
   ·exact⟨_,t2,⟨rfl,rfl⟩,_,rfl⟩
  refine⟨.ref s.heap.objs.size,_,I2,rfl,⟨_,x,y,rfl,hn,rfl,λys hy=>by rw[lh.inj I hy hq];exact F,λys' hy'=>by rw[lh.inj I hy' hr];exact hy⟩,⟨b1,J.extBut _ _ Z.TIz (a7 _ _ Z.TIz Z.TITO Z.TIi1 Z.TIi2 q2),⟨u,v,J.extBut _ _ Z.TOz a2⟩,a3.at λo q=>J.extBut _ _ Z.i1z q,a4.at λo q=>J.extBut _ _ Z.i2z q⟩,λe B=>?_⟩
  rw[aL (au (lt B))];exact(hf e B).1
 done:=by
  intro X hP hw hK hc i pins s σ H E I hf st hg;subst hP hw hK;obtain⟨q1,q2,⟨c,d,q3⟩,q4,Y⟩:=st;obtain⟨xs,ys,hq,hr,F⟩:=hg;obtain⟨its,rv,p⟩:=lh.inv I hq;obtain⟨jts,U,p'⟩:=lh.inv I hr;have l1:=rv.length;have l2:=U.length;refine uc (I.ok.hd hc) Z q1 q2 q3 q4 Y p p' (F.imp (λq=>by simp;omega) λq=>by simp;omega) λg hk=>⟨rfl,I.turns (t':=s.toks) (fp:=[z,TI,TO,i1,i2]) hf λe o B q=>?_⟩
  simp only[List.mem_cons,List.not_mem_nil,or_false,not_or] at B;exact hk e o B.1 B.2.2.1 B.2.2.2.1 B.2.2.2.2 q
 self:=λ_ _ _ _ _ st h=>wpAny_pyIter_zip st.1 h
def EI(K:aA)(tl:TA):TI:=λσ H R=>tl σ H λvs H1=>∃c1 c2 a b,vs=[.ref a,.ref b]/\(∃xs,lh K c1 H1 a xs)/\(∃ys,lh K c2 H1 b ys)/\R (E7 K c1 c2 a b) H1
theorem AF{X:Cx}{elts:List Expr}{k:Nat}{Z:Pos}{a b:Expr}{ta:TA}{p pos:Pos}(hg:Gl X "zip")(hm:X.mg "zip"=none)(ha:PA X [a,b] ta)(hs:starEach [a,b] X.env=(false,eval a X.env)::starEach [b] X.env)(F:starEach [b] X.env=[(false,eval b X.env)]):
  PI X (.Tuple elts k Z) (.Call (.Name "zip" p) [a,b] [] pos) (EI X.K ta):=by
 intro pins s σ H R I h;refine Call_ (et I hg hm boot_zip (aX (bW (ha pos pins s σ H _ I h) λus c ⟨vs,H1,I1,r1,q1⟩=>?_) hs (by rw[F];rfl)))
 obtain⟨c1,c2,a,b,e,⟨xs,hq⟩,⟨ys,hr⟩,q⟩:=q1;subst e;cases r1 with
 |cons r rr=>
  cases rr with
  |cons r' rr=>
   cases rr;cases r;cases r';obtain⟨its,rv,pt⟩:=lh.inv I1 hq;obtain⟨jts,rw',J⟩:=lh.inv I1 hr;refine wU pt J λg Y d2 c3 c4 c5 hk=>?_;refine wpAny_pyIter_zip Y ?_;have la:=pt.lt;have lb:=J.lt;refine⟨_,[c.heap.objs.size+4,c.heap.objs.size+2,c.heap.objs.size+3,c.heap.objs.size,c.heap.objs.size+1],_,_,H1,rfl,I1.kept (t':=c.toks) hk,uB (PyProof.Rows.zipApart_new la lb),⟨Y,d2,⟨_,_,c3⟩,c4,c5⟩,λe U=>?_,q⟩
   have B:c.heap.objs.size<=e:=by simp only[List.mem_cons,List.not_mem_nil,or_false] at U;rcases U with rfl|rfl|rfl|rfl|rfl<;>omega
   exact I1.fpOk B (I1.hok.fresh B)
end L2
set_option maxHeartbeats 8000000
namespace Ev
open PySem PySem.Spec PyProof.Rows L2
variable{st st1:a9}{ι ι0:Nat->Addr}{a' e' z:Ex}{elt iter:Expr}
noncomputable def cD:D->Bool
 | .tup _=>false
 |_=>true
theorem VRel.seqB{K:aA}{H:Hp}{d:D}{v:V}{xs:List D}(S:Sim K H ι st)(r:VRel K H ι st.length d v)(e:bq st d=some xs):∃a vs,v=.ref a/\lh K (cD d) H a vs/\VRels K H ι st.length xs vs:=by
 cases r with
 |tup h r=>cases e;exact⟨_,_,rfl,h,r⟩
 |fl h r=>cases e;exact⟨_,_,rfl,h.sql,r⟩
 | @ref n hn=>
  simp only[bq] at e;cases q:st[n]? with
  |none=>rw[q] at e;cases e
  |some o=>
   rw[q] at e;cases o with
   |lst zs=>cases e;obtain⟨vs,h1,c⟩:=S.ob n _ q;exact⟨_,vs,rfl,dD.of h1,c⟩
   |_=>cases e
 |_=>cases e
theorem dY.zp{K:aA}{a b:Addr}{x y:D}{I:Hp}{m0:Nat}(r1:VRel K I ι0 m0 x (.ref a))(r2:VRel K I ι0 m0 y (.ref b)):dY K (E7 K (cD x) (cD y) a b) (.zp x y) I ι0 m0:=λH ι st i E S=>by
 simp only[eK];cases q1:bq st x with
 |none=>exact⟨λe=>(by cases e),λx e=>(by cases e)⟩
 |some xs=>
  cases q2:bq st y with
  |none=>exact⟨λe=>(by cases e),λx e=>(by cases e)⟩
  |some ys=>
   obtain⟨_,vs,z,h',r⟩:=(r1.ext E).seqB S q1;cases z;obtain⟨_,ws,z,F,g2⟩:=(r2.ext E).seqB S q2;cases z;have l:=r.length;have l2:=g2.length;dsimp only;refine⟨λe=>?_,λx e=>?_⟩
   ·have e:=ai e;refine⟨vs,ws,h',F,?_⟩;cases e1:xs[i]? with
    |none=>exact .inl (by have:=List.getElem?_eq_none_iff.mp e1;omega)
    |some x=>
     cases e2:ys[i]? with
     |none=>exact .inr (by have:=List.getElem?_eq_none_iff.mp e2;omega)
     |some y=>rw[e1,e2] at e;cases e
   ·have e:=ai e;cases e1:xs[i]? with
    |none=>rw[e1] at e;cases e
    |some x1=>
     cases e2:ys[i]? with
     |none=>rw[e1,e2] at e;cases e
     |some y1=>rw[e1,e2] at e;have e:D.tup [x1,y1]=x:=ai e;subst e;obtain⟨v,Z,rv⟩:=r.get e1;obtain⟨u,hu,ru⟩:=g2.get e2;refine⟨⟨vs,ws,v,u,h',F,Z,hu⟩,λw H' yy=>?_⟩;obtain⟨p,z1,z2,rfl,hp,rfl,B,c⟩:=yy;have Y:=B vs h';rw[Z] at Y;cases Y;have U:=c ws F;rw[hu] at U;cases U;obtain⟨J,S1⟩:=S.tup (xs:=[v,u]) hp;exact⟨J,S1,.tup (.inl (.inl bF)) (.cons (rv.ext J) (.cons (ru.ext J) .nil))⟩
theorem c_.toG{K:aA}{c:Hp}{m0:Nat}{J:It}{s:Src}(F:c_ K J s c ι0 m0):dY K J s c ι0 m0:=λH ι st i E S=>
 ⟨(F H ι st i E S).1,λx e=>⟨((F H ι st i E S).2 x e).1,λv H' y=>by obtain⟨rfl,r⟩:=((F H ι st i E S).2 x e).2 v H' y;exact⟨Ext.refl _ _ _,S,r⟩⟩⟩
section
variable{T:Tab}{g:fR}{X:Cx}{sc scope:Scope}{N:List Str}{pos px py pt p3 p4:Pos}{x y:Str}
theorem eR(h:dC sc scope N x y=true):cR sc scope N x=true/\scope.names.lookup y=some .local/\(x::y::iN scope N).Nodup/\(y==("__debug__":Str))=false/\(y==("__classdict__":Str))=false:=by
 unfold dC at h;simp only[Bool.and_eq_true] at h;obtain⟨⟨⟨⟨h1,I⟩,F⟩,B⟩,c⟩:=h;exact⟨h1,by simpa using I,of_decide_eq_true F,by simpa using B,by simpa using c⟩
theorem me(C:Ctx T g X sc N)(h:dC sc scope N x y=true)(fp:List Addr)(s:Shared)(H:Hp):Ctx T g (bx X x y scope fp s H) (iW sc scope) (x::y::iN scope N):=by
 obtain⟨h1,U,J,I,F⟩:=eR h;have c:=iG C h1 fp s H;refine⟨c.sc,?_,?_,λz B=>?_,c.calm,c.un,c.fns,c.csts,c.blt,c.icl,c.mks⟩
 ·show x::y::iN scope X.N=x::y::iN scope N;rw[C.n]
 ·exact J
 ·rcases List.mem_cons.mp B with rfl|B
  ·exact c.nm _ List.mem_cons_self
  ·rcases List.mem_cons.mp B with rfl|B
   ·exact⟨I,F⟩
   ·exact zj C h1 B
def gx(g:fR)(X:Cx)(x y:Str)(px py:Pos)(k:Nat)(pt:Pos)(iter:Expr)(ifs:List Expr)(elt:Expr)(scope:Scope)(z:Ex):Prop:=
 ∃wi gg tc te,PI X (.Tuple [.Name x px,.Name y py] k pt) iter wi/\(∀fp s H,PG (bx X x y scope fp s H) (.Tuple [.Name x px,.Name y py] k pt) gg)/\(∀fp s H,xj (bx X x y scope fp s H) ifs tc)/\(∀fp s H,PE (bx X x y scope fp s H) elt te)/\(∀v,foldedSetIterable iter X.env v=pure v)/\∀σ H Q,tE X.K (run g z) σ H Q->jK wi gg tc te σ H Q
theorem gx.pe{k:Nat}{ifs:List Expr}(C:Ctx T g X sc N)(B:T.calm=true)(F:dC sc scope N x y=true)(h:gx g X x y px py k pt iter ifs elt scope z):PE X (.ListComp elt [⟨.Tuple [.Name x px,.Name y py] k pt,iter,ifs,0⟩] scope pos) (tE X.K (run g z)):=by obtain⟨I,Y,J,te,a,b,c,d,e,f⟩:=h;obtain⟨h1,U,_,_⟩:=dz C (eR F).1;exact(lP (C.calm B) h1 a b c d e).imp f
theorem gx.ps{k i:Nat}{ifs:List Expr}{nm:Str}{F spos:Pos}(C:Ctx T g X sc N)(B:T.calm=true)(Z:dC sc scope N x y=true)(h:gx g X x y px py k pt iter ifs elt scope z)(J:X.N[i]? =some nm)(U:L2.Loc X.env.scope nm)(Y:X.fn nm=true∨X.env.scope.names.lookup nm=some .local):
  PS X (.Assign [.Name nm F] (.ListComp elt [⟨.Tuple [.Name x px,.Name y py] k pt,iter,ifs,0⟩] scope pos) spos) (pT (tE X.K (run g z)) (fe i)):=by
 obtain⟨wi,gg,tc,te,a,b,c,d,e,f⟩:=h;obtain⟨h1,h2,_,_⟩:=dz C (eR Z).1;exact λpins s σ H D I q=>n8 (C.calm B) h1 (by rw[C.n];exact C.nd) a b c d e J U Y pins s σ H D I (f _ _ _ q)
theorem Bv{f:D->M (Option D)}(n:Nat)(st:a9)(h:∀xs,st[n]?≠some (.lst xs)):cA f (.en n) st=.bad:=by
 have c:∀i,eK (.en n) i st=none:=λi=>by
  unfold eK;show(match st[n]? with|some (.lst xs)=>some (xs[i]?.map λx=>D.tup [.int (i:Int),x])|_=>none)=none
  cases q:st[n]? with
  |none=>rfl
  |some o=>
   cases o with
   |lst xs=>exact absurd q (h xs)
   |_=>rfl
 unfold cA;split
 ·simp only[a_,eQ,c]
 ·rfl
theorem zZ{k:Loc->Src->M D}{σ:L2.St}{H:Hp}{Q:VK}{RR:It->Hp->Prop}(h:tE X.K (λloc=>a_ (run g a' loc) λd=>a_ (dI (ph d)) λs=>k loc s) σ H Q)
  (hk:∀{J:It}{s:Src}{ι ι1:Nat->Addr}{st st1:a9}{loc:Loc}{H1:Hp},dY X.K J s H1 ι1 st1.length->Ext H H1 ι ι1 st.length st1.length->Sim X.K H1 ι1 st1->LRel X.K H1 ι1 st1.length loc σ->cu X.K H ι st (k loc s st1) Q->RR J H1)
  (c:∀loc n st,(∀xs,st[n]?≠some (.lst xs))->k loc (.en n) st=.bad):wt X.K (uH (tE X.K (run g a')) xv) σ H RR:=by
 obtain⟨ι,st,loc,S,L,P⟩:=h;obtain⟨d,st1,e1,P⟩:=aY P;obtain⟨s,B,e2,P⟩:=aY P;obtain⟨U,rfl⟩:=bO e2;refine bi S L e1 λH1 ι1 v F Y Z=>?_;have I:=Z;cases Z with
 | @ref n hn=>
  cases U;cases q:B[n]? with
  |none=>rw[c loc n B (λxs z=>by rw[q] at z;cases z)] at P;exact P.elim
  |some o=>
   cases o with
   |lst xs=>obtain⟨vs,h1,_⟩:=Y.ob n _ q;exact⟨_,rfl,.inl ⟨⟨vs,dD.of h1⟩,hk (dY.en hn) F Y (L.ext F) P⟩⟩
   |_=>rw[c loc n B (λxs z=>by rw[q] at z;cases z)] at P;exact P.elim
 |tup hq r=>cases U;exact⟨_,rfl,.inr ⟨⟨_,hq⟩,hk (dY.enT I) F Y (L.ext F) P⟩⟩
 |_=>cases U
theorem uC{H:Hp}{loc:Loc}{σ:L2.St}{o:Option D}{Q:Option V->Hp->Prop}(S:Sim X.K H ι st)(L:LRel X.K H ι st.length loc σ)(k:∀H1 ι1 w,Ext H H1 ι ι1 st.length st1.length->Sim X.K H1 ι1 st1->(match o,w with|some y,some z=>VRel X.K H1 ι1 st1.length y z|none,none=>True|_,_=>False)->Q w H1)(c:a_ (run g e' loc) (λy=>ret (some y)) st=.ok o st1):tE X.K (run g e') σ H λy J=>Q (some y) J:=by
 cases e5:run g e' loc st with
 |bad=>simp only[a_,e5] at c;cases c
 |ok w st5=>simp only[a_,ret,e5] at c;cases c;exact bi S L e5 λI ι5 w U F B=>k I ι5 (some w) U F B
theorem pA{k:Nat}(C:Ctx T g X sc N)(c:T.calm=true)(I:dC sc scope N x y=true):∀fp s H,PG (bx X x y scope fp s H) (.Tuple [.Name x px,.Name y py] k pt) (Bk X.K 2 (l8 (fe 0) (l8 (fe 1) yC))):=by
 obtain⟨h1,J,Z,Y,U⟩:=eR I;obtain⟨c1,c2,_,_⟩:=dz C h1;have F:(relabel scope X.env).names.lookup x=some .local:=lookup_relabel_local c1.own;have B:(relabel scope X.env).names.lookup y=some .local:=lookup_relabel_local J
 have nd:(x::y::iN scope X.N).Nodup:=by have:=(me C I [] X.s₀ (λ_=>none)).nd;rw[C.n];exact this
 exact λfp s H=>AH (X:=bx X x y scope fp s H) (C.calm c) (kg (fo (i:=0) nd rfl (.inl F) (.inr F)) (kg (fo (i:=1) nd rfl (.inl B) (.inr B)) rJ))
theorem ma{H1:Hp}{ι1:Nat->Addr}{loc:Loc}{σ:L2.St}(L:LRel X.K H1 ι1 st1.length loc σ):
  EltG X.K (λv H' K=>∀F B:Option V,Bk X.K 2 (l8 (fe 0) (l8 (fe 1) yC)) v (F::B::σ) H' λσ2 H3=>(∃p1 p2,σ2=p1::p2::σ)/\xu σ2 H3 λb I=>if b=true then tE X.K (run g e') σ2 I λy Z=>K (some y) Z else K none I) (pairF λa b=>run g e' (some a::some b::loc)) H1 ι1 st1.length:=⟨by
 intro H2 ι2 U J z v o K E2 Y rv c k F B;unfold pairF at c;split at c
 ·cases rv with
  |tup hq rr=>
   cases rr with
   |cons ra rr=>
    cases rr with
    |cons rb rr=>cases rr;exact⟨_,_,rfl,hq,rfl,_,_,rfl,_,_,rfl,rfl,⟨_,_,rfl⟩,Eq.mpr (if_pos (e:=K none H2) (rfl:true=true)) (uC Y (((L.ext E2).cons rb).cons ra) k c)⟩
 ·cases c⟩
theorem yK{k:Nat}{it:Expr}{s':Ex}(C:Ctx T g X sc N)(c:T.calm=true)(Y:dC sc scope N x y=true)(hs:PE X it (tE X.K (run g s')))(I:∀v,foldedSetIterable it X.env v=pure v)(U:∀fp s H,PE (bx X x y scope fp s H) elt (tE X.K (run g e'))):
  gx g X x y px py k pt it [] elt scope (.compU s' e'):=by
 refine⟨_,_,_,_,mU hs,pA C c Y,λfp s H=>jM,U,I,λσ H Q B=>?_⟩;obtain⟨ι,st,loc,S,L,P⟩:=B;rw[run] at P;exact mP (k:=λloc s=>cA (pairF λa b=>run g e' (some a::some b::loc)) s) (Q:=Q) ⟨ι,st,loc,S,L,P⟩ (λ{J s ι ι1 st st1 loc H1} F E Z L1 P1=>kW (ma L1) (c_.toG F) E Z P1) (λ_=>kY)
theorem yM{k:Nat}{a:Expr}(C:Ctx T g X sc N)(I:T.calm=true)(hc:dC sc scope N x y=true)(Y:bA sc "enumerate"=true)(c:starEach [a] X.env=[(false,eval a X.env)])(hs:PE X a (tE X.K (run g a')))(Z:∀fp s H,PE (bx X x y scope fp s H) elt (tE X.K (run g e'))):
  gx g X x y px py k pt (.Call (.Name "enumerate" p3) [a] [] p4) [] elt scope (.compE a' e'):=by
 have B:Gl X "enumerate":=by show X.env.scope.names.lookup _=some .globalImplicit;rw[C.sc];simpa[bA] using Y
 refine⟨_,_,_,_,oa B (C.blt _ (by decide+kernel)) (b9 hs dN c) c,pA C I hc,λfp s H=>jM,Z,λ_=>rfl,λσ H Q U=>?_⟩
 obtain⟨ι,st,loc,S,L,P⟩:=U;rw[run] at P;exact zZ (k:=λloc s=>cA (pairF λa b=>run g e' (some a::some b::loc)) s) (Q:=Q) ⟨ι,st,loc,S,L,P⟩ (λ{J s ι ι1 st st1 loc H1} F E S1 L1 P1=>kW (ma L1) F E S1 P1) (λ_=>Bv)
theorem B1{x y:D}(i:Nat)(h:bq st x=none∨bq st y=none):eK (.zp x y) i st=none:=by
 simp only[eK];rcases h with h|h
 ·rw[h]
 ·rw[h];cases bq st x<;>rfl
end
end Ev
set_option maxHeartbeats 4000000
namespace L2
open PySem PySem.Spec PyProof.Rows
section
end
section
variable{X:Cx}{pos:Pos}
def Dh(K:aA)(n:Nat)(t:xh):TG:=λv σ H Q=>∃a xs,v=.ref a/\fP K H a xs/\xs.length=n/\t xs σ H Q
theorem vH{es:List Expr}{k:Nat}{t:xh}{n:Nat}(hc:X.calm=true)(h:BX X es t)
  (Y:(assignEach es X.env).length=n)(B:(assignEach es X.env).findIdx? (·.1)=none):PG X (.Tuple es k pos) (Dh X.K n t):=by
 intro pins s σ H v u Q I r c;obtain⟨a,xs,e1,U,Z,c⟩:=c;subst e1;cases r;obtain⟨its,rv,J,hz⟩:=I.tuple U;refine assign_Tuple_tuple (I.ok.hd hc) J (by simp[Y,<-Z,rv.length]) B λh' F=>?_
 have I1:Inv X pins σ H {s with heap:=h'}:=I.kept (t':=s.toks) λb o e=>F b o (au (am e)) e;exact h pins _ σ H xs _ Q I1 (by simpa using rv) c
end
theorem nN{k:Key}:∀{xs:List (Key×V)}{p:Key×V},d9 xs k=none->¬p.1=k->d9 (xs++[p]) k=none
 |[],p,_,h=>by rw[List.nil_append,d8 h];rfl
 |q::xs,p,h,hp=>by
  by_cases e:q.1=k
  ·rw[fW e] at h;cases h
  ·rw[d8 e] at h;rw[List.cons_append,d8 e];exact nN h hp
theorem jm:∀(more kvs:List (Key×V)),(more.map (·.1)).Nodup->(∀k∈more.map (·.1),d9 kvs k=none)->f8 kvs more=kvs++more
 |[],kvs,_,_=>by show kvs=kvs++[];simp
 |p::r,kvs,hn,hd=>by
  rw[List.map_cons,List.nodup_cons] at hn;show f8 (putK kvs p.1 p.2) r=_;rw[vz p.2 (hd p.1 (by simp)),jm r (kvs++[(p.1,p.2)]) hn.2 λk hk=>?_]
  ·simp
  ·refine nN (hd k (by simp[List.mem_map] at hk ⊢;exact .inr hk)) λe=>hn.1 (by rw[show p.1=k from e];exact hk)
end L2
set_option maxHeartbeats 8000000
namespace Ev
open PySem PySem.Spec PyProof.Rows L2
variable{ι ι0 ι1:Nat->Addr}{H:Hp}{c f m t x:Str}{a e o:Expr}{ap cp p4 pos:Pos}{a' c' e' o':Ex}{i j n tk:Nat}{b st st0 st1:a9}{σ:L2.St}{loc:Loc}{kvs:List (Key×D)}{g:fR}{X:Cx}{N cs:List Str}{sc:Scope}{α:Type}{b':List S}{s:Src}{is:List Nat}{v y:D}{w:World}{P:Program}{args es:List Ex}{L xs:List D}{hi lo:Option Int}
theorem DRels.zip{K:aA}{m:Nat}:∀{ks:List Key}{ds:List D}{vs:List V},VRels K H ι m ds vs->DRels K H ι m (ks.zip ds) (ks.zip vs)
 |[],_,_,_=>.nil
 |_::_,_,_,.nil=>.nil
 |_::_,_,_,.cons h t=>.cons h (DRels.zip t)
section
variable{T:Tab}{g:fR}{X:Cx}{sc:Scope}{N:List Str}{pos:Pos}
theorem gR(C:Ctx T g X sc N)(h:bA sc x=true):Gl X x:=by show X.env.scope.names.lookup _=some .globalImplicit;rw[C.sc];simpa[bA] using h
theorem dg(hk:d0 o=true)(m:Str)(env:Env):attributeBase o m env (eval o env)=eval o env:=by
 cases o with
 |Name=>rfl
 |Attribute=>rfl
 |Subscript=>rfl
 |Call f as ks p=>
  cases f with
  |Attribute=>rfl
  |Name=>
   cases as with
   |nil=>cases hk
   |cons=>rfl
  |_=>cases hk
 |_=>cases hk
theorem BA{kp:Pos}{k:Nat}(I:oK m=true)(hl:(ap.endLine==cp.line)=true)(hb:attributeBase o m X.env (eval o X.env)=eval o X.env)(ho:PE X o (tE X.K (run g o'))):
  PE X (.Call (.Attribute o m ap) [.Constant (.int 0) k kp] [] cp) (tE X.K (run g (.pop o' true))):=by
 have I:m= "pop":=by simpa[oK] using I
 subst I;refine(vP PySem.F.plainAttrs_list PySem.F.slot_list_pop PySem.F.type_list_pop v0 ho (b9 kj dN rfl) hb rfl hl rfl rfl).imp λσ H Q hp=>?_;obtain⟨ι,st,loc,S,L,P⟩:=hp;rw[run] at P;obtain⟨x,st1,e1,P⟩:=aY P;refine bi S L e1 λH1 ι1 v E1 S1 r1=>?_;unfold vF at P;split at P
 ·rename_i n;split at P
  ·rename_i xs q;split at P
   ·rename_i y J;cases r1 with
    |ref hn=>
     obtain⟨vs,Z,Y⟩:=S1.ob _ _ q;rw[if_pos rfl] at J P;obtain⟨u,U,ru⟩:=Y.get J;have c:0<vs.length:=(aw U).1;have hd:=Y.drop 1;obtain⟨E4,S4⟩:=S1.write q hd;have B:Ext H1 (upd H1 (ι1 n) (.lst (vs.drop 1))) ι1 ι1 st1.length (st1.set n (O.lst (xs.drop 1))).length:=by rw[aF];exact E4
     refine⟨.inl ⟨rfl,vs,dD.of Z⟩,_,vs,0,0,u,rfl,rfl,Z,by decide,by decide,?_,U,?_⟩
     ·simp[seqIndex?,c]
     ·have z:=P _ ι1 _ (E1.trans B) S4 (ru.ext B);rw[List.drop_one] at z;rw[List.eraseIdx_zero];exact z
   ·exact P.elim
  ·exact P.elim
 ·exact P.elim
theorem VRels.dropLast{K:aA}{m:Nat}{ds:List D}{vs:List V}(r:VRels K H ι m ds vs):VRels K H ι m ds.dropLast vs.dropLast:=by rw[List.dropLast_eq_take,List.dropLast_eq_take,<-r.length];exact r.take _
theorem Bz(B:oK m=true)(hl:(ap.endLine==cp.line)=true)(hb:attributeBase o m X.env (eval o X.env)=eval o X.env)(ho:PE X o (tE X.K (run g o'))):
  PE X (.Call (.Attribute o m ap) [] [] cp) (tE X.K (run g (.pop o' false))):=by
 have B:m= "pop":=by simpa[oK] using B
 subst B;refine(vO PySem.F.plainAttrs_list PySem.F.slot_list_pop PySem.F.type_list_pop A8 ho hb hl).imp λσ H Q hp=>?_;obtain⟨ι,st,loc,S,L,P⟩:=hp;rw[run] at P;obtain⟨x,st1,e1,P⟩:=aY P;refine bi S L e1 λH1 ι1 v E1 Y r1=>?_;unfold vF at P;split at P
 ·rename_i n;split at P
  ·rename_i xs q;split at P
   ·rename_i y J;rw[if_neg (by decide)] at J P
    cases r1 with
    |ref hn=>
     obtain⟨vs,U,I⟩:=Y.ob _ _ q;obtain⟨u,hu,Z⟩:=I.get J;obtain⟨E4,S4⟩:=Y.write q I.dropLast;have c:Ext H1 (upd H1 (ι1 n) (.lst vs.dropLast)) ι1 ι1 st1.length (st1.set n (O.lst xs.dropLast)).length:=by rw[aF];exact E4
     exact⟨.inl ⟨rfl,vs,dD.of U⟩,_,vs,u,rfl,rfl,U,by rw[<-I.length];exact hu,P _ ι1 _ (E1.trans c) S4 (Z.ext c)⟩
   ·exact P.elim
  ·exact P.elim
 ·exact P.elim
def SD(T:Tab)(g:fR)(n:Nat):Prop:=∀{X:Cx}{sc:Scope}{N:List Str}{es:List Expr}{xs:List Ex}{ks:List Key}{keys:List (Option Expr)}(pos:Pos),Ctx T g X sc N->t5 T n sc N es=some xs->so keys=some ks->ks.length=es.length->
 ∃trs,DM X pos keys es trs/\keys.length=es.length/\keys.all (·.isSome)=true/\∀{σ:L2.St}{H:Hp}{ι:Nat->Addr}{st:a9}{loc:Loc}{ds:List D}{st1:a9}{Q:List (V×V)->Hp->Prop},Sim X.K H ι st->LRel X.K H ι st.length loc σ->runs g xs loc st=.ok ds st1->
  (∀H1 ι1 vs,Ext H H1 ι ι1 st.length st1.length->Sim X.K H1 ι1 st1->VRels X.K H1 ι1 st1.length ds vs->Q ((ks.zip vs).map λp=>(kV p.1,p.2)) H1)->mI trs σ H Q
theorem xH(h:∀{X:Cx}{sc:Scope}{N:List Str}{e:Expr}{x:Ex},Ctx T g X sc N->cE T n sc N e=some x->PE X e (tE X.K (run g x)))(hs:SD T g n):SD T g (n+1):=by
 intro X sc N es xs ks keys pos C e hk I;cases keys with
 |nil=>
  cases hk;cases es with
  |cons=>cases I
  |nil=>
   cases e;exact⟨[],xX,rfl,rfl,λ{σ H ι st loc ds st1 Q} S L c k=>by rw[runs] at c;cases c;exact k H ι [] (Ext.refl _ _ _) S .nil⟩
 |cons k r=>
  obtain⟨kk,h0,hk⟩:=bs hk;obtain⟨ks2,hq,rfl⟩:=map_some hk;obtain⟨c0,p0,q0,rfl,J⟩:=uL h0
  have F:PE X (.Constant c0 p0 q0) (tC (kV kk)):=by
   rcases J with⟨x0,rfl,rfl⟩|⟨i0,rfl,rfl⟩
   ·exact vI
   ·exact kj
  cases es with
  |nil=>cases I
  |cons a0 as0=>
   obtain⟨e',e2,e⟩:=bs e;obtain⟨r',B,rfl⟩:=map_some e;obtain⟨Z,h1,h2,h3,h4⟩:=hs pos C B hq (by simpa using I)
   refine⟨_,vE F (h C e2) h1,by simp[h2],by simp[h3],λ{σ H ι st loc ds st1 Q} S L c k=>?_⟩
   rw[runs] at c;unfold a_ at c;cases e5:run g e' loc st with
   |bad=>rw[e5] at c;cases c
   |ok d st2=>
    rw[e5] at c;simp only[a_] at c;cases e6:runs g r' loc st2 with
    |bad=>rw[e6] at c;cases c
    |ok ds2 st3=>rw[e6] at c;cases c;show tE X.K (run g e') σ H _;exact bi S L e5 λH1 ι1 v Y S1 r1=>h4 S1 (L.ext Y) e6 λH2 ι2 vs U S2 B=>k H2 ι2 (v::vs) (Y.trans U) S2 (.cons (r1.ext U) B)
theorem BC{k:Option Expr}{ks:List (Option Expr)}{es:List Expr}{c:List Key}{xs:List Ex}(hs:SD T g n)(C:Ctx T g X sc N)(hk:so (k::ks)=some c)(he:t5 T n sc N es=some xs)(hl:c.length=es.length)(h15:c.length<=15)(B:c.Nodup):
  PE X (.Dict (k::ks) es pos) (tE X.K (run g (.dict c xs))):=by
 obtain⟨trs,h1,h2,h3,h4⟩:=hs pos C he hk hl;refine(x4 h1 h3 h2 (by simp) (by rw[h2,<-hl];exact h15)).imp λσ H Q F=>?_
 obtain⟨ι,st,loc,S,L,P⟩:=F;intro p F;rw[run] at P;obtain⟨ds,st1,e1,P⟩:=aY P;have E0:Ext H (upd H p (.dK [])) ι ι st.length st.length:=⟨⟨ac _,λ_ _=>rfl,λb ys e=>by rw[aL (aJ e F)];exact e,λb I u e=>by rw[aL (aJ e F)];exact e⟩,λb I e k=>⟨by rw[aL (aJ e F)];exact e,k⟩⟩
 have Y:∀n,n<st.length->ι n≠p:=λn B=>by obtain⟨_,h,_⟩:=S.obj B;exact aJ h F
 have S0:Sim X.K (upd H p (.dK [])) ι st:=by refine⟨S.inj,λn o e=>?_⟩;have B:n<st.length:=(aw e).1;have old:=S.ob n o e;exact old.move E0.toExt0 (aL (Y n B))
 refine h4 S0 (L.ext E0) e1 λH1 ι1 vs E1 S1 r1=>?_;obtain⟨J,ap1⟩:=E1.fr p _ bF Y;have lv:=r1.length;unfold allocK at P;split at P
 ·rename_i hkd;refine⟨J,c.zip vs,rfl,by simp;omega,?_⟩
  ·have hmk:f8 [] (c.zip vs)=c.zip vs:=by
    rw[jm _ [] ?_ (λk _=>rfl),List.nil_append];rw[List.map_fst_zip (by omega)]
    exact B
   rw[hmk];generalize hkv:c.zip vs=kvs;have Z:Ext0 H1 (upd H1 p (.dK kvs)) ι1 ι1 st1.length st1.length:=⟨ac _,λ_ _=>rfl,λb ys e=>by rw[aL (fc e J (by intro z;cases z))];exact e,λb I u e=>by rw[aL (fc e J (by intro z;cases z))];exact e⟩
   have S2:Sim X.K (upd H1 p (.dK kvs)) ι1 st1:=by refine⟨S1.inj,λn o e=>?_⟩;have B:n<st1.length:=(aw e).1;have old:=S1.ob n o e;exact old.move Z (aL (ap1 n B))
   have rd:DRels X.K (upd H1 p (.dK kvs)) ι1 st1.length (c.zip ds) kvs:=by have q:=DRels.zip (ks:=c) (VRels.ext0 Z r1);rw[hkv] at q;exact q
   obtain⟨ι',g1,g2,g3⟩:=S2.addD bF ap1 rd;have l:(st1++[O.dct (c.zip ds)]).length=st1.length+1:=by simp
   refine P _ ι' (.ref p) ?_ g3 ?_
   ·rw[l];have U:=E0.trans E1;refine⟨⟨Nat.le_succ_of_le U.le,λn B=>(g1 n (az B U.le)).trans (U.ad n B),λb ys e=>Z.tp b ys (U.tp b ys e),λb I u e=>Z.fz b I u (U.fz b I u e)⟩,λb I e k=>?_⟩;obtain⟨g4,g5⟩:=U.fr b I e k;refine⟨by rw[aL (aJ e F)];exact g4,λn B=>?_⟩
    by_cases hn':n=st1.length
    ·rw[hn',g2];exact(aJ e F).symm
    ·rw[g1 n (by omega)];exact g5 n (by omega)
   ·rw[<-g2,l];exact .ref (aI _)
 ·exact P.elim
end
section
variable{T:Tab}{g:fR}{X:Cx}{sc:Scope}{N:List Str}{pos p2:Pos}
theorem FRels.look_none{K:aA}{m:Nat}{ds:List (Str×D)}{vs:List (Str×V)}(h:FRels K H ι m ds vs)(e:ds.lookup f=none):vs.lookup f=none:=by
 induction h with
 |nil=>rfl
 | @cons k d' v ds vs h t ih=>
  rw[List.lookup_cons] at e ⊢;cases q:f==k with
  |true=>rw[q] at e;cases e
  |false=>rw[q] at e;exact ih e
theorem rR(h:c∈T.ics f):∃B∈T.icl,B.x=c/\f∈B.flds:=by obtain⟨p,F,rfl⟩:=List.mem_map.mp h;obtain⟨h1,I⟩:=List.mem_filter.mp F;exact⟨p,h1,rfl,List.contains_iff_mem.mp I⟩
theorem yg(h:(T.ims m).lookup c=some j):∃B∈T.icl,B.x=c/\(m,j)∈B.mts:=by
 obtain⟨B,h1,F⟩:=List.mem_filterMap.mp (aQ h);cases q:B.mts.lookup m with
 |none=>rw[q] at F;cases F
 |some i=>rw[q] at F;cases F;exact⟨B,h1,rfl,aQ q⟩
theorem Du(C:Ctx T g X sc N)(hb:attributeBase o f X.env (eval o X.env)=eval o X.env)(ho:PE X o (tE X.K (run g o'))):PE X (.Attribute o f pos) (tE X.K (run g (.fld o' f [] (T.ics f)))):=by
 refine(AR ho hb).imp λσ H Q hp=>?_;obtain⟨ι,st,loc,S,L,P⟩:=hp;rw[run] at P;obtain⟨x,st1,e1,P⟩:=aY P;unfold Bn at P;split at P
 ·rename_i n;split at P
  ·rename_i c fs q;split at P
   ·rename_i d hl;split at P
    ·rename_i hc;obtain⟨Z,hi,rfl,hf⟩:=rR hc;obtain⟨C0,U,cl,na,_⟩:=C.icl Z hi;refine bi S L e1 λH1 ι1 v E1 I J=>?_;cases J with
     |ref hn=>obtain⟨C1,dx,vs,F,h1,h2,_⟩:=I.ob n _ q;rw[U] at F;cases F;obtain⟨w,Y,B⟩:=h2.look hl;exact⟨_,C0,dx,vs,w,rfl,h1,cl,na f hf,Y,(P.mono E1).same I B⟩
    ·exact P.elim
   ·exact P.elim
  ·exact P.elim
 ·exact P.elim
theorem Sim.aside{K:aA}(S:Sim K H ι st){p:Addr}(c:H p=none)(ho:HO):Ext H (upd H p ho) ι ι st.length st.length/\Sim K (upd H p ho) ι st:=by
 have E:Ext H (upd H p ho) ι ι st.length st.length:=⟨⟨ac _,λ_ _=>rfl,λb xs e=>by rw[aL (aJ e c)];exact e,λb B u e=>by rw[aL (aJ e c)];exact e⟩,λb B e k=>⟨by rw[aL (aJ e c)];exact e,k⟩⟩
 exact⟨E,S.inj,λn o e=>(S.ob n o e).move E.toExt0 (aL (by obtain⟨_,h,_⟩:=S.obj (aw e).1;exact aJ h c))⟩
theorem Dq{as:List Expr}{xs:List Ex}(C:Ctx T g X sc N)(hg:bA sc x=true)(hi:T.mks.lookup x=some j)(ha:PA X (a::as) (tA X.K (runs g xs)))
  (he:starEach (a::as) X.env=(false,eval a X.env)::starEach as X.env)(U:(backTo pos (starEach as X.env)).any (·.1)=false):PE X (.Call (.Name x p2) (a::as) [] pos) (tE X.K (run g (.new x j xs))):=by
 obtain⟨hd,C0,ad,fd,ps,k,hn,hm,mk,hb,hr,har,F⟩:=C.mks x j (aQ hi);refine(x2 mk F hr (gR C hg) hm hb .nil zf ha hd he U).imp λσ H Q hp=>?_;obtain⟨ι,st,loc,S,L,P⟩:=hp;rw[run] at P;obtain⟨ds,st1,e1,P⟩:=aY P;refine j6 S L e1 λH1 ι1 vs E1 S1 r1 c dx hx Z Y=>?_;rw[List.append_nil];unfold v4 at P;obtain⟨r,I,e2,P⟩:=aY P;obtain⟨E2,S2⟩:=S1.aside Z (.own c);have J:upd H1 dx (.own c) c=none:=by rw[aL Y.symm];exact hx
 obtain⟨ι2,E3,e3,S3⟩:=S2.laid (o:= .ins x []) (ho:= .ins C0 dx []) J (λι' h1 h2=>⟨C0,dx,[],hn,bF,.nil,by decide⟩)
 have l:(st1++[O.ins x []]).length=st1.length+1:=by simp
 have rr:VRels X.K (upd (upd H1 dx (.own c)) c (.ins C0 dx [])) ι2 (st1++[O.ins x []]).length (.ref st1.length::ds) (.ref c::vs):=by rw[l];refine .cons ?_ (r1.ext (E2.trans E3));rw[<-e3];exact .ref (aI _)
 have B:(V.ref c::vs).length=ps.length:=by
  rw[<-rr.length];by_cases hps:(D.ref st1.length::ds).length=ps.length
  ·exact hps
  ·rw[har _ _ hps] at e2;cases e2
 refine⟨B,ι2,_,_,S3,rr,?_⟩;rw[e2];cases r with
 |x n=>exact P.elim
 |v d=>
  cases d with
  |non=>
   intro H' ι' v E' S' rv;cases rv;have E4:Ext H H' ι ι' st.length I.length:=((E1.trans E2).trans (by rw[<-l] at E3;exact E3)).trans E'
   refine⟨rfl,P H' ι' _ E4 S' ?_⟩;have e4:ι' st1.length=c:=(E'.ad _ (by rw[l];exact aI _)).trans e3
   rw[<-e4];have:=E'.le;rw[l] at this;exact .ref this
  |_=>exact P.elim
theorem rP{xs:List Ex}{t:TA}{x:D}{H1:Hp}{v:V}{Q:VK}(C:Ctx T g X sc N)(S1:Sim X.K H1 ι1 st1)(L:LRel X.K H ι st.length loc σ)(E1:Ext H H1 ι ι1 st.length st1.length)(Z:VRel X.K H1 ι1 st1.length x v)
  (P:cu X.K H ι st (a_ (rQ m (T.ims m) x) (λj=>a_ (runs g xs loc) λds=>a_ (g j (x::ds)) λr=>dI r.val?) st1) Q)
  (ht:∀Q':List V->Hp->Prop,tA X.K (runs g xs) σ H1 Q'->t σ H1 Q'):
  ∃a C dx fs f k fd ps sp,v=.ref a/\H1 a=some (.ins C dx fs)/\fs.lookup m=none/\Cls X.K C/\Meth X.K C m f/\FnOk X.prog X.w X.K X.mg X.base (pK X.prog X.w) k f fd ps sp/\Room k X.A/\Binds X.K fd ps []/\t σ H1 λvs U=>∀E:XK,sp (.ref a::vs) U Q E:=by
 obtain⟨j,st2,B,P2⟩:=aY P;obtain⟨ds,I,e3,P3⟩:=aY P2;unfold rQ at B;cases x with
 |ref nn=>
  dsimp only at B;split at B
  ·rename_i c fs q;split at B
   ·rename_i i hl hj;cases B;obtain⟨ic,hi,rfl,hm⟩:=yg hj;obtain⟨C0,n0,cl,na,ms⟩:=C.icl ic hi;obtain⟨a,fd,ps,k,M,hb,hr,J,F⟩:=ms m _ hm;have rr:=Z;cases Z with
    |ref hn=>
     obtain⟨C1,dx,vs,n1,h1,h2,_⟩:=S1.ob nn _ q;rw[n0] at n1;cases n1;refine⟨_,C0,dx,vs,a,k,fd,ps,_,rfl,h1,h2.look_none hl,cl,M,F,hr,hb,ht _ (j6 S1 (L.ext E1) e3 λU ι2 ws E2 S2 r2 E=>?_)⟩;have Y:VRels X.K U ι2 I.length (.ref nn::ds) (.ref (ι1 nn)::ws):= .cons (rr.ext E2) r2;refine⟨?_,ι2,I,_,S2,Y,(gW.val P3).mono (E1.trans E2)⟩;rw[<-Y.length];by_cases hps:(D.ref nn::ds).length=ps.length
     ·exact hps
     ·have P4:=gW.val (E:=E) P3;rw[J _ _ hps] at P4;exact P4.elim
   ·cases B
  ·cases B
 |_=>cases B
theorem Bq{as:List Expr}(c:(backTo pos (starEach as X.env)).any (·.1)=false)(J:as.length<29):methodCallForm (as.length+([]:List Keyword).length) (backTo pos (starEach as X.env)) (backToKw pos (keywordEach [] X.env))=true:=by
 unfold methodCallForm
 have h1:(backTo pos (starEach as X.env)).all (!·.1)=true:=by
  rw[List.all_eq_true];intro p B;cases q:p.1 with
  |false=>rfl
  |true=>have:=List.any_eq_false.mp c p B;rw[q] at this;exact absurd rfl this
 rw[h1];have I:(backToKw pos (keywordEach [] X.env)).all (·.1.isSome)=true:=rfl;have F:(backToKw pos (keywordEach [] X.env)).isEmpty=true:=rfl;rw[I,F];simp only[Bool.and_self,Bool.true_and,List.length_nil,Nat.add_zero,if_true,decide_eq_true_eq];omega
theorem BB{as:List Expr}{xs:List Ex}(C:Ctx T g X sc N)(U:(ap.endLine==pos.line)=true)(I:(a::as).length<29)(Z:attributeBase o m X.env (eval o X.env)=eval o X.env)(ho:PE X o (tE X.K (run g o')))(ha:PA X (a::as) (tA X.K (runs g xs)))
  (Y:starEach (a::as) X.env=(false,eval a X.env)::starEach as X.env)(B:(backTo pos (starEach as X.env)).any (·.1)=false)(c:(backTo pos (starEach (a::as) X.env)).any (·.1)=false):PE X (.Call (.Attribute o m ap) (a::as) [] pos) (tE X.K (run g (.meth o' m (T.ims m) xs))):=by
 refine(vK ho Z U (Bq c I) ha Y B).imp λσ H Q J=>?_;obtain⟨ι,st,loc,S,L,P⟩:=J;rw[run] at P;obtain⟨x,st1,e1,P⟩:=aY P;exact bi S L e1 λH1 ι1 v E1 S1 F=>rP C S1 L E1 F P λ_ h=>h
theorem yI(C:Ctx T g X sc N)(J:(ap.endLine==pos.line)=true)(U:attributeBase o m X.env (eval o X.env)=eval o X.env)(ho:PE X o (tE X.K (run g o'))):PE X (.Call (.Attribute o m ap) [] [] pos) (tE X.K (run g (.meth o' m (T.ims m) []))):=by refine(sQ ho U J).imp λσ H Q I=>?_;obtain⟨ι,st,loc,S,L,P⟩:=I;rw[run] at P;obtain⟨x,st1,Y,P⟩:=aY P;refine bi S L Y λH1 ι1 v E1 S1 F=>rP C S1 L E1 F P λQ' h=>?_;obtain⟨ι2,B,loc2,Z,L2',c⟩:=h;rw[runs] at c;exact c H1 ι2 [] (Ext.refl _ _ _) Z .nil
theorem xq{B:Bool}(h:xr.lookup t=some B):bootBuiltins t=some (.type (if B then "tuple" else "list"))/\t≠ "__name__" /\(t==("__debug__":Str))=false/\t∈tV:=by
 have c:=aQ h;simp only[xr,List.mem_cons,List.mem_nil_iff,Prod.mk.injEq,or_false] at c;rcases c with⟨rfl,rfl⟩|⟨rfl,rfl⟩<;>exact⟨by decide+kernel,by decide+kernel,by decide+kernel,by decide+kernel⟩
theorem Dt{B:Bool}{p3:Pos}(C:Ctx T g X sc N)(hg:bA sc "isinstance"=true)(U:bA sc t=true)(ht:xr.lookup t=some B)(ha:PE X a (tE X.K (run g a')))
  (he:starEach [a,.Name t p3] X.env=(false,eval a X.env)::starEach [.Name t p3] X.env):PE X (.Call (.Name "isinstance" p2) [a,.Name t p3] [] pos) (tE X.K (run g (.isi a' B))):=by
 obtain⟨b1,b2,b3,b4⟩:=xq ht
 have cc:fO X (.builtin "isinstance") (λvs H Q=>∃b ys,vs=[.ref b,.ty (if B then "tuple" else "list")]/\(if B=true then fP X.K H b ys else dD X.K H b ys)/\Q (.bl true) H):=by
  intro pins s σ H vs us Q I r h;obtain⟨b,ys,rfl,e,q⟩:=h;cases r with
  |cons F r2=>
   cases r2 with
   |cons r2 r3=>
    cases r3;cases F;cases r2;have fin0:EP X pins σ Q (.bool true) s:=⟨.bl true,H,I,rfl,q⟩;cases B with
    |true=>rw[if_pos rfl] at e;obtain⟨_,_,⟨o,h1,Y,_⟩,_⟩:=I.tuple e;exact IsiPair.tuple_tuple h1 Y fin0
    |false=>
     rw[if_neg (by decide)] at e
     obtain⟨_,_,p,_⟩:=I.list e;obtain⟨o,h1,Y,_⟩:=p.isList;exact IsiPair.list_list h1 Y fin0
 have J:PE X (.Name t p3) (tC (.ty (if B then "tuple" else "list"))):=x8 (gR C U) (C.blt t b4) b1 rfl b2 b3
 refine(km cc (gR C hg) (C.blt _ (by decide+kernel)) (by decide+kernel) (b9 ha (b9 J dN) he) (by decide+kernel) (by decide+kernel) he rfl).imp λσ H Q hp=>?_
 obtain⟨ι,st,loc,S,L,P⟩:=hp;rw[run] at P;obtain⟨x,st1,e1,P⟩:=aY P;refine bi S L e1 λH1 ι1 v E1 Z F=>?_;unfold Bh at P;split at P
 ·split at P
  ·rename_i c;cases F with
   |tup hq rr=>exact⟨_,_,rfl,by rw[if_pos c];exact hq,(P.mono E1).same Z (.bl true)⟩
  ·exact P.elim
 ·split at P
  ·rename_i xs q;split at P
   ·exact P.elim
   ·rename_i c;cases F with
    |ref hn=>
     obtain⟨vs,g1,g2⟩:=Z.ob _ _ q;exact⟨_,vs,rfl,by rw[if_neg c];exact dD.of g1,(P.mono E1).same Z (.bl true)⟩
  ·exact P.elim
 ·exact P.elim
end
theorem d4{x:D}(h:dX st x=some kvs):∃n,x=.ref n/\st[n]? =some (.dct kvs):=by
 cases x with
 |ref n=>
  unfold dX at h;dsimp only at h;split at h
  ·cases h;exact⟨n,rfl,by assumption⟩
  ·cases h
 |_=>cases h
theorem VRels.of_get{K:aA}{m:Nat}:∀{ds:List D}{vs:List V},ds.length=vs.length->(∀(j:Nat) d v,ds[j]? =some d->vs[j]? =some v->VRel K H ι m d v)->VRels K H ι m ds vs
 |[],[],_,_=>.nil
 |d::ds,v::vs,l,h=>.cons (h 0 d v rfl rfl) (VRels.of_get (by simpa using l) λj d v a b=>h (j+1) d v (by simpa using a) (by simpa using b))
 |[],_::_,l,_=>by cases l
 |_::_,[],l,_=>by cases l
section
variable{T:Tab}{g:fR}{X:Cx}{sc:Scope}{N:List Str}{p1 p2 q1 q2 ap cp:Pos}
theorem lZ:∀{kvs:List (Key×D)}{ns:List Int},l0 kvs=some ns->kvs.map (·.1)=ns.map (Sum.inl:Int->Key)
 |[],ns,h=>by cases h;rfl
 |(.inl n,d)::r,ns,h=>by obtain⟨ms,h1,rfl⟩:=map_some h;rw[List.map_cons,List.map_cons,lZ h1]
 |(.inr _,_)::_,_,h=>by cases h
theorem Do(C:Ctx T g X sc N)(hcm:T.calm=true)(hg:bA sc "sorted"=true)(hl:(ap.endLine==cp.line)=true)(hb:attributeBase o "items" X.env (eval o X.env)=eval o X.env)(ho:PE X o (tE X.K (run g o'))):
  PE X (.Call (.Name "sorted" p1) [.Call (.Attribute o "items" ap) [] [] cp] [] q1) (tE X.K (run g (.sit o'))):=by
 refine(AL (C.calm hcm) (gR C hg) (C.blt _ (by decide+kernel)) ho hb hl).imp λσ H Q Y=>?_
 obtain⟨ι,st,loc,S,L,P⟩:=Y;rw[run] at P;obtain⟨x,st1,e1,P⟩:=aY P;refine bi S L e1 λH1 ι1 v E1 I r1=>?_;unfold z_ at P;split at P
 ·rename_i kvs hk;obtain⟨n,rfl,hn⟩:=d4 hk;split at P
  ·rename_i ns Z;split at P
   ·rename_i hc;cases r1 with
    |ref hl=>
     obtain⟨vs,g1,g2⟩:=I.ob _ _ hn;have ll:=g2.length;have B:=lZ Z;have ln:kvs.length=ns.length:=by simpa using congrArg List.length B
     refine⟨_,vs,ns,rfl,g1,by rw[<-g2.keys];exact B,hc.1,by rw[<-ll];exact hc.2,λHm as p la F hF hN Y hT=>?_⟩
     have E2:Ext H1 Hm ι1 ι1 st1.length st1.length:=⟨⟨ac _,λ_ _=>rfl,λb xs e=>F b _ e,λb U u e=>F b _ e⟩,λb U e k=>⟨F b _ e,k⟩⟩
     have S2:Sim X.K Hm ι1 st1:=⟨I.inj,λi U e=>(I.ob i U e).move E2.toExt0 (by obtain⟨u,h,_⟩:=I.obj (aw e).1;rw[h,F _ _ h])⟩
     refine cu.alloc S2 (P.mono (E1.trans E2)) (VRels.of_get (by simp;omega) λj d v hd c=>?_) p Y
     rw[aj] at hd c;cases ha:as[j]? with
     |none=>rw[ha] at c;cases c
     |some b=>
      rw[ha] at c;cases c;have hj:j<as.length:=(aw ha).1;have h1:ns[j]? =some ns[j]:=ag (by omega)
      have h2:kvs[j]? =some kvs[j]:=ag (by omega)
      rw[List.getElem?_zip_eq_some (z:=(ns[j],kvs[j]))|>.mpr ⟨h1,h2⟩] at hd;cases hd;obtain⟨w,hw,J⟩:=g2.vals.get (i:=j) (d:=kvs[j].2) (by rw[aj,h2];rfl)
      exact .tup (.inl (.inl (hT j b _ w ha h1 (by rw[<-aj];exact hw)))) (.cons (.int _) (.cons (J.ext E2) .nil))
   ·exact P.elim
  ·exact P.elim
 ·exact P.elim
theorem BD{b:Expr}{b':Ex}(C:Ctx T g X sc N)(hl:(ap.endLine==cp.line)=true)(hb:attributeBase o "get" X.env (eval o X.env)=eval o X.env)(h1:starEach [a,b] X.env=(false,eval a X.env)::starEach [b] X.env)(h2:starEach [b] X.env=[(false,eval b X.env)])
  (ho:PE X o (tE X.K (run g o')))(ha:PE X a (tE X.K (run g a')))(Z:PE X b (tE X.K (run g b'))):PE X (.Call (.Attribute o "get" ap) [a,b] [] cp) (tE X.K (run g (.dget o' a' b'))):=by
 refine(vM (by have:=C.un;omega) ho ha Z ⟨hb,by rw[h1,h2];rfl,hl,by rw[h1,h2];rfl⟩).imp λσ H Q hp=>?_
 obtain⟨ι,st,loc,S,L,P⟩:=hp;rw[run] at P;obtain⟨x,st1,e1,P⟩:=aY P;obtain⟨_,st2,B,P⟩:=aY P;obtain⟨k,st3,e3,P⟩:=aY P;obtain⟨z,st4,e4,c⟩:=aY P;unfold iF at B;split at B
 ·rename_i kv0 Y;cases B;obtain⟨n,rfl,hn⟩:=d4 Y;refine bi S L e1 λH1 ι1 v E1 S1 r1=>?_;have r1':=r1;cases r1 with
  |ref hlt=>
   obtain⟨vs,g1,g2⟩:=S1.ob _ _ hn;refine⟨_,rfl,.inl ⟨vs,.inl g1⟩,bi S1 (L.ext E1) e3 λH2 ι2 u E2 S2 r2=>bi S2 ((L.ext E1).ext E2) e4 λH3 ι3 w E3 S3 r3=>?_⟩;have E4:=E2.trans E3;have E5:=E1.trans E4;unfold wM at c;split at c
   ·rename_i kvs hk;obtain⟨n',e,J⟩:=d4 hk;cases e;obtain⟨ws,k1,k2⟩:=S3.ob _ _ J;rw[E4.ad n hlt] at k1;split at c
    ·rename_i I U;have e:=gG U (r2.ext E3);subst e;refine⟨_,gL.k (k:=I) k1,?_⟩;have l:=k2.look (k:=I);cases q:bH kvs I with
     |none=>rw[q] at l c;rw[l];exact(c.mono E5).same S3 r3
     |some d=>rw[q] at l c;obtain⟨w',hw,F⟩:=l;rw[hw];exact(c.mono E5).same S3 F
    ·exact c.elim
   ·exact c.elim
 ·cases B
theorem yJ(C:Ctx T g X sc N)(hl:(ap.endLine==cp.line)=true)(hb:attributeBase o "get" X.env (eval o X.env)=eval o X.env)(h1:starEach [a] X.env=[(false,eval a X.env)])
  (ho:PE X o (tE X.K (run g o')))(ha:PE X a (tE X.K (run g a'))):PE X (.Call (.Attribute o "get" ap) [a] [] cp) (tE X.K (run g (.dget1 o' a'))):=by
 refine(vN (by have:=C.un;omega) ho ha ⟨hb,by rw[h1];rfl,hl,by rw[h1];rfl⟩).imp λσ H Q hp=>?_
 obtain⟨ι,st,loc,S,L,P⟩:=hp;rw[run] at P;obtain⟨x,st1,e1,P⟩:=aY P;obtain⟨_,st2,B,P⟩:=aY P;obtain⟨k,st3,e3,c⟩:=aY P;unfold iF at B;split at B
 ·rename_i kv0 Y;cases B;obtain⟨n,rfl,hn⟩:=d4 Y;refine bi S L e1 λH1 ι1 v E1 S1 r1=>?_;cases r1 with
  |ref hlt=>
   obtain⟨vs,g1,g2⟩:=S1.ob _ _ hn;refine⟨_,rfl,.inl ⟨vs,.inl g1⟩,bi S1 (L.ext E1) e3 λH2 ι2 u E2 Z r2=>?_⟩;have E5:=E1.trans E2;unfold qA at c;split at c
   ·rename_i kvs hk;obtain⟨n',e,J⟩:=d4 hk;cases e;obtain⟨ws,k1,k2⟩:=Z.ob _ _ J;rw[E2.ad n hlt] at k1;split at c
    ·rename_i I U;have e:=gG U r2;subst e;refine⟨_,gL.k (k:=I) k1,?_⟩;have l:=k2.look (k:=I);cases q:bH kvs I with
     |none=>rw[q] at l c;rw[l];exact(c.mono E5).same Z .non
     |some d=>rw[q] at l c;obtain⟨w',hw,F⟩:=l;rw[hw];exact(c.mono E5).same Z F
    ·exact c.elim
   ·exact c.elim
 ·cases B
theorem Bx(C:Ctx T g X sc N)(I:T.calm=true)(hg:bA sc "sorted"=true)(F:bA sc "set"=true)(c:starEach [a] X.env=[(false,eval a X.env)])(ha:PE X a (tE X.K (run g a'))):
  PE X (.Call (.Name "sorted" p1) [.Call (.Name "set" p2) [a] [] q2] [] q1) (tE X.K (run g (.sset a'))):=by
 refine(xZ (C.calm I) (gR C hg) (C.blt _ (by decide+kernel)) (gR C F) (C.blt _ (by decide+kernel)) ha c).imp λσ H Q hp=>?_
 obtain⟨ι,st,loc,S,L,P⟩:=hp;rw[run] at P;obtain⟨x,st1,e1,P⟩:=aY P;refine bi S L e1 λH1 ι1 v E1 U Y=>?_;unfold uN at P;split at P
 ·rename_i xs es;split at P
  ·rename_i ns B;split at P
   ·rename_i J;obtain⟨b,vs,rfl,Z,rv⟩:=Y.seq U es;have e:=kq B rv;subst e;exact⟨b,ns,rfl,Z,J.1,λn hn=>of_decide_eq_true (List.all_eq_true.mp J.2 n hn),cu.alloc U (P.mono E1) (i_ _)⟩
   ·exact P.elim
  ·exact P.elim
 ·exact P.elim
end
set_option maxHeartbeats 16000000
noncomputable def Plain(es:List Expr)(env:Env)(pos:Pos):Prop:=(backTo pos (starEach es env)).any (·.1)=false
theorem qf{es:List Expr}{env:Env}(h:starEach (e::es) env=(false,eval e env)::starEach es env)(k:Plain es env pos):Plain (e::es) env pos:=by unfold Plain at k ⊢;rw[h];simpa[backTo] using k
def SX(g:fR)(X:Cx)(e:Expr)(x:Ex):Prop:=PE X e (tE X.K (run g x))/\PT X e (tT X.K (run g x))
def SE(T:Tab)(g:fR)(n:Nat):Prop:=∀{X:Cx}{sc:Scope}{N:List Str}{e:Expr}{x:Ex},Ctx T g X sc N->cE T n sc N e=some x->SX g X e x
def DK(T:Tab)(g:fR)(n:Nat):Prop:=∀{X:Cx}{sc:Scope}{N:List Str}{es:List Expr}{xs:List Ex},Ctx T g X sc N->t5 T n sc N es=some xs->
 PA X es (tA X.K (runs g xs))/\es.length=xs.length/\(∀pos,Plain es X.env pos)/\∀e r,es=e::r->starEach (e::r) X.env=(false,eval e X.env)::starEach r X.env/\∀pos,Plain r X.env pos
def SC(T:Tab)(g:fR)(n:Nat):Prop:=∀{X:Cx}{sc scope:Scope}{N:List Str}{x:Str}{elt src:Expr}{ifs:List Expr}{y:Ex}{px:Pos},Ctx T g X sc N->cR sc scope N x=true->
 (mj T n sc N false src x elt ifs scope=some y->gy g X x px src ifs elt scope y)/\
 (∀p3 p4,bA sc "range"=true->mj T n sc N true src x elt ifs scope=some y->gy g X x px (.Call (.Name "range" p3) [src] [] p4) ifs elt scope y)
theorem uV{T:Tab}(h:SE T g n)(hs:DK T g n):DK T g (n+1):=by
 intro X sc N es xs C e;cases es with
 |nil=>cases e;refine⟨dN.imp λσ H Q F=>?_,rfl,λpos=>rfl,λ_ _ z=>nomatch z⟩;obtain⟨ι,st,loc,S,L,P⟩:=F;rw[runs] at P;exact P H ι [] (Ext.refl _ _ _) S .nil
 |cons a0 as0=>
  obtain⟨U,c,e⟩:=bs e;obtain⟨I,B,rfl⟩:=map_some e;have h1:=h C c;obtain⟨h2,h3,J,_⟩:=hs C B;have st:=bT c as0 X.env;refine⟨(b9 h1.1 h2 st).imp λσ H Q F=>?_,by simp[h3],λpos=>qf st (J pos),λa b z=>by cases z;exact⟨st,J⟩⟩
  obtain⟨ι,st,loc,S,L,P⟩:=F;rw[runs] at P;obtain⟨d,st1,U,P⟩:=pE P;obtain⟨ds,st2,c,P⟩:=pE P;exact bi S L U λH1 ι1 v Z S1 I=>j6 S1 (L.ext Z) c λH2 ι2 vs Y S2 B=>P H2 ι2 (v::vs) (Z.trans Y) S2 (.cons (I.ext Y) B)
theorem Cf{c b:Expr}{b':Ex}(Y:PT X c (tT X.K (run g c')))(ha:PT X a (tT X.K (run g a')))(Z:PT X b (tT X.K (run g b'))):PT X (.IfExp c a b pos) (tT X.K (run g (.ite c' a' b'))):=by
 intro pins s σ H Q I h;obtain⟨ι,st,loc,S,L,P⟩:=h;rw[run] at P;obtain⟨x,st1,e1,P⟩:=dG P;obtain⟨i,B,e2,P⟩:=dG P;obtain⟨e3,rfl⟩:=bO e2;have:=cg e3;subst this;refine isTrue_IfExp (bW (Y pins s σ H (λk H1=>if k=true then tT X.K (run g a') σ H1 Q else tT X.K (run g b') σ H1 Q) I (jl S L e1 λH1 ι1 F U=>?_)) λk J ⟨H1,I1,q1⟩=>?_)
 ·cases i with
  |true=>rw[if_pos rfl];exact⟨ι1,B,loc,U,L.ext F,P.mono F⟩
  |false=>rw[if_neg aH];exact⟨ι1,B,loc,U,L.ext F,P.mono F⟩
 ·cases k with
  |true=>exact ha pins J σ H1 Q I1 (by simpa using q1)
  |false=>exact Z pins J σ H1 Q I1 (by simpa using q1)
theorem xJ{T:Tab}(h:SE T g n):SC T g (n+1):=by
 intro X sc scope N x elt I ifs y px C F
 have k:∀{b:Bool},mj T (n+1) sc N b I x elt ifs scope=some y->∃s' e',cE T n sc N I=some s'/\(∀fp s H,PE (bJ X x scope fp s H) elt (tE X.K (run g e')))/\((ifs=[]/\y=.comp b s' e')∨∃c c',ifs=[c]/\b=false/\(∀fp s H,PT (bJ X x scope fp s H) c (tT X.K (run g c')))/\y=.compIf s' c' e'):=by
  intro b e;obtain⟨s',B,e⟩:=bs e;obtain⟨e',Y,e⟩:=bs e;rcases ifs with _|⟨c,_|⟨c2,r⟩⟩
  ·cases e;exact⟨s',e',B,λfp s H=>(h (iG C F fp s H) Y).1,.inl ⟨rfl,rfl⟩⟩
  ·obtain⟨U,e⟩:=f6 e;obtain⟨c',e3,rfl⟩:=map_some e;exact⟨s',e',B,λfp s H=>(h (iG C F fp s H) Y).1,.inr ⟨c,c',rfl,U,λfp s H=>(h (iG C F fp s H) e3).2,rfl⟩⟩
  ·cases e
 refine⟨λe=>?_,λp3 p4 Z e=>?_⟩
 ·obtain⟨s',e',B,J,⟨rfl,rfl⟩|⟨c,c',rfl,_,h3,rfl⟩⟩:=k e
  ·exact BE C F (h C B).1 J (jX B X.env)
  ·exact wI C F (h C B).1 h3 J (jX B X.env)
 ·obtain⟨s',e',B,J,⟨rfl,rfl⟩|⟨c,c',_,U,_⟩⟩:=k e
  ·exact yL C F Z (bT B [] X.env) (h C B).1 J
  ·cases U
theorem both{m:Loc->M D}(h:PE X e (tE X.K m))(c:∀whole,isTrue e X.env whole=(do let v <-whole;standAt e.pos;holding [v] (truthy v))):PE X e (tE X.K m)/\PT X e (tT X.K m):=⟨h,vA h c⟩
theorem sy{T:Tab}(h:SE T g n)(J:SC T g n){scope:Scope}{elt:Expr}{gens:List Comprehension}{y:Ex}(C:Ctx T g X sc N)(ex:cE T (n+1) sc N (.ListComp elt gens scope pos)=some y){G:Prop}
  (Z:∀x px it ifs,gens=[⟨.Name x px,it,ifs,0⟩]->T.calm=true->cR sc scope N x=true->gy g X x px it ifs elt scope y->G)
  (Y:∀x z px py k pt it ifs,gens=[⟨.Tuple [.Name x px,.Name z py] k pt,it,ifs,0⟩]->T.calm=true->dC sc scope N x z=true->gx g X x z px py k pt it ifs elt scope y->G):G:=by
 obtain⟨q,I,ex⟩:=bs ex;have I:=wA I;obtain⟨t,it,ifs⟩:=q;rcases om ex with⟨x,hx,ex⟩|⟨_,ex⟩
 ·obtain⟨px,e⟩:=gF hx;cases e;obtain⟨⟨c,hk⟩,ex⟩:=f6 ex;refine Z x px it ifs I c hk ?_;rcases om ex with⟨⟨r,a⟩,hr,ex⟩|⟨_,ex⟩
  ·obtain⟨p3,p4,e⟩:=jj hr;cases e;rcases EE ex with⟨⟨e,B⟩,ex⟩|ex
   ·cases e;exact(J C hk).2 _ _ B ex
   ·exact(J C hk).1 ex
  ·exact(J C hk).1 ex
 ·obtain⟨⟨x,z⟩,hz,ex⟩:=bs ex;obtain⟨⟨hk,c⟩,ex⟩:=f6 ex;obtain⟨_,_,_,_,e⟩:=sT hz;cases e;obtain⟨e',e2,ex⟩:=bs ex;have U:=λfp s H=>(h (me C hk fp s H) e2).1;refine Y _ _ _ _ _ _ _ _ I c hk ?_;cases ifs with
  |cons=>cases ex
  |nil=>
   rcases om ex with⟨a,hn,ex⟩|⟨_,ex⟩
   ·obtain⟨a',F,rfl⟩:=map_some ex;obtain⟨B,_,_,rfl⟩:=iw hn;exact yM C c hk B (bT F [] _) (h C F).1 U
   ·obtain⟨a',F,rfl⟩:=map_some ex;exact yK C c hk (h C F).1 (jX F X.env) U
theorem yH{T:Tab}{args:List Expr}{xs:List Ex}(C:Ctx T g X sc N)(c:(ap.endLine==pos.line)=true)(F:args.length<29)(B:attributeBase o m X.env (eval o X.env)=eval o X.env)(ho:PE X o (tE X.K (run g o')))
  (I:PA X args (tA X.K (runs g xs))/\args.length=xs.length/\(∀pos,Plain args X.env pos)/\∀e r,args=e::r->starEach (e::r) X.env=(false,eval e X.env)::starEach r X.env/\∀pos,Plain r X.env pos):PE X (.Call (.Attribute o m ap) args [] pos) (tE X.K (run g (.meth o' m (T.ims m) xs))):=by
 obtain⟨h1,Z,h0,Y⟩:=I;cases args with
 |nil=>have:xs=[]:=List.length_eq_zero_iff.mp Z.symm;subst this;exact yI C c B ho
 |cons a as=>obtain⟨U,J⟩:=Y _ _ rfl;exact BB C c F B ho h1 U (J _) (h0 _)
theorem xG{T:Tab}(h:SE T g n)(hs:DK T g n){fp:Pos}{args:List Expr}{x:Ex}(C:Ctx T g X sc N)(ex:cE T (n+1) sc N (.Call (.Name f fp) args [] cp)=some x):SX g X (.Call (.Name f fp) args [] cp) x:=by
 obtain⟨Y,ex⟩:=f6 ex;rcases om ex with⟨o,hr,ex⟩|⟨_,ex⟩
 ·obtain⟨B,ex⟩:=f6 ex;obtain⟨o',I,rfl⟩:=map_some ex;obtain⟨rfl,hr⟩:=f6 hr;obtain⟨c,h1,hr⟩:=bs hr;cases dA h1;obtain⟨ap,cp',rfl,U,J⟩:=oC hr;exact both (Do C B Y U (dg J _ _) (h C I).1) λ_=>rfl
 rcases om ex with⟨o,hr,ex⟩|⟨_,ex⟩
 ·obtain⟨B,ex⟩:=f6 ex;obtain⟨o',I,rfl⟩:=map_some ex;obtain⟨rfl,hr⟩:=f6 hr;obtain⟨c,h1,hr⟩:=bs hr;cases dA h1;obtain⟨hg2,_,_,rfl⟩:=iw hr;exact both (Bx C B Y hg2 (bT I [] _) (h C I).1) λ_=>rfl
 cases args with
 |nil=>cases ex
 |cons a as=>
  have kk:∀{xs:List Ex},t5 T n sc N (a::as)=some xs->PA X (a::as) (tA X.K (runs g xs))/\(a::as).length=xs.length/\starEach (a::as) X.env=(false,eval a X.env)::starEach as X.env/\∀pos,Plain as X.env pos:=λF=>by obtain⟨h1,Z,_,h3⟩:=hs C F;exact⟨h1,Z,h3 _ _ rfl⟩
  rcases om ex with⟨i,hi,ex⟩|⟨_,ex⟩
  ·obtain⟨xs,F,rfl⟩:=map_some ex;obtain⟨h1,Z,U,J⟩:=kk F;exact both (ER C Y hi h1 Z U (J _)) λ_=>rfl
  rcases om ex with⟨j,hj,ex⟩|⟨_,ex⟩
  ·obtain⟨xs,F,rfl⟩:=map_some ex;obtain⟨h1,_,U,J⟩:=kk F;exact both (Dq C Y hj h1 U (J _)) λ_=>rfl
  rcases om ex with⟨b,hb,ex⟩|⟨_,ex⟩
  ·obtain⟨B,ex⟩:=f6 ex;obtain⟨xs,F,rfl⟩:=map_some ex;obtain⟨h1,_,U,J⟩:=kk F;exact both (ES C B Y hb h1 U (J _)) λ_=>rfl
  obtain⟨hf,ex⟩:=f6 ex;obtain⟨t',h1,ex⟩:=bs ex;obtain⟨t,Z,ex⟩:=bs ex;obtain⟨hgt,ex⟩:=f6 ex;obtain⟨tp,hi,ex⟩:=bs ex;obtain⟨a',I,rfl⟩:=map_some ex;cases dA h1;obtain⟨_,rfl⟩:=gF Z;subst hf;exact both (Dt C Y hgt hi (h C I).1 (bT I _ _)) λ_=>rfl
theorem xF{T:Tab}(h:SE T g n)(hs:DK T g n)(hc:SC T g n)(hd:SD T g n):SE T g (n+1):=by
 intro X sc N e x C ex;cases e with
 |Constant k _ _=>
  cases k with
  |int=>cases ex;exact both (iE (X:=X) (g:=g) kj (d:= .int _) (λ_ _ _=>.int _)) λ_=>rfl
  |str=>cases ex;exact both (iE (X:=X) (g:=g) vI (d:= .str _) (λ_ _ _=>.str _)) λ_=>rfl
  |bool=>cases ex;exact both (iE (X:=X) (g:=g) CV (d:= .bl _) (λ_ _ _=>.bl _)) λ_=>rfl
  |none=>cases ex;exact both (iE (X:=X) (g:=g) AO (d:= .non) (λ_ _ _=>.non)) λ_=>rfl
  |_=>cases ex
 |Name y _=>
  obtain⟨k,q,ex⟩:=bs ex;cases k with
  |«local»=>obtain⟨i,hi,rfl⟩:=map_some ex;exact both (wH C hi (.inl q)) λ_=>rfl
  |cell=>obtain⟨i,hi,rfl⟩:=map_some ex;exact both (wH C hi (.inr (.inl q))) λ_=>rfl
  |free=>obtain⟨i,hi,rfl⟩:=map_some ex;exact both (wH C hi (.inr (.inr q))) λ_=>rfl
  |globalImplicit=>
   obtain⟨d,hd,rfl⟩:=map_some ex;obtain⟨a1,u,v,a2,a3,a4⟩:=C.csts _ _ hd;exact both (iE (x3 (by show X.env.scope.names.lookup _=_;rw[C.sc];exact q) a2 a3 a1) a4) λ_=>rfl
  |_=>cases ex
 |Tuple es _ _=>obtain⟨U,ex⟩:=f6 ex;obtain⟨xs,hx,rfl⟩:=map_some ex;obtain⟨h1,h2,_⟩:=hs C hx;exact both (zy h1 U h2) λ_=>rfl
 |List es _=>obtain⟨U,ex⟩:=f6 ex;obtain⟨xs,hx,rfl⟩:=map_some ex;obtain⟨h1,h2,_⟩:=hs C hx;exact both (Dr h1 U h2) λ_=>rfl
 |Dict ks vs _=>
  cases ks with
  |nil=>
   cases vs with
   |nil=>cases ex;exact both (Dv (X:=X) (g:=g)) λ_=>rfl
   |cons=>cases ex
  |cons k ks=>obtain⟨ks',hk,ex⟩:=bs ex;obtain⟨vs',he,ex⟩:=bs ex;obtain⟨hl,ex⟩:=f6 ex;cases ex;exact both (BC hd C hk he hl.1 hl.2.1 hl.2.2) λ_=>rfl
 |BinOp a op b _=>obtain⟨a',F,ex⟩:=bs ex;obtain⟨o,B,ex⟩:=bs ex;obtain⟨b',J,rfl⟩:=map_some ex;exact both (Dx B (h C F).1 (h C J).1) λ_=>rfl
 |UnaryOp op a _=>
  cases op with
  |Not=>obtain⟨a',Z,rfl⟩:=map_some ex;exact⟨Dp (h C Z).1,Ce (h C Z).2⟩
  |_=>cases ex
 |BoolOp op es p=>
  rcases es with _|⟨a,_|⟨b,r⟩⟩
  ·cases ex
  ·exact⟨AM (h C ex).1,Cd (h C ex).2⟩
  ·obtain⟨a',F,ex⟩:=bs ex;obtain⟨b',B,rfl⟩:=map_some ex;cases op with
   |And=>exact⟨Dy (h C F).1 (h C B).1,Ch (h C F).2 (h C B).2⟩
   |Or=>exact⟨EO (h C F).1 (h C B).1,D7 (h C F).2 (h C B).2⟩
 |Compare a ops bs' _=>obtain⟨op,ho,ex⟩:=bs ex;obtain⟨b,hb,ex⟩:=bs ex;obtain⟨a',F,ex⟩:=bs ex;obtain⟨b',B,rfl⟩:=map_some ex;cases dA ho;cases dA hb;exact⟨Dw C.un (pC B _) (h C F).1 (h C B).1,Cg C.un (pC B _) (h C F).1 (h C B).1⟩
 |IfExp c a b _=>obtain⟨c',F,ex⟩:=bs ex;obtain⟨a',B,ex⟩:=bs ex;obtain⟨b',J,rfl⟩:=map_some ex;exact⟨Ds (h C F).2 (h C B).1 (h C J).1,Cf (h C F).2 (h C B).2 (h C J).2⟩
 |Subscript a b _=>
  rcases om ex with⟨⟨lo,hi⟩,hq,ex⟩|⟨_,ex⟩
  ·obtain⟨p,rfl⟩:=xA hq;cases lo with
   |none=>obtain⟨hh,e0,ex⟩:=bs ex;cases e0;obtain⟨a',F,ex⟩:=bs ex;obtain⟨h',B,rfl⟩:=map_some ex;exact both (By (h C F).1 rG (jO (h C B).1) rL iu) λ_=>rfl
   |some l=>
    obtain⟨a',F,ex⟩:=bs ex;obtain⟨l',B,ex⟩:=bs ex;cases hi with
    |none=>cases ex;exact both (By (h C F).1 (jO (h C B).1) rG iu rL) λ_=>rfl
    |some hh=>obtain⟨h',J,rfl⟩:=map_some ex;exact both (By (h C F).1 (jO (h C B).1) (jO (h C J).1) iu iu) λ_=>rfl
  obtain⟨hp,ex⟩:=f6 ex;obtain⟨a',F,ex⟩:=bs ex;obtain⟨b',B,rfl⟩:=map_some ex;exact both (EQ C.un hp (h C F).1 (h C B).1) λ_=>rfl
 |Call f args kws cp=>
  cases kws with
  |cons=>cases ex
  |nil=>
   cases f with
   |Name f _=>exact xG h hs C ex
   |Attribute o m ap=>
    obtain⟨I,ex⟩:=f6 ex;simp only[Bool.and_eq_true,decide_eq_true_eq] at I;obtain⟨o',F,ex⟩:=bs ex;rcases EE ex with⟨hpm,ex⟩|ex
    ·cases args with
     |nil=>cases ex;exact both (Bz hpm I.1.2 (dg I.1.1 _ _) (h C F).1) λ_=>rfl
     |cons a0 as0=>obtain⟨a,Z,ex⟩:=bs ex;obtain⟨U,ex⟩:=f6 ex;cases ex;cases dA Z;obtain⟨_,_,rfl⟩:=qp U;exact both (BA hpm I.1.2 (dg I.1.1 _ _) (h C F).1) λ_=>rfl
    rcases EE ex with⟨hgm,ex⟩|ex
    ·subst hgm;rcases om ex with⟨b,hb,ex⟩|⟨_,ex⟩
     ·obtain⟨b',B,rfl⟩:=map_some ex;cases dA hb;exact both (yJ C I.1.2 (dg I.1.1 _ _) (bT B [] _) (h C F).1 (h C B).1) λ_=>rfl
     obtain⟨z,U,ex⟩:=bs ex;obtain⟨b',B,ex⟩:=bs ex;obtain⟨c',J,rfl⟩:=map_some ex;cases gD U;exact both (BD C I.1.2 (dg I.1.1 _ _) (bT B _ _) (bT J [] _) (h C F).1 (h C B).1 (h C J).1) λ_=>rfl
    ·obtain⟨as',B,rfl⟩:=map_some ex;exact both (yH C I.1.2 I.2 (dg I.1.1 _ _) (h C F).1 (hs C B)) λ_=>rfl
   |_=>cases ex
 |ListComp elt gens scope pos=>
  exact sy h hc C ex (λx px it ifs e Y hk hd=>by cases e;exact both (hd.pe C Y hk) λ_=>rfl) λx z px py k pt it ifs e Y hk hd=>by cases e;exact both (hd.pe C Y hk) λ_=>rfl
 |Attribute o f _=>obtain⟨hf,ex⟩:=f6 ex;obtain⟨o',ho,rfl⟩:=map_some ex;exact both (Du C (dg hf _ _) (h C ho).1) λ_=>rfl
 |_=>cases ex
theorem sound(T:Tab)(g:fR):∀n,SE T g n/\DK T g n/\SC T g n/\SD T g n
 |0=>by
  refine⟨?_,?_,?_,?_⟩
  ·intro X sc N e x C h;cases h
  ·intro X sc N e x C h;cases h
  ·intro X sc scope N x elt B ifs y px C F;exact⟨λh=>(by cases h),λ_ _ _ h=>(by cases h)⟩
  ·intro X sc N es xs ks keys pos C h;cases h
 |n+1=>by obtain⟨a,b,c,d⟩:=sound T g n;exact⟨xF a b c d,uV a b,xJ a,xH (λC e=>(a C e).1) d⟩
noncomputable def isLocal(sc:Scope)(x:Str):Bool:=sc.names.lookup x==some .local||sc.names.lookup x==some .cell
noncomputable def wc:Expr->Bool
 | .ListComp .. =>true
 |_=>false
noncomputable def kA(s:Str):Bool:=s== "append"
noncomputable def kz(s:Str):Bool:=s== "extend"
noncomputable def yq:Expr->Bool
 | .Name .. =>true
 | .Call .. =>true
 | .Subscript .. =>true
 | .Constant .. =>true
 | .BinOp .. =>true
 | .Attribute .. =>true
 | .List .. =>true
 | .Tuple .. =>true
 | .Dict .. =>true
 | .UnaryOp .. =>true
 | .Compare .. =>true
 |_=>false
def uF(sc:Scope)(N:List Str):List Expr->Option (List Nat)
 |[]=>some []
 |e::r=>(A5 e).bind λx=>if isLocal sc x=true then(gc N x).bind λi=>(uF sc N r).map λis=>i::is else none
def BO(f:Str->Bool):Expr->Option (Expr×Expr)
 | .Call (.Attribute o m ap) as ks cp=>(match ks with
  |[]=>(one as).bind λa=>if(f m&&(ap.endLine==cp.line)&&d0 o)=true then some (o,a) else none
  |_=>none)
 |_=>none
theorem pG{f:Str->Bool}{z:Expr×Expr}(h:BO f e=some z):∃m ap cp,e= .Call (.Attribute z.1 m ap) [z.2] [] cp/\(f m&&(ap.endLine==cp.line)&&d0 z.1)=true:=by
 cases e with
 |Call f as ks cp=>
  cases f with
  |Attribute o m ap=>
   cases ks with
   |cons=>cases h
   |nil=>obtain⟨a,h1,h⟩:=bs h;obtain⟨c,h⟩:=f6 h;cases h;cases dA h1;exact⟨m,ap,cp,rfl,c⟩
  |_=>cases h
 |_=>cases h
def Fd:Expr->Option (Expr×Expr×Expr)
 | .Call (.Attribute o m ap) as ks cp=>(match ks with
  |[]=>(oi as).bind λa=>if(m== "setdefault" &&(ap.endLine==cp.line)&&d0 o)=true then some (o,a.1,a.2) else none
  |_=>none)
 |_=>none
theorem xI{z:Expr×Expr×Expr}(h:Fd e=some z):∃ap cp,e= .Call (.Attribute z.1 "setdefault" ap) [z.2.1,z.2.2] [] cp/\(ap.endLine==cp.line)=true/\d0 z.1=true:=by
 cases e with
 |Call f as ks cp=>
  cases f with
  |Attribute o m ap=>
   cases ks with
   |cons=>cases h
   |nil=>
    obtain⟨a,h1,h⟩:=bs h;obtain⟨c,h⟩:=f6 h;cases h;cases gD h1;simp only[Bool.and_eq_true,beq_iff_eq] at c;obtain⟨⟨rfl,F⟩,B⟩:=c;exact⟨ap,cp,rfl,by simpa using F,B⟩
  |_=>cases h
 |_=>cases h
mutual
noncomputable def cS(T:Tab)(n:Nat)(sc:Scope)(N:List Str)(s:Stmt):Option S:=match n with
 |0=>none
 |n+1=>match s with
  | .Assign ts e _=>(one ts).bind λt=>match t with
   | .Name x _=>if isLocal sc x=true then(gc N x).bind λi=>(cE T n sc N e).map λe'=>.set i e' else none
   | .Subscript o i _=>if ir i=true/\yq e=true then(cE T n sc N o).bind λo'=>(cE T n sc N i).bind λi'=>(cE T n sc N e).map λe'=>.setix o' i' e' else none
   | .Attribute o f _=>if yq e=true then(cE T n sc N o).bind λo'=>(cE T n sc N e).map λe'=>.setf o' f e' [] (T.ics f) else none
   |_=>none
  | .Return o _=>(match o with
   |some e=>some ((cE T n sc N e).elim .stop .ret)
   |none=>none)
  | .Expr e _=>(BO kA e).elim ((BO kz e).elim ((A9 "clear" e).elim ((Fd e).bind λz=>(cE T n sc N z.1).bind λo'=>(cE T n sc N z.2.1).bind λk'=>(cE T n sc N z.2.2).map λe'=>.sdf o' k' e')
    λo=>(cE T n sc N o).map .clr) λq=>(cE T n sc N q.1).bind λo'=>(cE T n sc N q.2).map λe'=>.ext o' e') λq=>(cE T n sc N q.1).bind λo'=>(cE T n sc N q.2).map λe'=>.app o' e'
  | .Continue _=>some .cont
  | .If c a b _=>(cE T n sc N c).bind λc'=>(zG T n sc N a).bind λa'=>(zG T n sc N b).map λb'=>.ite c' a' b'
  | .For t it body els _=>(match els with
   |[]=>(match t with
   | .Name x _=>if isLocal sc x=true/\T.calm=true then(gc N x).bind λi=>(zG T n sc N body).bind λb'=>(CK sc it).elim ((CL sc it).elim ((vZ "reversed" sc it).elim ((cE T n sc N it).map λa'=>.for_ i false a' b') λa=>(cE T n sc N a).map λa'=>.forV i a' b') λa=>(cE T n sc N a).map λa'=>.forD i a' b') λa=>(cE T n sc N a).map λa'=>.for_ i true a' b' else none
   | .Tuple ts _ _=>if T.calm=true then(uF sc N ts).bind λis=>(zG T n sc N body).bind λb'=>(B4 sc it).elim ((vZ "enumerate" sc it).bind λa=>(cE T n sc N a).map λa'=>.forE is a' b') λp=>(cE T n sc N p.1).bind λa'=>(cE T n sc N p.2).map λc'=>.forZ is a' c' b' else none
   |_=>none)
   |_=>none)
  | .While c body els _=>(match els with
   |[]=>(cE T n sc N c).bind λc'=>(zG T n sc N body).map λb'=>.whil c' b'
   |_=>none)
  |_=>none
noncomputable def zG(T:Tab)(n:Nat)(sc:Scope)(N:List Str)(ss:List Stmt):Option (List S):=match n with
 |0=>none
 |n+1=>match ss with
  |[]=>some []
  |s::r=>(zG T n sc N r).map λr'=>(cS T n sc N s).getD .stop::r'
end
def eT(K:aA)(Xw:Addr->L2.St->Hp->Prop)(H:Hp)(ι:Nat->Addr)(st:a9)(r:R Fl)(D:Ends):Prop:=match r with
 | .ok (.nx loc) st'=>∀H' ι' σ',Ext H H' ι ι' st.length st'.length->Sim K H' ι' st'->LRel K H' ι' st'.length loc σ'->D.nx σ' H'
 | .ok (.rt d) st'=>∀H' ι' v,Ext H H' ι ι' st.length st'.length->Sim K H' ι' st'->VRel K H' ι' st'.length d v->D.rt v H'
 | .ok (.ex n loc) st'=>∀H' ι' σ',Ext H H' ι ι' st.length st'.length->Sim K H' ι' st'->LRel K H' ι' st'.length loc σ'->Xw (ι' n) σ' H'
 | .ok (.ct loc) st'=>∀H' ι' σ',Ext H H' ι ι' st.length st'.length->Sim K H' ι' st'->LRel K H' ι' st'.length loc σ'->D.ct σ' H'
 | .bad=>False
def tS(K:aA)(Xw:Addr->L2.St->Hp->Prop)(m:Loc->M Fl):TS:=λD σ H=>∃ι st loc,Sim K H ι st/\LRel K H ι st.length loc σ/\eT K Xw H ι st (m loc st) D
section
variable{K:aA}{Xw:Addr->L2.St->Hp->Prop}{H:Hp}{ι:Nat->Addr}{st:a9}
theorem aT{m:M α}{f:α->M Fl}{D:Ends}(P:eT K Xw H ι st (a_ m f st0) D):∃a st1,m st0=.ok a st1/\eT K Xw H ι st (f a st1) D:=by
 unfold a_ at P;cases e:m st0 with
 |ok a st1=>rw[e] at P;exact⟨a,st1,rfl,P⟩
 |bad=>rw[e] at P;exact P.elim
theorem eT.mono{r:R Fl}{D:Ends}{H1:Hp}(P:eT K Xw H ι st r D)(E:Ext H H1 ι ι1 st.length st1.length):eT K Xw H1 ι1 st1 r D:=by
 cases r with
 |ok f st2=>
  cases f with
  |nx loc=>exact λH' ι' σ' F B c=>P H' ι' σ' (E.trans F) B c
  |rt d=>exact λH' ι' v F B c=>P H' ι' v (E.trans F) B c
  |ex n loc=>exact λH' ι' σ' F B c=>P H' ι' σ' (E.trans F) B c
  |ct loc=>exact λH' ι' σ' F B c=>P H' ι' σ' (E.trans F) B c
 |bad=>exact P
end
theorem _root_.L2.PS.imp{X:Cx}{s:Stmt}{t t':TS}(h:PS X s t)(k:∀D σ H,t' D σ H->t D σ H):PS X s t':=λpins s σ H D I q=>h pins s σ H D I (k D σ H q)
theorem _root_.L2.PSs.imp{X:Cx}{s:List Stmt}{t t':TS}(h:PSs X s t)(k:∀D σ H,t' D σ H->t D σ H):PSs X s t':=λpins s σ H D I q=>h pins s σ H D I (k D σ H q)
section
variable{T:Tab}{g:fR}{X:Cx}{sc:Scope}{N:List Str}{pos p2 p3:Pos}{Xw:Addr->L2.St->Hp->Prop}
theorem f9(C:Ctx T g X sc N)(h:isLocal sc x=true):L2.Loc X.env.scope x:=by show X.env.scope.names.lookup x=_∨X.env.scope.names.lookup x=_;rw[C.sc];simpa[isLocal] using h
theorem qc{D:Ends}(h:tS X.K Xw (exec g (.set i e')) D σ H):pT (tE X.K (run g e')) (fe i) D σ H:=by obtain⟨ι,st,loc,S,L,P⟩:=h;rw[exec] at P;obtain⟨d,st1,F,P⟩:=aT P;exact bi S L F λH1 ι1 v c I B=>P H1 ι1 _ c I ((L.ext c).set i B)
theorem xK{i:Expr}{i':Ex}(hu:X.A.units+1<cLine)(hp:ir i=true)(hn:yq e=true)(ho:PE X o (tE X.K (run g o')))(hi:PE X i (tE X.K (run g i')))(he:PE X e (tE X.K (run g e'))):PS X (.Assign [.Subscript o i p2] e pos) (tS X.K Xw (exec g (.setix o' i' e'))):=by
 refine((AE he (AI ho hi set_list (λv=>by cases i<;>first|rfl|cases hp)) (by cases e<;>rfl) (by cases e<;>rfl)).or (xW hu ho hi he (by cases e<;>first|rfl|cases hn))).imp λD σ H hp=>?_
 obtain⟨ι,st,loc,S,L,P⟩:=hp;rw[exec] at P;obtain⟨d,st1,e1,P⟩:=aT P;obtain⟨x,st2,e2,P⟩:=aT P;obtain⟨k,F,e3,P⟩:=aT P;obtain⟨u,st4,c,P⟩:=aT P;have sz:sizeLine=16777216:=sizeLine_eq;unfold fj at c;cases x with
 |ref n0=>
  dsimp only at c;split at c
  ·rename_i xs q;split at c
   ·split at c
    ·rename_i j hj;cases c;refine .inl (bi S L e1 λH1 ι1 v Z S1 r1=>bi S1 (L.ext Z) e2 λH2 ι2 vx Y S2 r2=>bi S2 ((L.ext Z).ext Y) e3 λH3 ι3 vk U S3 r3=>?_);have I:=r2.ext U;have J:=(r1.ext Y).ext U;cases I with
     |ref hn=>
      cases r3;obtain⟨vs,g1,g2⟩:=S3.ob _ _ q;have rr:=g2.set j J;obtain⟨E4,S4⟩:=S3.write q rr;refine⟨_,_,_,j,rfl,rfl,g1,by rw[<-g2.length];exact hj,?_⟩
      have E5:=(Z.trans Y).trans U;have B:Ext H3 (upd H3 (ι3 n0) (.lst (vs.set j v))) ι3 ι3 F.length (F.set n0 (O.lst (xs.set j d))).length:=by rw[aF];exact E4
      exact P _ ι3 σ (E5.trans B) S4 (((L.ext E5)).ext B)
    ·cases c
   ·cases c
  ·rename_i kvs q;split at c
   ·rename_i kk hk;split at c
    ·rename_i hl;cases c;refine .inr (bi S L e1 λH1 ι1 v Z S1 r1=>bi S1 (L.ext Z) e2 λH2 ι2 vx Y S2 r2=>bi S2 ((L.ext Z).ext Y) e3 λH3 ι3 vk U S3 r3=>?_);have I:=r2.ext U;have J:=(r1.ext Y).ext U;have hv:=gG hk r3;subst hv;cases I with
     |ref hn=>
      obtain⟨vs,g1,g2⟩:=S3.ob _ _ q;have ll:=g2.length;obtain⟨E4,S4⟩:=S3.writeD q (g2.put (k:=kk) J);refine⟨_,_,rfl,xc.k (k:=kk) g1 (by omega),?_⟩
      have E5:=(Z.trans Y).trans U;have B:Ext H3 (upd H3 (ι3 n0) (.dK (putK vs kk v))) ι3 ι3 F.length (F.set n0 (O.dct (bP kvs kk d))).length:=by rw[aF];exact E4
      exact P _ ι3 σ (E5.trans B) S4 (((L.ext E5)).ext B)
    ·cases c
   ·cases c
  ·cases c
 |_=>cases c
theorem CA(F:PE X e (tE X.K (run g e'))):PS X (.Return (some e) pos) (tS X.K Xw (exec g (.ret e'))):=
 (AC F).imp λD σ H B=>by obtain⟨ι,st,loc,S,L,P⟩:=B;rw[exec] at P;obtain⟨d,st1,I,P⟩:=aT P;exact bi S L I λH1 ι1 v U J c=>P H1 ι1 v U J c
theorem u6{s₀:Stmt}:PS X s₀ (tS X.K Xw (exec g .stop)):=by intro pins s σ H D I h;obtain⟨ι,st,loc,S,L,P⟩:=h;rw[exec] at P;exact False.elim P
theorem CG(Y:kA m=true)(hl:(ap.endLine==cp.line)=true)(B:starEach [e] X.env=[(false,eval e X.env)])(hb:attributeBase o m X.env (eval o X.env)=eval o X.env)(ho:PE X o (tE X.K (run g o')))(he:PE X e (tE X.K (run g e'))):
  PS X (.Expr (.Call (.Attribute o m ap) [e] [] cp) pos) (tS X.K Xw (exec g (.app o' e'))):=by
 have Y:m= "append":=by simpa[kA] using Y
 subst Y;refine(jN (vP PySem.F.plainAttrs_list PySem.F.slot_list_append PySem.F.type_list_append i5 ho (b9 he dN B) hb (by rw[B];rfl) hl B rfl)).imp λD σ H hp=>?_
 obtain⟨ι,st,loc,S,L,P⟩:=hp;rw[exec] at P;obtain⟨x,st1,e1,P⟩:=aT P;obtain⟨u0,st0,U,P⟩:=aT P;obtain⟨d,I,e2,P⟩:=aT P;obtain⟨u,st3,c,P⟩:=aT P;have sz:sizeLine=16777216:=sizeLine_eq;unfold append at c;split at c
 ·rename_i n z1 z0;split at c
  ·rename_i xs q;split at c
   ·rename_i hz;cases c;simp only[jn] at U;split at U
    ·rename_i zs q0;cases U;refine bi S L e1 λH1 ι1 vx E1 S1 r1=>?_;cases r1 with
     |ref hn=>
      obtain⟨ws,w1,_⟩:=S1.ob _ _ q0;refine⟨.inl ⟨rfl,ws,dD.of w1⟩,bi S1 (L.ext E1) e2 λH2 ι2 v E2 S2 r2=>?_⟩;obtain⟨vs,g1,Z⟩:=S2.ob _ _ q;have l:=Z.length;have rr:=Z.append (.cons r2 .nil);obtain⟨E4,S4⟩:=S2.write q rr;rw[E2.ad n hn] at g1 E4 S4;refine⟨_,_,_,rfl,rfl,g1,by omega,?_⟩
      have E5:=E1.trans E2;have J:Ext H2 (upd H2 (ι1 n) (.lst (vs++[v]))) ι2 ι2 I.length (I.set n (O.lst (xs++[d]))).length:=by rw[aF];exact E4
      exact P _ ι2 σ (E5.trans J) S4 ((L.ext E5).ext J)
    ·cases U
   ·cases c
  ·cases c
 ·cases c
theorem CD(Y:kz m=true)(hl:(ap.endLine==cp.line)=true)(B:starEach [e] X.env=[(false,eval e X.env)])(hb:attributeBase o m X.env (eval o X.env)=eval o X.env)(ho:PE X o (tE X.K (run g o')))(he:PE X e (tE X.K (run g e'))):
  PS X (.Expr (.Call (.Attribute o m ap) [e] [] cp) pos) (tS X.K Xw (exec g (.ext o' e'))):=by
 have Y:m= "extend":=by simpa[kz] using Y
 subst Y;refine(jN (vP PySem.F.plainAttrs_list PySem.F.slot_list_extend PySem.F.type_list_extend sX ho (b9 he dN B) hb (by rw[B];rfl) hl B rfl)).imp λD σ H hp=>?_
 obtain⟨ι,st,loc,S,L,P⟩:=hp;rw[exec] at P;obtain⟨x,st1,e1,P⟩:=aT P;obtain⟨u0,st0,J,P⟩:=aT P;obtain⟨d,I,e2,P⟩:=aT P;obtain⟨u,st3,c,P⟩:=aT P;have sz:sizeLine=16777216:=sizeLine_eq;cases x with
 |ref n=>
  simp only[jn] at J;split at J
  ·rename_i zs q0;cases J;refine bi S L e1 λH1 ι1 vx E1 S1 r1=>?_;cases r1 with
   |ref hn=>
    obtain⟨ws,w1,_⟩:=S1.ob _ _ q0;refine⟨.inl ⟨rfl,ws,dD.of w1⟩,bi S1 (L.ext E1) e2 λH2 ι2 v E2 Z r2=>?_⟩;have E5:=E1.trans E2;unfold extend at c;split at c
    ·rename_i n1 m1 zz1;cases zz1;split at c
     ·rename_i xs ys q qm;split at c
      ·rename_i hz;cases c;cases r2 with
       |ref hm2=>
        obtain⟨vs,g1,g2⟩:=Z.ob _ _ q;obtain⟨us,k1,k2⟩:=Z.ob _ _ qm;have l:=g2.length;have l2:=k2.length;obtain⟨E4,S4⟩:=Z.write q (g2.append k2);rw[E2.ad n hn] at g1 E4 S4;refine⟨_,_,_,_,rfl,rfl,g1,k1,by omega,?_⟩
        have U:Ext H2 (upd H2 (ι1 n) (.lst (vs++us))) ι2 ι2 I.length (I.set n (O.lst (xs++ys))).length:=by rw[aF];exact E4
        exact P _ ι2 σ (E5.trans U) S4 ((L.ext E5).ext U)
      ·cases c
     ·cases c
    ·cases c
  ·cases J
 |_=>cases J
theorem CF(hl:(ap.endLine==cp.line)=true)(hb:attributeBase o "clear" X.env (eval o X.env)=eval o X.env)(ho:PE X o (tE X.K (run g o'))):
  PS X (.Expr (.Call (.Attribute o "clear" ap) [] [] cp) pos) (tS X.K Xw (exec g (.clr o'))):=by
 refine(jN (vO PySem.F.plainAttrs_list PySem.F.slot_list_clear PySem.F.type_list_clear v3 ho hb hl)).imp λD σ H hp=>?_;obtain⟨ι,st,loc,S,L,P⟩:=hp;rw[exec] at P;obtain⟨x,st1,e1,P⟩:=aT P;obtain⟨u,Y,c,P⟩:=aT P;refine bi S L e1 λH1 ι1 vx U J Z=>?_;unfold qC at c;split at c
 ·rename_i n;split at c
  ·rename_i xs q;cases c;cases Z with
   |ref hn=>
    obtain⟨vs,I,g2⟩:=J.ob _ _ q;obtain⟨E4,S4⟩:=J.write q .nil;have B:Ext H1 (upd H1 (ι1 n) (.lst [])) ι1 ι1 st1.length (st1.set n (O.lst [])).length:=by rw[aF];exact E4
    exact⟨.inl ⟨rfl,vs,dD.of I⟩,_,vs,rfl,rfl,I,P _ ι1 σ (U.trans B) S4 ((L.ext U).ext B)⟩
  ·cases c
 ·cases c
theorem Cz(C:Ctx T g X sc N)(hl:(ap.endLine==cp.line)=true)(hb:attributeBase o "setdefault" X.env (eval o X.env)=eval o X.env)(h1:starEach [a,e] X.env=(false,eval a X.env)::starEach [e] X.env)(h2:starEach [e] X.env=[(false,eval e X.env)])
  (ho:PE X o (tE X.K (run g o')))(ha:PE X a (tE X.K (run g a')))(he:PE X e (tE X.K (run g e'))):PS X (.Expr (.Call (.Attribute o "setdefault" ap) [a,e] [] cp) pos) (tS X.K Xw (exec g (.sdf o' a' e'))):=by
 refine(jN (AS ho ha he ⟨hb,by rw[h1,h2];rfl,hl,by rw[h1,h2];rfl⟩)).imp λD σ H hp=>?_
 obtain⟨ι,st,loc,S,L,P⟩:=hp;rw[exec] at P;obtain⟨x,st1,e1,P⟩:=aT P;obtain⟨_,st2,J,P⟩:=aT P;obtain⟨k,st3,e3,P⟩:=aT P;obtain⟨d,B,e4,P⟩:=aT P;obtain⟨u,st5,c,P⟩:=aT P;have sz:sizeLine=16777216:=sizeLine_eq;unfold iF at J;split at J
 ·rename_i kv0 hk0;cases J;obtain⟨n,rfl,hn⟩:=d4 hk0;refine bi S L e1 λH1 ι1 v E1 S1 r1=>?_;cases r1 with
  |ref hlt=>
   obtain⟨vs,g1,g2⟩:=S1.ob _ _ hn;refine⟨_,rfl,.inl ⟨vs,.inl g1⟩,bi S1 (L.ext E1) e3 λH2 ι2 u2 E2 S2 r2=>bi S2 ((L.ext E1).ext E2) e4 λH3 ι3 w E3 S3 r3=>?_⟩;have E4:=E2.trans E3;have U:=E1.trans E4;unfold Ab at c;dsimp only at c;split at c
   ·rename_i kvs q;obtain⟨ws,k1,Y⟩:=S3.ob _ _ q;rw[E4.ad n hlt] at k1;split at c
    ·rename_i F hkk;have e:=gG hkk (r2.ext E3);subst e;split at c
     ·rename_i hz;have ll:=Y.length;refine⟨ws,F,k1,rfl,by omega,?_⟩
      have l:=Y.look (k:=F);split at c
      ·rename_i w0 Z;cases c;rw[Z] at l;obtain⟨w',hw,rw'⟩:=l;rw[hw];exact P H3 ι3 σ U S3 (L.ext U)
      ·rename_i Z;cases c;rw[Z] at l;rw[l];obtain⟨E6,S6⟩:=S3.writeD q (Y.put (k:=F) r3);rw[E4.ad n hlt] at E6 S6;have I:Ext H3 (upd H3 (ι1 n) (.dK (putK ws F w))) ι3 ι3 B.length (B.set n (O.dct (bP kvs F d))).length:=by rw[aF];exact E6
       exact P _ ι3 σ (U.trans I) S6 ((L.ext U).ext I)
     ·cases c
    ·cases c
   ·cases c
 ·cases J
theorem Es{c:Expr}{a b:List Stmt}{a':List S}(U:PT X c (tT X.K (run g c')))(Z:PSs X a (tS X.K Xw (execs g a')))(Y:PSs X b (tS X.K Xw (execs g b'))):PS X (.If c a b pos) (tS X.K Xw (exec g (.ite c' a' b'))):=
 (CQ U Z Y).imp λD σ H J=>by
  obtain⟨ι,st,loc,S,L,P⟩:=J;rw[exec] at P;obtain⟨x,st1,e1,P⟩:=aT P;obtain⟨i,B,e2,P⟩:=aT P;obtain⟨e3,rfl⟩:=bO e2;have:=cg e3;subst this;refine jl S L e1 λH1 ι1 F I=>?_;cases i with
  |true=>rw[if_pos rfl];exact⟨ι1,B,loc,I,L.ext F,P.mono F⟩
  |false=>rw[if_neg aH];exact⟨ι1,B,loc,I,L.ext F,P.mono F⟩
theorem Ad{c:Expr}{body:List Stmt}(hp:PassesOwn (model X.prog X.w) X.A X.env X.xe)(hc:PT X c (tT X.K (run g c')))(hb:PSs X body (tS X.K Xw (execs g b'))):PS X (.While c body [] pos) (tS X.K Xw (exec g (.whil c' b'))):=by
 refine(vC hp hc hb).imp λD σ H hp=>?_;obtain⟨ι,st,loc,S,L,P⟩:=hp;rw[exec] at P;refine⟨λm σ2 H2=>∃ι2 B loc2,Ext H H2 ι ι2 st.length B.length/\Sim X.K H2 ι2 B/\LRel X.K H2 ι2 B.length loc2 σ2/\eT X.K Xw H ι st (fS (run g c') (execs g b') m loc2 B) D,⟨Bm,ι,st,loc,Ext.refl _ _ _,S,L,P⟩,?_⟩;rintro m σ2 H2 ⟨ι2,B,loc2,E2,S2,U,P2⟩;cases m with
 |zero=>exact P2.elim
 |succ m=>
  rw[fS] at P2;obtain⟨x,st3,e3,P3⟩:=aT P2;obtain⟨b,st4,e4,P4⟩:=aT P3;obtain⟨e5,rfl⟩:=bO e4;have:=cg e5;subst this;refine jl S2 U e3 λH3 ι3 Z S3=>?_;cases b with
  |false=>rw[if_neg aH];exact P4 H3 ι3 σ2 (E2.trans Z) S3 (U.ext Z)
  |true=>
   rw[if_pos rfl];refine⟨λσ4 I=>∃ι4 F loc5,Ext H I ι ι4 st.length F.length/\Sim X.K I ι4 F/\LRel X.K I ι4 F.length loc5 σ4/\eT X.K Xw H ι st (fS (run g c') (execs g b') m loc5 F) D,λσ' H' q=>⟨m,aI _,q⟩,?_⟩;rw[if_pos rfl] at P4;obtain⟨r,st6,e6,P6⟩:=aT P4;refine⟨ι3,st4,loc2,S3,U.ext Z,?_⟩;rw[e6];cases r with
   |nx loc3=>exact λI ι4 σ4 Y J L4=>⟨ι4,st6,loc3,(E2.trans Z).trans Y,J,L4,P6⟩
   |ct loc3=>exact λI ι4 σ4 Y J L4=>⟨ι4,st6,loc3,(E2.trans Z).trans Y,J,L4,P6⟩
   |rt d=>exact λI ι4 w Y J r4=>P6 I ι4 w ((E2.trans Z).trans Y) J r4
   |ex n l=>exact λI ι4 σ4 Y J L4=>P6 I ι4 σ4 ((E2.trans Z).trans Y) J L4
def nj:List Nat->xh
 |[]=>yC
 |i::is=>l8 (fe i) (nj is)
theorem kt(C:Ctx T g X sc N)(c:∀y,X.fn y=true):∀{B:List Expr}{is:List Nat},uF sc N B=some is->BX X B (nj is)/\(assignEach B X.env).length=is.length/\(assignEach B X.env).findIdx? (·.1)=none
 |[],is,h=>by cases h;exact⟨rJ,rfl,rfl⟩
 |t::r,is,h=>by
  obtain⟨x,I,h⟩:=bs h;obtain⟨J,h⟩:=f6 h;obtain⟨i,hi,h⟩:=bs h;obtain⟨F,hr,rfl⟩:=map_some h;obtain⟨px,rfl⟩:=gF I;obtain⟨h1,Y,U⟩:=kt C c hr;refine⟨kg (fo (i:=i) (by rw[C.n];exact C.nd) (by rw[C.n];exact cM hi) (f9 C J) (.inl (c x))) h1 rfl,?_,?_⟩
  ·show(assignEach r X.env).length+1=F.length+1;rw[Y]
  ·show(((false,assign (.Name x px) X.env)::assignEach r X.env).findIdx? (·.1))=none;rw[List.findIdx?_cons,U];rfl
theorem oz{K:aA}{H:Hp}{ι:Nat->Addr}{m:Nat}{Q:L2.St->Hp->Prop}:∀{is:List Nat}{ds:List D}{vs:List V}{loc:Loc}{σ:L2.St},VRels K H ι m ds vs->ds.length=is.length->LRel K H ι m loc σ->(∀σ',LRel K H ι m (kb is ds loc) σ'->Q σ' H)->nj is vs σ H Q
 |[],_,_,_,_,.nil,_,L,k=>⟨rfl,k _ L⟩
 |i::is,_,_,_,_,.cons (v:=v) (vs:=vs) h t,hl,L,k=>⟨v,vs,rfl,oz t (by simpa using hl) (L.set i h) k⟩
 |[],_,_,_,_,.cons _ _,hl,_,_=>by simp at hl
 |_::_,_,_,_,_,.nil,hl,_,_=>by simp at hl
theorem jc{J:It}{H0:Hp}{D:Ends}
  (F:c_ X.K J s H ι st.length)(E0:Ext H0 H ι0 ι st0.length st.length)(Sm:Sim X.K H ι st)(L:LRel X.K H ι st.length loc σ)(P:eT X.K Xw H0 ι0 st0 (fg (λx B=>execs g b' (B.set i (some x))) s loc st) D):
  ∃W:Nat->Nat->L2.St->Hp->Prop,(∃m,W 0 m σ H)/\∀k m σ H,W k m σ H->
   (J.stop k H/\D.nx σ H)∨(J.go k H/\∃Nn:L2.St->Hp->Prop,(∀σ' H',Nn σ' H'->∃m',m'<m/\W (k+1) m' σ' H')/\∀x H',J.yld k H x H'->fe i x σ H' λσ2 Y=>tS X.K Xw (execs g b') {D with nx:=Nn,ct:=Nn,bk:=D.nx} σ2 Y):=by
 refine⟨λk m σ2 Y=>∃ι2 c loc2,Ext H Y ι ι2 st.length c.length/\Sim X.K Y ι2 c/\LRel X.K Y ι2 c.length loc2 σ2/\eT X.K Xw H0 ι0 st0 (iC (λx B=>execs g b' (B.set i (some x))) s m k loc2 c) D,⟨bV s st+1,ι,st,loc,Ext.refl _ _ _,Sm,L,P⟩,?_⟩;rintro k m σ2 Y ⟨ι2,c,loc2,E2,S2,L2',P2⟩;obtain⟨c1,c2⟩:=F Y ι2 c k E2 S2;cases m with
 |zero=>exact P2.elim
 |succ m=>
  simp only[iC] at P2;cases en:eK s k c with
  |none=>rw[en] at P2;exact P2.elim
  |some ox=>
   rw[en] at P2;cases ox with
   |none=>exact .inl ⟨c1 en,P2 Y ι2 σ2 (E0.trans E2) S2 L2'⟩
   |some x=>
    obtain⟨hgo,hyl⟩:=c2 x en;refine .inr ⟨hgo,λσ3 U=>∃ι3 I loc3,Ext H U ι ι3 st.length I.length/\Sim X.K U ι3 I/\LRel X.K U ι3 I.length loc3 σ3/\eT X.K Xw H0 ι0 st0 (iC (λx B=>execs g b' (B.set i (some x))) s m (k+1) loc3 I) D,λσ' H' q=>⟨m,aI _,q⟩,λv H' y=>?_⟩;obtain⟨rfl,rv⟩:=hyl v H' y;obtain⟨r,I,e3,P3⟩:=aT P2;refine⟨ι2,c,loc2.set i (some x),S2,L2'.set i rv,?_⟩;rw[e3];cases r with
    |nx loc3=>exact λU ι3 σ3 E3 Z L3=>⟨ι3,I,loc3,E2.trans E3,Z,L3,P3⟩
    |ct loc3=>exact λU ι3 σ3 E3 Z L3=>⟨ι3,I,loc3,E2.trans E3,Z,L3,P3⟩
    |rt d=>exact λU ι3 w E3 Z r3=>P3 U ι3 w ((E0.trans E2).trans E3) Z r3
    |ex n l=>exact λU ι3 σ3 E3 Z L3=>P3 U ι3 σ3 ((E0.trans E2).trans E3) Z L3
theorem sg{f:D->Loc->M Fl}(n:Nat)(st:a9)(h:∀xs,st[n]?≠some (.lst xs)):fg f (.at n) loc st=.bad:=by unfold fg;simp only[iC,rM h]
theorem nk{J:It}{H0:Hp}{D:Ends}
  (F:dY X.K J s H ι st.length)(E0:Ext H0 H ι0 ι st0.length st.length)(Sm:Sim X.K H ι st)(L:LRel X.K H ι st.length loc σ)(P:eT X.K Xw H0 ι0 st0 (fg (λx I=>a_ (items? is.length x) λds=>execs g b' (kb is ds I)) s loc st) D):
  ∃W:Nat->Nat->L2.St->Hp->Prop,(∃m,W 0 m σ H)/\∀k m σ H,W k m σ H->
   (J.stop k H/\D.nx σ H)∨(J.go k H/\∃Nn:L2.St->Hp->Prop,(∀σ' H',Nn σ' H'->∃m',m'<m/\W (k+1) m' σ' H')/\∀x H',J.yld k H x H'->Dh X.K is.length (nj is) x σ H' λσ2 Y=>tS X.K Xw (execs g b') {D with nx:=Nn,ct:=Nn,bk:=D.nx} σ2 Y):=by
 refine⟨λk m σ2 Y=>∃ι2 c loc2,Ext H Y ι ι2 st.length c.length/\Sim X.K Y ι2 c/\LRel X.K Y ι2 c.length loc2 σ2/\eT X.K Xw H0 ι0 st0 (iC (λx I=>a_ (items? is.length x) λds=>execs g b' (kb is ds I)) s m k loc2 c) D,⟨bV s st+1,ι,st,loc,Ext.refl _ _ _,Sm,L,P⟩,?_⟩;rintro k m σ2 Y ⟨ι2,c,loc2,E2,S2,L2',P2⟩;obtain⟨c1,c2⟩:=F Y ι2 c k E2 S2;cases m with
 |zero=>exact P2.elim
 |succ m=>
  simp only[iC] at P2;cases en:eK s k c with
  |none=>rw[en] at P2;exact P2.elim
  |some ox=>
   rw[en] at P2;cases ox with
   |none=>exact .inl ⟨c1 en,P2 Y ι2 σ2 (E0.trans E2) S2 L2'⟩
   |some x=>
    obtain⟨hgo,hyl⟩:=c2 x en;refine .inr ⟨hgo,λσ3 U=>∃ι3 B loc3,Ext H U ι ι3 st.length B.length/\Sim X.K U ι3 B/\LRel X.K U ι3 B.length loc3 σ3/\eT X.K Xw H0 ι0 st0 (iC (λx I=>a_ (items? is.length x) λds=>execs g b' (kb is ds I)) s m (k+1) loc3 B) D,λσ' H' q=>⟨m,aI _,q⟩,λv H' y=>?_⟩;obtain⟨EH,SH,rv⟩:=hyl v H' y;have EH2:=E2.trans EH;have L3':=L2'.ext EH;obtain⟨r,B,e3,P3⟩:=aT P2;unfold items? at e3;cases x with
    |tup xs=>
     by_cases hl:xs.length=is.length
     ·have e4:execs g b' (kb is xs loc2) c=.ok r B:=by simp only[a_,if_pos hl] at e3;exact e3
      cases rv with
      |tup hq rw'=>
       refine⟨_,_,rfl,hq,by rw[<-rw'.length];exact hl,oz rw' hl L3' λσ' L'=>⟨ι2,c,kb is xs loc2,SH,L',?_⟩⟩
       rw[e4];cases r with
       |nx loc3=>exact λU ι3 σ3 E3 Z L3=>⟨ι3,B,loc3,EH2.trans E3,Z,L3,P3⟩
       |ct loc3=>exact λU ι3 σ3 E3 Z L3=>⟨ι3,B,loc3,EH2.trans E3,Z,L3,P3⟩
       |rt d=>exact λU ι3 w E3 Z r3=>P3 U ι3 w ((E0.trans EH2).trans E3) Z r3
       |ex n l=>exact λU ι3 σ3 E3 Z L3=>P3 U ι3 σ3 ((E0.trans EH2).trans E3) Z L3
     ·simp only[a_,if_neg hl] at e3;cases e3
    |_=>cases e3
theorem o8{f:D->Loc->M Fl}{x:D}(h:bq st x=none∨bq st y=none):fg f (.zp x y) loc st=.bad:=by simp only[fg,iC,B1 0 h]
theorem o9{f:D->Loc->M Fl}(n:Nat)(st:a9)(h:∀xs,st[n]?≠some (.lst xs)):fg f (.en n) loc st=.bad:=by
 have c:eK (.en n) 0 st=none:=by simp only[eK]
 unfold fg;simp only[iC,c]
theorem Ai(U:PassesOwn (model X.prog X.w) X.A X.env X.xe)(C:Ctx T g X sc N)(F:T.calm=true){ts:List Expr}{body:List Stmt}{p3:Pos}(Y:∀y,X.fn y=true)(ht:uF sc N ts=some is)(hg:bA sc "enumerate"=true)(B:starEach [a] X.env=[(false,eval a X.env)])(ha:PE X a (tE X.K (run g a')))(hb:PSs X body (tS X.K Xw (execs g b'))):
  PS X (.For (.Tuple ts tk p2) (.Call (.Name "enumerate" p3) [a] [] p4) body [] pos) (tS X.K Xw (exec g (.forE is a' b'))):=by
 obtain⟨h1,h2,h3⟩:=kt C Y ht;refine(iX U (C.calm F) (oa (gR C hg) (C.blt _ (by decide+kernel)) (b9 ha dN B) B) (vH (C.calm F) h1 h2 h3) hb (λ_=>rfl)).imp λD σ H U=>?_
 obtain⟨ι,st,loc,S,L,P⟩:=U;rw[exec] at P;obtain⟨d,st1,e1,P⟩:=aT P;obtain⟨s,c,e2,P⟩:=aT P;obtain⟨Z,rfl⟩:=bO e2;refine bi S L e1 λH1 ι1 v I S1 r1=>?_;have J:=r1;cases r1 with
 |tup h r=>cases Z;exact⟨_,rfl,.inr ⟨⟨_,h⟩,nk (dY.enT J) I S1 (L.ext I) P⟩⟩
 | @ref n hn=>
  cases Z;cases q:c[n]? with
  |none=>
   rw[o9 n c (λxs z=>by rw[q] at z;cases z)] at P
   exact P.elim
  |some o=>
   cases o with
   |lst xs=>obtain⟨vs,h1,_⟩:=S1.ob n _ q;exact⟨_,rfl,.inl ⟨⟨vs,dD.of h1⟩,nk (dY.en hn) I S1 (L.ext I) P⟩⟩
   |_=>
    rw[o9 n c (λxs z=>by rw[q] at z;cases z)] at P
    exact P.elim
 |_=>cases Z
theorem Af(U:PassesOwn (model X.prog X.w) X.A X.env X.xe)(C:Ctx T g X sc N)(I:T.calm=true){ts:List Expr}{b:Expr}{body:List Stmt}{a1 a2:Ex}{p3:Pos}(Y:∀y,X.fn y=true)(ht:uF sc N ts=some is)(hg:bA sc "zip"=true)(F:starEach [a,b] X.env=(false,eval a X.env)::starEach [b] X.env)(c:starEach [b] X.env=[(false,eval b X.env)])
  (ha:PE X a (tE X.K (run g a1)))(hc:PE X b (tE X.K (run g a2)))(hb:PSs X body (tS X.K Xw (execs g b'))):
  PS X (.For (.Tuple ts tk p2) (.Call (.Name "zip" p3) [a,b] [] p4) body [] pos) (tS X.K Xw (exec g (.forZ is a1 a2 b'))):=by
 obtain⟨h1,Z,h3⟩:=kt C Y ht;refine(iX U (C.calm I) (AF (gR C hg) (C.blt _ (by decide+kernel)) (b9 ha (b9 hc dN c) F) F c) (vH (C.calm I) h1 Z h3) hb (λ_=>rfl)).imp λD σ H U=>?_
 obtain⟨ι,st,loc,S,L,P⟩:=U;rw[exec] at P;obtain⟨d,st1,e1,P⟩:=aT P;obtain⟨d2,st2,e2,P⟩:=aT P;obtain⟨s,B,e3,P⟩:=aT P;obtain⟨e4,rfl⟩:=bO e3;refine bi S L e1 λH1 ι1 v E1 S1 r1=>bi S1 (L.ext E1) e2 λH2 ι2 v2 J S2 r2=>?_;cases e4;cases q1:bq B d with
 |none=>rw[o8 (.inl q1)] at P;exact P.elim
 |some xs=>
  cases q2:bq B d2 with
  |none=>rw[o8 (.inr q2)] at P;exact P.elim
  |some ys=>obtain⟨_,vs,z,h1,_⟩:=(r1.ext J).seqB S2 q1;cases z;obtain⟨_,ws,z,Z,_⟩:=r2.seqB S2 q2;cases z;exact⟨_,_,_,_,rfl,⟨vs,h1⟩,⟨ws,Z⟩,nk (dY.zp (r1.ext J) r2) (E1.trans J) S2 (L.ext (E1.trans J)) P⟩
theorem CC(J:PassesOwn (model X.prog X.w) X.A X.env X.xe)(C:Ctx T g X sc N)(Y:T.calm=true){it:Expr}{body:List Stmt}(hx:isLocal sc x=true)(U:∀y,X.fn y=true)(hi:gc N x=some i)(ha:PE X it (tE X.K (run g a')))(hf:∀v,foldedSetIterable it X.env v=pure v)(hb:PSs X body (tS X.K Xw (execs g b'))):
  PS X (.For (.Name x p2) it body [] pos) (tS X.K Xw (exec g (.for_ i false a' b'))):=by
 refine(iX J (C.calm Y) (mU ha) (fo (i:=i) (by rw[C.n];exact C.nd) (by rw[C.n];exact cM hi) (f9 C hx) (.inl (U x))) hb hf).imp λD σ H J=>?_
 obtain⟨ι,st,loc,S,L,P⟩:=J;rw[exec] at P;obtain⟨d,st1,e1,P⟩:=aT P;obtain⟨s,c,e2,P⟩:=aT P;obtain⟨F,rfl⟩:=bO e2;refine bi S L e1 λH1 ι1 v B I Z=>?_;cases Z with
 |tup h r=>cases F;exact⟨_,rfl,.inr ⟨⟨_,h⟩,jc (c_.tup h r) B I (L.ext B) P⟩⟩
 |fl h r=>cases F;exact⟨_,rfl,.inl ⟨⟨_,h.sql⟩,jc (c_.fl h r) B I (L.ext B) P⟩⟩
 | @ref n hn=>
  cases F;cases q:c[n]? with
  |none=>
   rw[sg n c (λxs z=>by rw[q] at z;cases z)] at P
   exact P.elim
  |some o=>
   cases o with
   |lst xs=>obtain⟨vs,h1,_⟩:=I.ob n _ q;exact⟨_,rfl,.inl ⟨⟨vs,dD.of h1⟩,jc (c_.ref hn) B I (L.ext B) P⟩⟩
   |_=>
    rw[sg n c (λxs z=>by rw[q] at z;cases z)] at P
    exact P.elim
 |_=>cases F
theorem Ah(F:PassesOwn (model X.prog X.w) X.A X.env X.xe)(C:Ctx T g X sc N)(U:T.calm=true){body:List Stmt}(hx:isLocal sc x=true)(J:∀y,X.fn y=true)(hi:gc N x=some i)(hg:bA sc "range"=true)(c:starEach [a] X.env=[(false,eval a X.env)])(ha:PE X a (tE X.K (run g a')))(hb:PSs X body (tS X.K Xw (execs g b'))):
  PS X (.For (.Name x p2) (.Call (.Name "range" p3) [a] [] p4) body [] pos) (tS X.K Xw (exec g (.for_ i true a' b'))):=by
 have I:Gl X "range":=by show X.env.scope.names.lookup _=some .globalImplicit;rw[C.sc];simpa[bA] using hg
 refine(iX F (C.calm U) (lO I (C.blt _ (by decide+kernel)) (b9 ha dN c) c) (fo (i:=i) (by rw[C.n];exact C.nd) (by rw[C.n];exact cM hi) (f9 C hx) (.inl (J x))) hb).imp λD σ H F=>?_
 obtain⟨ι,st,loc,S,L,P⟩:=F;rw[exec] at P;obtain⟨d,st1,e1,P⟩:=aT P;obtain⟨s,Z,e2,P⟩:=aT P;obtain⟨B,rfl⟩:=bO e2;refine bi S L e1 λH1 ι1 v Y S1 r1=>?_;cases r1 with
 |int j=>
  simp only[da] at B;split at B
  ·rename_i hj;cases B;exact⟨j,rfl,by omega,by omega,jc c_.rng Y S1 (L.ext Y) P⟩
  ·cases B
 |_=>cases B
theorem Aj(I:PassesOwn (model X.prog X.w) X.A X.env X.xe)(C:Ctx T g X sc N)(U:T.calm=true){b c:Expr}{body:List Stmt}(hx:isLocal sc x=true)(J:∀y,X.fn y=true)(hi:gc N x=some i)(hg:bA sc "range"=true)(F:starEach [a,b,c] X.env=(false,eval a X.env)::starEach [b,c] X.env)(h1:oN b=true)(h2:oN c=true)
  (ha:PE X a (tE X.K (run g a')))(hb:PSs X body (tS X.K Xw (execs g b'))):PS X (.For (.Name x p2) (.Call (.Name "range" p3) [a,b,c] [] p4) body [] pos) (tS X.K Xw (exec g (.forD i a' b'))):=by
 obtain⟨_,_,_,rfl⟩:=oM h1;obtain⟨_,_,_,rfl⟩:=oM h2;refine(iX I (C.calm U) (xY (gR C hg) (C.blt _ (by decide+kernel)) (b9 ha (b9 (ze uz kj) (b9 (ze uz kj) dN rfl) rfl) F) F λ_=>rfl) (fo (i:=i) (by rw[C.n];exact C.nd) (by rw[C.n];exact cM hi) (f9 C hx) (.inl (J x))) hb).imp λD σ H I=>?_
 obtain⟨ι,st,loc,S,L,P⟩:=I;rw[exec] at P;obtain⟨d,st1,e1,P⟩:=aT P;obtain⟨s,st3,e3,P⟩:=aT P;obtain⟨B,rfl⟩:=bO e3;refine bi S L e1 λH1 ι1 v Z S1 r1=>?_;unfold mQ at B;split at B
 ·split at B
  ·rename_i Y;cases B;cases r1;exact⟨1,rfl,1,rfl,_,rfl,Y.1,Y.2,jc c_.down Z S1 (L.ext Z) P⟩
  ·cases B
 ·cases B
theorem Ag(F:PassesOwn (model X.prog X.w) X.A X.env X.xe)(C:Ctx T g X sc N)(J:T.calm=true){body:List Stmt}(hx:isLocal sc x=true)(I:∀y,X.fn y=true)(hi:gc N x=some i)(hg:bA sc "reversed"=true)(B:starEach [a] X.env=[(false,eval a X.env)])
  (ha:PE X a (tE X.K (run g a')))(hb:PSs X body (tS X.K Xw (execs g b'))):PS X (.For (.Name x p2) (.Call (.Name "reversed" p3) [a] [] p4) body [] pos) (tS X.K Xw (exec g (.forV i a' b'))):=by
 refine(iX F (C.calm J) (AG (gR C hg) (C.blt _ (by decide+kernel)) (b9 ha dN B) B) (fo (i:=i) (by rw[C.n];exact C.nd) (by rw[C.n];exact cM hi) (f9 C hx) (.inl (I x))) hb).imp λD σ H F=>?_
 obtain⟨ι,st,loc,S,L,P⟩:=F;rw[exec] at P;obtain⟨d,st1,e1,P⟩:=aT P;obtain⟨s,Z,e3,P⟩:=aT P;obtain⟨c,rfl⟩:=bO e3;refine bi S L e1 λH1 ι1 v Y U r1=>?_;unfold Ar at c;split at c
 ·split at c
  ·rename_i xs q;cases c;cases r1 with
   |ref hn=>
    obtain⟨vs,g1,g2⟩:=U.ob _ _ q;exact⟨_,vs,rfl,dD.of g1,jc (by rw[<-g2.length];exact c_.rev hn) Y U (L.ext Y) P⟩
  ·cases c
 ·cases c
theorem Am:PS X (.Continue pos) (tS X.K Xw (exec g .cont)):=n9.imp λD σ H c=>by obtain⟨ι,st,loc,S,L,P⟩:=c;rw[exec] at P;exact P H ι σ (Ext.refl _ _ _) S L
end
theorem Sim.put{K:aA}(S:Sim K H ι st){o o':O}{ho:HO}(e:st[n]? =some o)(new:pJ K (upd H (ι n) ho) ι st.length (ι n) o'):
  Ext H (upd H (ι n) ho) ι ι st.length st.length/\Sim K (upd H (ι n) ho) ι (st.set n o'):=by
 obtain⟨u,h1,I,J⟩:=(S.ob n o e).there;have B:n<st.length:=(aw e).1
 have E:Ext H (upd H (ι n) ho) ι ι st.length st.length:=by
  refine⟨⟨ac _,λ_ _=>rfl,λb zs q=>?_,λb c w q=>?_⟩,λb c q k=>⟨by rw[aL (k n B).symm];exact q,k⟩⟩
  ·rw[aL (fc q h1 (λz=>I _ z.symm))];exact q
  ·rw[aL (fc q h1 (λz=>J _ _ z.symm))];exact q
 refine⟨E,λi j hi U=>S.inj i j (by simpa using hi) (by simpa using U),λk c q=>?_⟩
 rw[aF];by_cases hk:k=n
 ·subst hk;rw[aO B] at q;cases q;exact new
 ·rw[aM (Ne.symm hk)] at q;have F:k<st.length:=(aw q).1;exact(S.ob k c q).move E.toExt0 (aL λz=>hk (S.inj k n F B z))
section
variable{T:Tab}{g:fR}{X:Cx}{sc:Scope}{N:List Str}{pos p2:Pos}{Xw:Addr->L2.St->Hp->Prop}
theorem Bj{fs:List (Str×D)}{d:D}{v:V}(C:Ctx T g X sc N)(S:Sim X.K H ι st)(q:st[n]? =some (.ins c fs))(hc:c∈T.ics f)(hl:fs.length<900)(r:VRel X.K H ι st.length d v):
  ∃B dx vs,H (ι n)=some (.ins B dx vs)/\Cls X.K B/\fJ X.K B f/\vs.length<1000/\Ext H (upd H (ι n) (.ins B dx (eh f v vs))) ι ι st.length (st.set n (O.ins c (putD f d fs))).length/\Sim X.K (upd H (ι n) (.ins B dx (eh f v vs))) ι (st.set n (.ins c (putD f d fs))):=by
 obtain⟨U,hi,rfl,Z⟩:=rR hc;obtain⟨B,J,cl,na,_⟩:=C.icl U hi;obtain⟨C1,dx,vs,I,h1,F,h3⟩:=S.ob n _ q;rw[J] at I;cases I;have lw:=F.length
 have X0:Ext0 H (upd H (ι n) (.ins B dx (eh f v vs))) ι ι st.length st.length:=by
  refine⟨ac _,λ_ _=>rfl,λb zs z=>?_,λb ob w z=>?_⟩
  ·rw[aL (fc z h1 (by intro y;cases y))];exact z
  ·rw[aL (fc z h1 (by intro y;cases y))];exact z
 have Y:(putD f d fs).length<=900:=by have:=f_ f v vs;have:=(F.put (f:=f) r).length;omega
 obtain⟨E4,S4⟩:=S.put (ho:= .ins B dx (eh f v vs)) (o':= .ins U.x (putD f d fs)) q ⟨B,dx,eh f v vs,J,bF,(F.put r).ext0 X0,Y⟩;exact⟨B,dx,vs,h1,cl,na f Z,by omega,by rw[aF];exact E4,S4⟩
theorem Ae(C:Ctx T g X sc N)(hn:yq e=true)(ho:PE X o (tE X.K (run g o')))(he:PE X e (tE X.K (run g e'))):PS X (.Assign [.Attribute o f p2] e pos) (tS X.K Xw (exec g (.setf o' f e' [] (T.ics f)))):=by
 refine(AD ho he (by cases e<;>first|rfl|cases hn)).imp λD σ H hp=>?_
 obtain⟨ι,st,loc,S,L,P⟩:=hp;rw[exec] at P;obtain⟨d,st1,e1,P⟩:=aT P;obtain⟨x,st2,e2,P⟩:=aT P;obtain⟨u,Z,B,P⟩:=aT P;unfold nV at B;cases x with
 |ref n=>
  dsimp only at B;split at B
  ·rename_i c fs q;split at B
   ·rename_i I;cases B;refine bi S L e1 λH1 ι1 v Y S1 r1=>bi S1 (L.ext Y) e2 λH2 ι2 vx U S2 r2=>?_;have F:=Y.trans U;cases r2 with
    |ref hnn=>obtain⟨C0,dx,vs,h1,cl,na,lz,J,S4⟩:=Bj C S2 q I.2 I.1 (r1.ext U);exact⟨_,C0,dx,vs,rfl,h1,cl,na,lz,P _ ι2 σ (F.trans J) S4 (L.ext (F.trans J))⟩
   ·cases B
  ·cases B
 |_=>cases B
end
noncomputable abbrev pI(X:Cx):Prop:=X.stack=X.env::X.outer/\X.env.frame=some X.env.locals
def SS(T:Tab)(g:fR)(n:Nat):Prop:=∀{X:Cx}{sc:Scope}{N:List Str}{s:Stmt}{s':S}{Xw:Addr->L2.St->Hp->Prop},Ctx T g X sc N->(∀y,X.fn y=true)->PassesOwn (model X.prog X.w) X.A X.env X.xe->pI X->cS T n sc N s=some s'->PS X s (tS X.K Xw (exec g s'))
def D0(T:Tab)(g:fR)(n:Nat):Prop:=∀{X:Cx}{sc:Scope}{N:List Str}{s:List Stmt}{s':List S}{Xw:Addr->L2.St->Hp->Prop},Ctx T g X sc N->(∀y,X.fn y=true)->PassesOwn (model X.prog X.w) X.A X.env X.xe->pI X->zG T n sc N s=some s'->PSs X s (tS X.K Xw (execs g s'))
theorem uM{T:Tab}(h1:SS T g n)(I:D0 T g n):D0 T g (n+1):=by
 intro X sc N s s' Xw C F c B h;cases s with
 |nil=>cases h;refine xV.imp λD σ H c=>?_;obtain⟨ι,st,loc,S,L,P⟩:=c;rw[execs] at P;exact P H ι σ (Ext.refl _ _ _) S L
 |cons a r=>
  obtain⟨r',J,rfl⟩:=map_some h
  have U:PS X a (tS X.K Xw (exec g ((cS T n sc N a).getD .stop))):=by
   cases q:cS T n sc N a with
   |none=>exact u6
   |some a'=>exact h1 C F c B q
  refine(vB U (I (Xw:=Xw) C F c B J)).imp λD σ H c=>?_;obtain⟨ι,st,loc,S,L,P⟩:=c;rw[execs] at P;obtain⟨f,st1,Y,P⟩:=aT P;refine⟨ι,st,loc,S,L,?_⟩;rw[Y];cases f with
  |nx loc1=>exact λH1 ι1 σ1 E1 Z L1=>⟨ι1,st1,loc1,Z,L1,P.mono E1⟩
  |rt d=>exact P
  |ex n l=>exact P
  |ct l=>exact P
theorem uI{T:Tab}(hk:wc e=false)(c:cE T n sc N e=some e')(o:Option Expr)(l:Nat)(env:Env)(ho:o=none∨∃x p,o=some (.Name x p)):swapsWith e o l env=pure false:=by
 cases n with
 |zero=>cases c
 |succ n=>
  rcases ho with rfl|⟨x,p,rfl⟩
  ·cases e<;>first|rfl|(cases c;done)|cases hk
  ·cases e<;>first|rfl|(cases c;done)|cases hk
theorem xL{T:Tab}(h2:D0 T g n):SS T g (n+1):=by
 intro X sc N s s' Xw C I J F h;have snd:=sound T g n;have B:=λ{e:Expr}{e':Ex}(q:cE T n sc N e=some e')=>snd.1 C q;cases s with
 |Assign ts e _=>
  obtain⟨t,ht,h⟩:=bs h;cases dA ht;clear ht;cases t with
  |Name x px=>
   obtain⟨hl,h⟩:=f6 h;obtain⟨i,hi,h⟩:=bs h;obtain⟨e',hee,rfl⟩:=map_some h;have k1:X.N[i]? =some x:=by rw[C.n];exact cM hi
   by_cases hk:wc e=true
   ·cases e with
    |ListComp elt gens scope pos=>
     cases n with
     |zero=>cases hee
     |succ m=>
      exact sy (sound T g m).1 (sound T g m).2.2.1 C hee (λy py it ifs e Y hc hd=>by cases e;exact(gy.ps C Y hc hd k1 (f9 C hl) (.inl (I _))).imp λD σ H q=>qc q) λy1 y2 p1 p2 k pt it ifs e Y hc hd=>by cases e;exact(gx.ps C Y hc hd k1 (f9 C hl) (.inl (I _))).imp λD σ H q=>qc q
    |_=>cases hk
   ·exact(qe (by rw[C.n];exact C.nd) k1 (f9 C hl) (B hee).1 (uI (by simpa using hk) hee _ _ _ (.inr ⟨_,_,rfl⟩)) (.inl (I _))).imp λD σ H q=>qc q
  |Subscript o i _=>
   obtain⟨hp',h⟩:=f6 h;obtain⟨o',Z,h⟩:=bs h;obtain⟨i',U,h⟩:=bs h;obtain⟨e',a3,rfl⟩:=map_some h;exact xK (by have:=C.un;omega) hp'.1 hp'.2 (B Z).1 (B U).1 (B a3).1
  |Attribute o f _=>obtain⟨hnc,h⟩:=f6 h;obtain⟨o',Z,h⟩:=bs h;obtain⟨e',U,rfl⟩:=map_some h;exact Ae C hnc (B Z).1 (B U).1
  |_=>cases h
 |Return o _=>
  cases o with
  |none=>cases h
  |some e=>
   cases h;cases q:cE T n sc N e with
   |none=>exact u6
   |some e'=>exact CA (B q).1
 |Expr e _=>
  rcases om h with⟨z,hq,h⟩|⟨_,h⟩
  ·obtain⟨o',Z,h⟩:=bs h;obtain⟨e',U,rfl⟩:=map_some h;obtain⟨m,ap,cp,rfl,hm⟩:=pG hq;simp only[Bool.and_eq_true] at hm;exact CG hm.1.1 hm.1.2 (bT U [] _) (dg hm.2 _ _) (B Z).1 (B U).1
  rcases om h with⟨z,hq,h⟩|⟨_,h⟩
  ·obtain⟨o',Z,h⟩:=bs h;obtain⟨e',U,rfl⟩:=map_some h;obtain⟨m,ap,cp,rfl,hm⟩:=pG hq;simp only[Bool.and_eq_true] at hm;exact CD hm.1.1 hm.1.2 (bT U [] _) (dg hm.2 _ _) (B Z).1 (B U).1
  rcases om h with⟨o,hq,h⟩|⟨_,h⟩
  ·obtain⟨o',Z,rfl⟩:=map_some h;obtain⟨ap,cp,rfl,h4,h5⟩:=oC hq;exact CF h4 (dg h5 _ _) (B Z).1
  ·obtain⟨z,hq,h⟩:=bs h;obtain⟨o',Z,h⟩:=bs h;obtain⟨k',U,h⟩:=bs h;obtain⟨e',a3,rfl⟩:=map_some h;obtain⟨ap,cp,rfl,h4,h5⟩:=xI hq;exact Cz C h4 (dg h5 _ _) (bT U _ _) (bT a3 [] _) (B Z).1 (B U).1 (B a3).1
 |Continue _=>cases h;exact Am
 |If c a b _=>obtain⟨c',Z,h⟩:=bs h;obtain⟨a',U,h⟩:=bs h;obtain⟨b',a3,rfl⟩:=map_some h;exact Es (B Z).2 (h2 (Xw:=Xw) C I J F U) (h2 (Xw:=Xw) C I J F a3)
 |For t it body els _=>
  cases els with
  |cons=>cases h
  |nil=>
   cases t with
   |Name x _=>
    obtain⟨hl,h⟩:=f6 h;obtain⟨i,hi,h⟩:=bs h;obtain⟨b',hb,h⟩:=bs h;rcases om h with⟨a,ha,h⟩|⟨_,h⟩
    ·obtain⟨a',q,rfl⟩:=map_some h;obtain⟨hg,_,_,rfl⟩:=vj ha;exact Ah J C hl.2 hl.1 I hi hg (bT q [] _) (B q).1 (h2 (Xw:=Xw) C I J F hb)
    rcases om h with⟨z,hz,h⟩|⟨_,h⟩
    ·obtain⟨a',q1,rfl⟩:=map_some h;obtain⟨hg,_,_,_,_,rfl,m1,m2⟩:=vm hz;exact Aj J C hl.2 hl.1 I hi hg (bT q1 _ _) m1 m2 (B q1).1 (h2 (Xw:=Xw) C I J F hb)
    rcases om h with⟨z,hz,h⟩|⟨_,h⟩
    ·obtain⟨a',q1,rfl⟩:=map_some h;obtain⟨hg,_,_,rfl⟩:=iw hz;exact Ag J C hl.2 hl.1 I hi hg (bT q1 [] _) (B q1).1 (h2 (Xw:=Xw) C I J F hb)
    ·obtain⟨a',q,rfl⟩:=map_some h;exact CC J C hl.2 hl.1 I hi (B q).1 (jX q _) (h2 (Xw:=Xw) C I J F hb)
   |Tuple ts _ _=>
    obtain⟨Y,h⟩:=f6 h;obtain⟨is,ht,h⟩:=bs h;obtain⟨b',hb,h⟩:=bs h;rcases om h with⟨z,hzi,h⟩|⟨_,h⟩
    ·obtain⟨a',q1,h⟩:=bs h;obtain⟨c',q2,rfl⟩:=map_some h;obtain⟨hg,_,_,rfl⟩:=t6 hzi;exact Af J C Y I ht hg (bT q1 _ _) (bT q2 [] _) (B q1).1 (B q2).1 (h2 (Xw:=Xw) C I J F hb)
    obtain⟨z,hz,h⟩:=bs h;obtain⟨a',q1,rfl⟩:=map_some h;obtain⟨hg,_,_,rfl⟩:=iw hz;exact Ai J C Y I ht hg (bT q1 [] _) (B q1).1 (h2 (Xw:=Xw) C I J F hb)
   |_=>cases h
 |While c body els _=>
  cases els with
  |cons=>cases h
  |nil=>obtain⟨c',hc,h⟩:=bs h;obtain⟨b',hb,rfl⟩:=map_some h;exact Ad J (B hc).2 (h2 (Xw:=Xw) C I J F hb)
 |_=>cases h
theorem mL(T:Tab)(g:fR):∀n,SS T g n/\D0 T g n
 |0=>⟨λC F B c h=>(by cases h),λC F B c h=>(by cases h)⟩
 |n+1=>⟨xL (mL T g n).2,uM (mL T g n).1 (mL T g n).2⟩
structure Rec where
 name:Str
 fname:Str
 qual:Str
 ps:List Str
 N:List Str
 st:Stmt
 fn:Fn
structure Chk(T:Tab)(r:Rec):Prop where
 sc:FnScope r.N r.ps (bR r.st)
 nm:∀x∈r.N,(x==("__debug__":Str))=false/\(x==("__classdict__":Str))=false
 cc:zG T 100 (bR r.st) r.N (dB r.st)=some r.fn.body
 ar:r.fn.ar=r.ps.length
 nl:r.fn.nl=r.N.length
structure Lnk(K:aA)(r:Rec)(a:Addr)(fd:FuncData):Prop where
 f:Fun K r.fname r.qual r.st a fd
 b:Binds K fd r.ps []
theorem Fw{K:aA}{mg:Str->Option Value}{base:Heap}{qual:Str}{st:Stmt}{f:Addr}{fd:FuncData}{ps:List Str}{k:Nat}{sp:Sp}(F:Fun K x qual st f fd)(S:FnScope N ps (bR st))(len:∀vs H Q E,sp vs H Q E->vs.length=ps.length)
  (B:∀(c:Value)(A:Around)(outer:List Env)(s:Shared)(H:Hp)(vs:List V)(Q:VK)(E:XK),Room k (A.deeper (envOfC qual (bR st) s.heap.objs.size f c))->sp vs H Q E->
   ∃t,PSs (qB (pK P w) P w K mg base N qual (bR st) f c A outer s H E) (dB st) t/\t {nx:=λ_ H'=>Q .non H',rt:=Q} (start N vs) H):FnOk P w K mg base (pK P w) (k+1) f fd ps sp:=by
 obtain⟨oc,od,kV,Y,Z,an,c,ct,U,rfl,lk,J⟩:=F.ex;exact Di lk J S len λA outer s H vs Q E hr I=>B c A outer s H vs Q E hr I
theorem ji{bw:List Rec}{T:Tab}{r:Rec}(hr:bw[i]? =some r)(c:Chk T r):∀(n:Nat)(ds:List D)(st:a9),ds.length≠r.ps.length->calls (bw.map (·.fn)) n i ds st=.bad
 |0,_,_,_=>rfl
 |n+1,ds,st,h=>by
  have e:(bw.map (·.fn))[i]? =some r.fn:=by rw[aj,hr];rfl
  simp only[calls,e,sw];rw[if_neg (by rw[c.ar];exact h)]
  rfl
theorem sH{K:aA}{m:Nat}{ds:List D}{vs:List V}(r:VRels K H ι m ds vs)(N:List Str)(k:Nat)(hk:k=N.length):LRel K H ι m (ds.map some++List.replicate (k - ds.length) none) (L2.start N vs):=by
 have l:=r.length;refine⟨by simp[L2.start,l,hk],λi d e=>?_⟩
 by_cases hi:i<ds.length
 ·rw[aC (by simpa using hi),aj] at e
  cases q:ds[i]? with
  |none=>rw[q] at e;cases e
  |some d'=>
   rw[q] at e;have e':d'=d:=by simpa using e
   subst e';obtain⟨v,c,rv⟩:=r.get q;refine⟨v,?_,rv⟩;unfold L2.start;rw[aC (by simpa[<-l] using hi),aj,c]
   rfl
 ·rw[aE (by simpa using hi),List.getElem?_replicate] at e
  split at e<;>cases e
structure Facts(P:Program)(w:World)(K:aA)(mg:Str->Option Value)(T:Tab)(bw:List Rec):Prop where
 chk:∀r∈bw,Chk T r
 calm:T.calm=true
 fns:∀(i:Nat)(f:Str),T.fns[i]? =some f->(f==("__debug__":Str))=false/\∃r a fd,bw[i]? =some r/\Lnk K r a fd/\mg f=some (.ref a)
 csts:∀x d,T.csts.lookup x=some d->(x==("__debug__":Str))=false/\∃u v,mg x=some u/\RelV v u/\∀H ι m,VRel K H ι m d v
 blt:∀x∈tV,mg x=none
 icl:∀c∈T.icl,∃C,PySem.W.nsIn K mainGlobals c.x=some (some (.ref C))/\Cls K C/\(∀f∈c.flds,fJ K C f)/\(∀(m:Str)(j:Nat),(m,j)∈c.mts->∃r a fd,bw[j]? =some r/\Lnk K r a fd/\Meth K C m a)
 mks:∀(x:Str)(j:Nat),(x,j)∈T.mks->(x==("__debug__":Str))=false/\∃C r a fd,bw[j]? =some r/\Lnk K r a fd/\PySem.W.nsIn K mainGlobals x=some (some (.ref C))/\mg x=some (.ref C)/\Mk K C a
theorem jZ{P:Program}{w:World}{K:aA}{mg:Str->Option Value}{base:Heap}{T:Tab}{bw:List Rec}(Z:Facts P w K mg T bw):
  ∀(n i:Nat)(r:Rec)(a:Addr)(fd:FuncData),bw[i]? =some r->Lnk K r a fd->FnOk P w K mg base (pK P w) (2*n) a fd r.ps (Cv K r.ps.length (calls (bw.map (·.fn)) n i))
 |0,i,r,a,fd,hr,L=>⟨λvs H Q E h=>h.1,λA outer s H args us vs Q E _ _ _ _ h=>by obtain⟨_,ι,st,ds,_,_,q⟩:=h;exact False.elim q⟩
 |n+1,i,r,a,fd,hr,L=>by
  have c:=Z.chk r (ak hr);refine Fw (k:=2*n+1) L.f c.sc (λvs H Q E h=>h.1) (λcdv A outer s H vs Q E F h=>?_);obtain⟨Y,ι,st,ds,S,rv,q⟩:=h;have un:=F.un
  have C:Ctx T (calls (bw.map (·.fn)) n) (qB (pK P w) P w K mg base r.N r.qual (bR r.st) a cdv A outer s H E) (bR r.st) r.N:=by
   refine⟨rfl,rfl,c.sc.nd,c.nm,λ_=>rfl,?_,λj f hj=>?_,Z.csts,Z.blt,λc hc=>?_,λx j hj=>?_⟩
   ·show(A.deeper _).units+100<cLine;omega
   ·obtain⟨hd,J,U,fd2,B,I,hm⟩:=Z.fns j f hj;exact⟨hd,U,fd2,J.ps,2*n,hm,I.f.kp,I.b,F.mono (Nat.le_succ _),ji B (Z.chk J (ak B)) n,jZ Z n j J U fd2 B I⟩
   ·obtain⟨C0,q1,q2,q3,q4⟩:=Z.icl c hc;refine⟨C0,q1,q2,q3,λm j hj=>?_⟩;obtain⟨J,U,fd2,B,I,M⟩:=q4 m j hj;exact⟨U,fd2,J.ps,2*n,M,I.b,F.mono (Nat.le_succ _),ji B (Z.chk J (ak B)) n,jZ Z n j J U fd2 B I⟩
   ·obtain⟨hd,C0,J,U,fd2,B,I,q1,q2,q3⟩:=Z.mks x j hj;exact⟨hd,C0,U,fd2,J.ps,2*n,q1,q2,q3,I.b,F,ji B (Z.chk J (ak B)) n,jZ Z n j J U fd2 B I⟩
  refine⟨_,(mL _ _ 100).2 (Xw:=λa _ H'=>E (.ref a) none H') C (λ_=>rfl) PassesOwn.leaving ⟨rfl,rfl⟩ c.cc,ι,st,ds.map some++List.replicate (r.fn.nl - ds.length) none,S,sH rv _ _ c.nl,?_⟩;have e:(bw.map (·.fn))[i]? =some r.fn:=by rw[aj,hr];rfl
  have hd:ds.length=r.fn.ar:=by rw[rv.length,Y,c.ar]
  simp only[calls,e,sw] at q;rw[if_pos hd] at q;unfold a_ at q;cases e1:execs (calls (bw.map (·.fn)) n) r.fn.body (ds.map some++List.replicate (r.fn.nl - ds.length) none) st with
  |bad=>rw[e1] at q;exact q.elim
  |ok f st1=>
   rw[e1] at q;cases f with
   |nx loc=>exact λH1 ι1 σ1 E1 S1 L1=>q H1 ι1 .non E1 S1 .non
   |rt d=>exact q
   |ex m l=>exact λH1 ι1 σ1 E1 S1 L1=>q H1 ι1 E1 S1
   |ct l=>exact q.elim
def re(K:aA):Sp:=λvs H Q _=>∃(a:Addr)(ns:List Int),vs=[.ref a]/\dD K H a (ns.map V.int)/\yW H/\ns.length<=63/\∀H',Q (.bl true) H'
theorem oP{K:aA}{H:Hp}{ι:Nat->Addr}{m:Nat}:∀ns:List Int,VRels K H ι m (ns.map .int) (ns.map V.int)
 |[]=>.nil
 |n::ns=>.cons (.int n) (oP ns)
theorem Bb{K:aA}{mg:Str->Option Value}{base:Heap}{a:Addr}{fd:FuncData}{f:List D->M Rs}(F:FnOk P w K mg base (pK P w) n a fd [x] (Cv K 1 f))
  (h:∀ns:List Int,ns.length<=63->∃st',f [.fl (ns.map .int)] []=.ok (.v (.bl true)) st'):FnOk P w K mg base (pK P w) n a fd [x] (re K):=by
 refine F.imp λvs H Q E c=>?_;obtain⟨a,ns,e,I,J,B,q⟩:=c;subst e;obtain⟨st',e⟩:=h ns B;refine⟨rfl,λ_=>0,[],[.fl (ns.map .int)],⟨λi _ hi=>absurd hi (Nat.not_lt_zero _),λi o e=>by simp at e⟩,.cons (.fl (xs:=ns.map V.int) ?_ (oP ns)) .nil,?_⟩
 ·rcases I with(h|h)|h
  ·rcases J a with z|⟨o,xs,z⟩
   ·rw[h] at z;cases z
   ·rw[h] at z;cases z
  ·exact .inl h
  ·exact .inr h
 ·rw[e];intro H' ι' v Y U r;cases r;exact q H'
theorem walk{l:PySem.W.OpenLaw}{q:Program}{loose:List Str}{XP:(Str->Option Value)->Heap->Prop}{YP:World->Heap->Prop}{d:DefRec}{K:Params->aA}(B:l.most=some 63)(c:d.params.defaults=[])(hr:Room n callerA)
  (hY:∀(w:World)(h:Heap),YP w h->(K w.params).In h)
  (F:∀(w:World)(mg:Str->Option Value)(fa:Addr)(h:Heap),(K w.params).In h->h.Ns mainGlobals mg->mg d.name=some (.ref fa)->
   ∃fd:FuncData,(∀(s:Shared)(u:Value),BindsTo s fd ⟨[u],[]⟩ [(x,u)])/\∀base:Heap,(K w.params).In base->base.Ns mainGlobals mg->FnOk l.prog w (K w.params) mg base (pK l.prog w) n fa fd [x] (re (K w.params))):
  PySem.W.WalkO q loose XP YP l.row.toRowW d [] (λf vs=>PySem.call f vs):=
 L2.xl (n:=63) (k:=n) (x:=x) (CX:=λw=>pK l.prog w) (sp:=λw=>re (K w.params)) B (by decide) c hr hY F (λ_ _ a ns I U J=>⟨a,ns,rfl,J,U,I,λ_=>rfl⟩) λ_ _ _ _ _ z=>z.elim
set_option maxHeartbeats 4000000
noncomputable def Bi(o:Option (Option Value))(s:String):Bool:=match o with
 |some (some (.builtin t))=>t==s
 |_=>false
theorem yt{o:Option (Option Value)}{s:String}(h:Bi o s=true):o=some (some (.builtin s)):=by
 unfold Bi at h;split at h
 ·rename_i t;have:t=s:=by simpa using h
  rw[this]
 ·cases h
noncomputable def yp(o:Option (Option Value)):Bool:=match o with
 |some none=>true
 |_=>false
theorem rY{o:Option (Option Value)}(h:yp o=true):o=some none:=by
 unfold yp at h;split at h
 ·rfl
 ·cases h
noncomputable def mr(K:aA)(x:Str)(f:Addr->Bool):Bool:=match PySem.W.nsIn K mainGlobals x with
 |some (some (.ref C))=>f C
 |_=>false
theorem iI{K:aA}{f:Addr->Bool}(h:mr K x f=true):∃C,PySem.W.nsIn K mainGlobals x=some (some (.ref C))/\f C=true:=by
 unfold mr at h;split at h
 ·exact⟨_,by assumption,h⟩
 ·cases h
noncomputable def wb(K:aA)(o:Option (Option Value)):Bool:=match o with
 |some (some v)=>PySem.W.isFn K v
 |_=>false
section
variable{K:aA}{mg:Str->Option Value}{T:Tab}{bw:List Rec}{h:Heap}
def yx(K:aA)(T:Tab):Bool:=
 (T.icl.all λc=>mr K c.x λC=>PySem.W.plainGet K C Str.empty&&(PySem.W.hasDictIn K C&&(PySem.W.plainOver K C&&(Bi (PySem.W.findIn K (.ref C) "__setattr__") "object.__setattr__" &&(c.flds.all (λf=>yp (PySem.W.findIn K (.ref C) f))&&
  c.mts.all (λp=>wb K (PySem.W.findIn K (.ref C) p.1)))))))&&
 ((T.mks.all λp=>mr K p.1 λC=>PySem.W.makesIn K C&&(PySem.W.keepIn K (.ref C)&&wb K (PySem.W.findIn K (.ref C) "__init__"))))
def DP(K:aA)(bw:List Rec)(x m:Str)(j:Nat):Prop:=∃C r a fd,bw[j]? =some r/\Lnk K r a fd/\PySem.W.nsIn K mainGlobals x=some (some (.ref C))/\PySem.W.findIn K (.ref C) m=some (some (.ref a))
def EZ(K:aA)(mg:Str->Option Value)(bw:List Rec)(x:Str)(j:Nat):Prop:=(x==("__debug__":Str))=false/\∃C r a fd,bw[j]? =some r/\Lnk K r a fd/\PySem.W.nsIn K mainGlobals x=some (some (.ref C))/\mg x=some (.ref C)/\PySem.W.findIn K (.ref C) "__init__"=some (some (.ref a))
theorem oO{v:Value}{o:Option (Option Value)}(h:wb K o=true)(e:o=some (some v)):PySem.W.isFn K v=true:=by rw[e] at h;exact h
theorem wD(X:K.In h)(G:h.Ns mainGlobals mg)(hc:∀r∈bw,Chk T r)(hq:T.calm=true)(I:T.fns.length<=bw.length)
  (B:∀p∈List.zip T.fns bw,(p.1==("__debug__":Str))=false/\∃a fd,Lnk K p.2 a fd/\mg p.1=some (.ref a))
  (U:∀x d,T.csts.lookup x=some d->(x==("__debug__":Str))=false/\∃u v,mg x=some u/\RelV v u/\∀H ι m,VRel K H ι m d v)
  (hb:∀x∈tV,mg x=none)
  (Y:yx K T=true)(hm:∀c∈T.icl,∀p∈c.mts,DP K bw c.x p.1 p.2)(hk:∀p∈T.mks,EZ K mg bw p.1 p.2):Facts P w K mg T bw:=by
 unfold yx at Y;simp only[Bool.and_eq_true] at Y;obtain⟨i2,i3⟩:=Y;refine⟨hc,hq,?_,U,hb,?_,?_⟩
 ·intro i f e;have hl:i<bw.length:=az (aw e).1 I;have er:bw[i]? =some bw[i]:=ag hl;have:(f,bw[i])∈List.zip T.fns bw:=ak (i:=i) (by rw[List.getElem?_zip_eq_some];exact⟨e,er⟩)
  obtain⟨d,a,fd,L,m⟩:=B _ this;exact⟨d,_,a,fd,er,L,m⟩
 ·intro c J;obtain⟨C,e,q⟩:=iI (List.all_eq_true.mp i2 c J);simp only[Bool.and_eq_true] at q;obtain⟨q1,q2,q3,q4,q5,q6⟩:=q;refine⟨C,e,⟨q1,q2,q3,yt q4⟩,λf B=>rY (List.all_eq_true.mp q5 f B),λm j F=>?_⟩
  ·obtain⟨C',r,a,fd,hr,L,e',B⟩:=hm c J (m,j) F;rw[e] at e';cases e';exact⟨r,a,fd,hr,L,⟨B,oO (List.all_eq_true.mp q6 (m,j) F) B,L.f.kp⟩⟩
 ·intro x j Z;obtain⟨hd,C,r,a,fd,hr,L,e,m,B⟩:=hk (x,j) Z;obtain⟨C',e',q⟩:=iI (List.all_eq_true.mp i3 (x,j) Z);rw[e] at e';cases e';simp only[Bool.and_eq_true] at q;exact⟨hd,C,r,a,fd,hr,L,e,m,⟨q.1,B,oO q.2.2 B,q.2.1⟩⟩
end
def BW(r:Rec):Option Obj->Option Obj
 |some ⟨oc,od,.func f,sl⟩=>some ⟨oc,od,.func (PySem.W.fnOf r.fname r.qual (eP r.st) (dB r.st) (bR r.st) .none f.kwdefaults f.doc f.pyModule f.annotations f.code f.closureTuple),sl⟩
 |_=>none
noncomputable def EL(K:aA)(r:Rec)(a:Addr):Bool:=match K.lookup a with
 |some ⟨_,_,.func f,_⟩=>PySem.W.codeIn K f.code r.qual&&PySem.W.keepIn K (.ref a)
 |_=>false
def BY(r:Rec):Prop:=∀(kV doc pm:Value)(an:Option Addr)(cdv ct:Value)(us:List Value),us.length=r.ps.length->bindArgs (PySem.W.fnOf r.fname r.qual (eP r.st) (dB r.st) (bR r.st) .none kV doc pm an cdv ct) ⟨us,[]⟩=pure (r.ps.zip us)
theorem Ba{K:aA}{r:Rec}{a:Addr}(c:BY r)(h:EL K r a=true)(e:K.lookup a=BW r (K.lookup a)):∃fd,Lnk K r a fd:=by
 unfold EL at h;cases q:K.lookup a with
 |none=>rw[q] at h;cases h
 |some o=>
  obtain⟨J,I,B,sl⟩:=o;cases B with
  |func f=>rw[q] at h e;rw[Bool.and_eq_true] at h;have F:=Bl (x:=r.fname) (qual:=r.qual) (st:=r.st) (q.trans e) h.1 h.2;exact⟨_,F,F.binds c⟩
  |_=>rw[q] at h;cases h
noncomputable def C_(o:Option (Option Value))(a:Option Addr):Bool:=match o,a with
 |some (some (.ref x)),some y=>x==y
 |_,_=>false
theorem qr{o:Option (Option Value)}{a:Option Addr}(h:C_ o a=true):∃x,a=some x/\o=some (some (.ref x)):=by
 unfold C_ at h;split at h
 ·rename_i x y;have:x=y:=by simpa using h
  subst this;exact⟨_,rfl,rfl⟩
 ·cases h
noncomputable def DX(x:Str):Bool:=(x==("__debug__":Str))==false
def lT(K:aA)(T:Tab)(bw:List Rec)(ad:List Addr):Bool:=
 bw.length==ad.length&&((bw.zip ad).all (λp=>EL K p.1 p.2)&&((T.fns.zip (bw.zip ad)).all (λp=>DX p.1&&C_ (PySem.W.nsIn K mainGlobals p.1) (some p.2.2))&&
 (tV.all (λx=>yp (PySem.W.nsIn K mainGlobals x))&&(T.icl.all (λc=>mr K c.x λC=>c.mts.all λp=>C_ (PySem.W.findIn K (.ref C) p.1) ad[p.2]?)&&T.mks.all (λp=>DX p.1&&mr K p.1 λC=>C_ (PySem.W.findIn K (.ref C) "__init__") ad[p.2]?)))))
section
variable{K:aA}{mg:Str->Option Value}{T:Tab}{bw:List Rec}{h:Heap}{ad:List Addr}
theorem zn(U:∀r∈bw,BY r)(c:lT K T bw ad=true)(e:(bw.zip ad).map (λp=>K.lookup p.2)=(bw.zip ad).map λp=>BW p.1 (K.lookup p.2)){a:Addr}(F:ad[j]? =some a):∃r fd,bw[j]? =some r/\Lnk K r a fd:=by
 unfold lT at c;simp only[Bool.and_eq_true] at c;obtain⟨h0,h1,_⟩:=c;have h0:bw.length=ad.length:=by simpa using h0
 have J:j<bw.length:=by rw[h0];exact(aw F).1
 have hr:bw[j]? =some bw[j]:=ag J;have B:(bw.zip ad)[j]? =some (bw[j],a):=by rw[List.getElem?_zip_eq_some];exact⟨hr,F⟩
 have I:=ak B
 have Y:K.lookup a=BW bw[j] (K.lookup a):=by have q:=congrArg (·[j]?) e;simpa[List.getElem?_map,B] using q
 obtain⟨fd,L⟩:=Ba (U _ (ak hr)) (List.all_eq_true.mp h1 _ I) Y;exact⟨_,fd,hr,L⟩
theorem wP(h:DX x=true):(x==("__debug__":Str))=false:=by unfold DX at h;simpa using h
theorem tJ(X:K.In h)(G:h.Ns mainGlobals mg)(hc:∀r∈bw,Chk T r)(hq:T.calm=true)(hbd:∀r∈bw,BY r)(J:lT K T bw ad=true)(e:(bw.zip ad).map (λp=>K.lookup p.2)=(bw.zip ad).map λp=>BW p.1 (K.lookup p.2))
  (F:T.fns.length<=bw.length)(hI:yx K T=true)
  (hcs:T.csts=[]):Facts P w K mg T bw:=by
 have LK:=λ{j:Nat}{a:Addr}(U:ad[j]? =some a)=>zn hbd J e U;unfold lT at J;simp only[Bool.and_eq_true] at J;obtain⟨h0,h1,h2,h4,h6,h7⟩:=J;refine wD X G hc hq F (λp B=>?_) (λx d I=>?_) (λx I=>PySem.W.mg_none_of X G (rY (List.all_eq_true.mp h4 x I))) hI (λc hc p B=>?_) (λp B=>?_)
 ·obtain⟨i,hi⟩:=List.getElem?_of_mem B;rw[List.getElem?_zip_eq_some] at hi;have h0:bw.length=ad.length:=by simpa using h0
  have hj:i<ad.length:=by rw[<-h0];exact(aw hi.2).1
  have U:ad[i]? =some ad[i]:=ag hj;obtain⟨r,fd,hr,L⟩:=LK U;rw[hi.2] at hr;cases hr;have hz:(T.fns.zip (bw.zip ad))[i]? =some (p.1,p.2,ad[i]):=by rw[List.getElem?_zip_eq_some];exact⟨hi.1,by rw[List.getElem?_zip_eq_some];exact⟨hi.2,U⟩⟩
  have q:=List.all_eq_true.mp h2 _ (ak hz);simp only[Bool.and_eq_true] at q;obtain⟨x,ex,eo⟩:=qr q.2;cases ex;exact⟨wP q.1,_,fd,L,PySem.W.mg_of X G eo⟩
 ·rw[hcs] at I;cases I
 ·obtain⟨C,Y,Z⟩:=iI (List.all_eq_true.mp h6 c hc);obtain⟨a,ea,ef⟩:=qr (List.all_eq_true.mp Z p B);obtain⟨r,fd,hr,L⟩:=LK ea;exact⟨C,r,a,fd,hr,L,Y,ef⟩
 ·have q:=List.all_eq_true.mp h7 p B;simp only[Bool.and_eq_true] at q;obtain⟨C,Y,Z⟩:=iI q.2;obtain⟨a,ea,ef⟩:=qr Z;obtain⟨r,fd,hr,L⟩:=LK ea;exact⟨wP q.1,C,r,a,fd,hr,L,Y,PySem.W.mg_of X G Y,ef⟩
theorem yl{l:PySem.W.OpenLaw}{fa:Addr}{li:Nat}{a:Addr}{r:Rec}(X:K.In h)(G:h.Ns mainGlobals mg)(Y:mg "law"=some (.ref fa))(B:∀r∈bw,BY r)(hl:lT K T bw ad=true)(e:(bw.zip ad).map (λp=>K.lookup p.2)=(bw.zip ad).map λp=>BW p.1 (K.lookup p.2))
  (Z:Facts l.prog w K mg T bw)(ha:ad[li]? =some a)(hr:bw[li]? =some r)(hn:PySem.W.nsIn K mainGlobals "law"=some (some (.ref a))) (U:r.ps=[x])(hs:∀ns:List Int,ns.length<=63->∃st',calls (bw.map (·.fn)) n li [.fl (ns.map .int)] []=.ok (.v (.bl true)) st'):
  ∃fd:FuncData,(∀(s:Shared)(v:Value),BindsTo s fd ⟨[v],[]⟩ [(x,v)])/\∀base:Heap,K.In base->base.Ns mainGlobals mg->FnOk l.prog w K mg base (pK l.prog w) (2*n) fa fd [x] (re K):=by
 have q:=Y.symm.trans (PySem.W.mg_of X G hn);cases q;obtain⟨r',fd,c,L⟩:=zn B hl e ha;rw[hr] at c;cases c;obtain⟨oc,od,kV,I,pm,an,J,ct,osl,rfl,lk,hcd⟩:=L.f.ex;have hb:=B _ (ak hr);refine⟨PySem.W.fnOf r.fname r.qual (eP r.st) (dB r.st) (bR r.st) .none kV I pm an J ct,λs v=>.of_eq ?_,λbase _ _=>?_⟩
 ·have:=hb kV I pm an J ct [v] (by rw[U];rfl)
  rw[U] at this;exact this
 ·have F:=jZ (P:=l.prog) (w:=w) (base:=base) Z n li r _ _ hr L;rw[U] at F;exact Bb F hs
end
set_option genInjectivity true
open PySem L2
def W{α:Type}(r:R α)(Q:α->a9->Prop):Prop:=match r with
 | .ok a st=>Q a st
 | .bad=>False
theorem W.mono{r:R α}{Q c:α->a9->Prop}(h:W r Q)(k:∀a st,Q a st->c a st):W r c:=by
 cases r with
 |ok a st=>exact k _ _ h
 |bad=>exact h
theorem W.get{r:R α}{Q:α->a9->Prop}(h:W r Q):∃a st,r=.ok a st/\Q a st:=by
 cases r with
 |ok a st=>exact⟨a,st,rfl,h⟩
 |bad=>exact h.elim
def Vq(Q:D->a9->Prop):Rs->a9->Prop:=λr st=>match r with
 | .v d=>Q d st
 | .x _=>False
abbrev Wv(r:R Rs)(Q:D->a9->Prop):Prop:=W r (Vq Q)
theorem aP{β:Type}{m:M α}{f:α->M β}{Q:β->a9->Prop}(h:W (m st) λa st1=>W (f a st1) Q):W (a_ m f st) Q:=by
 unfold a_;cases e:m st with
 |ok a st1=>rw[e] at h;exact h
 |bad=>rw[e] at h;exact h
section
variable{g:fR}{loc:Loc}{st:a9}{Q:D->a9->Prop}{a b c:Ex}
theorem bo{d:D}(h:Q d st):W (run g (.c d) loc st) Q:=by rw[run];exact h
theorem aG{d:D}(e:loc[i]? =some (some d))(h:Q d st):W (run g (.v i) loc st) Q:=by rw[run];unfold dI;rw[e];exact h
theorem bh(h:W (runs g es loc st) λds st1=>Q (.tup ds) st1):W (run g (.tup es) loc st) Q:=by rw[run];exact aP (h.mono λ_ _ q=>q)
theorem cr(h:W (runs g es loc st) λds st1=>Q (.ref st1.length) (st1++[.lst ds])):W (run g (.lst es) loc st) Q:=by rw[run];exact aP (h.mono λ_ _ q=>q)
theorem e7(h:Q (.ref st.length) (st++[.dct []])):W (run g .emp loc st) Q:=by rw[run];exact h
theorem bG{op:Bo}(h:W (run g a loc st) λx st1=>W (run g b loc st1) λy c=>W (cB op x y c) Q):W (run g (.bin op a b) loc st) Q:=by rw[run];exact aP (h.mono λ_ _ q=>aP q)
theorem w_not(h:W (run g a loc st) λx st1=>∃k,x=.bl k/\Q (.bl (!k)) st1):W (run g (.not a) loc st) Q:=by
 rw[run];exact aP (h.mono λ_ _ ⟨i,e,q⟩=>by subst e;exact q)
theorem w_and(h:W (run g a loc st) λx st1=>∃k,x=.bl k/\(k=true->W (run g b loc st1) Q)/\(k=false->Q (.bl false) st1)):W (run g (.and a b) loc st) Q:=by
 rw[run];exact aP (h.mono λ_ _ c=>by
  obtain⟨k,e,q1,q2⟩:=c;subst e;cases k with
  |true=>exact q1 rfl
  |false=>exact q2 rfl)
theorem w_or(h:W (run g a loc st) λx st1=>∃k,x=.bl k/\(k=true->Q (.bl true) st1)/\(k=false->W (run g b loc st1) Q)):W (run g (.or a b) loc st) Q:=by
 rw[run];exact aP (h.mono λ_ _ c=>by
  obtain⟨k,e,q1,q2⟩:=c;subst e;cases k with
  |true=>exact q1 rfl
  |false=>exact q2 rfl)
theorem bj{op:CmpOp}(h:W (run g a loc st) λx st1=>W (run g b loc st1) λy c=>W (cX op x y c) Q):W (run g (.cmp op a b) loc st) Q:=by rw[run];exact aP (h.mono λ_ _ q=>aP q)
theorem bI(h:W (run g a loc st) λx st1=>W (run g b loc st1) λy c=>W (index x y c) Q):W (run g (.ix a b) loc st) Q:=by rw[run];exact aP (h.mono λ_ _ q=>aP q)
theorem pL(h:W (run g a loc st) λx st1=>W (run g b loc st1) λy c=>∃i,y=.int i/\W (slice x none (some i) c) Q):W (run g (.sl a b b false true) loc st) Q:=by
 rw[run];refine aP (h.mono λ_ _ q=>aP ?_);show W ((a_ (if true=true then a_ (run g b loc) λz=>a_ (dI (lu z)) λi=>ret (some i) else ret none) λh=>slice _ none h) _) Q
 exact aP (show W ((a_ (run g b loc) λz=>a_ (dI (lu z)) λi=>ret (some i)) _) _ from aP (q.mono λ_ _ ⟨i,e,q⟩=>by subst e;exact q))
theorem im(h:W (run g a loc st) λx st1=>W (run g b loc st1) λy c=>∃i,y=.int i/\W (slice x (some i) none c) Q):W (run g (.sl a b b true false) loc st) Q:=by
 rw[run];refine aP (h.mono λ_ _ q=>aP ?_);exact aP (q.mono λ_ _ ⟨i,e,q⟩=>by subst e;exact q)
theorem b_{f:Nat}(h:W (runs g args loc st) λds st1=>Wv (g f ds st1) Q):W (run g (.fn f args) loc st) Q:=by
 rw[run];refine aP (h.mono λds st1 q=>aP (W.mono q λr c q=>?_));cases r with
 |v d=>exact q
 |x n=>exact q.elim
theorem aU{ics:List Str}(h:W (run g a loc st) λx st1=>∃n c fs d,x=.ref n/\st1[n]? =some (.ins c fs)/\fs.lookup f=some d/\c∈ics/\Q d st1):W (run g (.fld a f cs ics) loc st) Q:=by
 rw[run];exact aP (h.mono λx st1 ⟨n,c,fs,d,e,e1,e3,hc,q⟩=>by subst e;simp only[Bn,e1,e3];rw[if_pos hc];exact q)
theorem d6{f:Nat}(h:W (runs g args loc st) λds st1=>Wv (g f (.ref st1.length::ds) (st1++[.ins x []])) λd c=>d=.non/\Q (.ref st1.length) c):W (run g (.new x f args) loc st) Q:=by
 rw[run];refine aP (h.mono λds st1 q=>?_);unfold v4;refine aP (W.mono q λr c q=>?_);cases r with
 |v d=>obtain⟨rfl,q⟩:=q;exact q
 |x n=>exact q.elim
theorem cQ{ms:List (Str×Nat)}(h:W (run g a loc st) λx st1=>∃n c fs j,x=.ref n/\st1[n]? =some (.ins c fs)/\fs.lookup m=none/\ms.lookup c=some j/\W (runs g args loc st1) λds B=>Wv (g j (.ref n::ds) B) Q):W (run g (.meth a m ms args) loc st) Q:=by
 rw[run];refine aP (h.mono λx st1 ⟨n,c,fs,j,e,e1,e2,e3,q⟩=>aP ?_);subst e;simp only[rQ,e1,e2,e3];refine aP (q.mono λds B q=>aP (W.mono q λr F q=>?_));cases r with
 |v d=>exact q
 |x n=>exact q.elim
theorem ca{f:Bt}(h:W (runs g args loc st) λds st1=>W (eL f ds st1) Q):W (run g (.bt f args) loc st) Q:=by rw[run];exact aP h
theorem zR{ks:List Key}(h:W (runs g es loc st) λds st1=>(ks.length=ds.length/\ks.Nodup)/\Q (.ref st1.length) (st1++[.dct (ks.zip ds)])):W (run g (.dict ks es) loc st) Q:=by
 rw[run];exact aP (h.mono λds st1 ⟨e,q⟩=>by unfold allocK;rw[if_pos e];exact q)
theorem y3(h:W (run g c loc st) λx st1=>∃k,x=.bl k/\(k=true->W (run g a loc st1) Q)/\(k=false->W (run g b loc st1) Q)):W (run g (.ite c a b) loc st) Q:=by
 rw[run];exact aP (h.mono λ_ _ B=>by
  obtain⟨k,e,q1,q2⟩:=B;subst e;cases k with
  |true=>exact q1 rfl
  |false=>exact q2 rfl)
theorem d7{rng:Bool}(h:W (run g a loc st) λd st1=>∃s,da rng d=some s/\W (cA (λx=>a_ (run g b (some x::loc)) λy=>ret (some y)) s st1) Q):W (run g (.comp rng a b) loc st) Q:=by
 rw[run];exact aP (h.mono λ_ _ ⟨s,e,q⟩=>aP (by unfold dI;rw[e];exact q))
end
section
variable{g:fR}{loc:Loc}{st:a9}{Q:List D->a9->Prop}
theorem ao(h:Q [] st):W (runs g [] loc st) Q:=by rw[runs];exact h
theorem af{e:Ex}(h:W (run g e loc st) λd st1=>W (runs g es loc st1) λds c=>Q (d::ds) c):W (runs g (e::es) loc st) Q:=by rw[runs];exact aP (h.mono λ_ _ q=>aP (q.mono λ_ _ q=>q))
end
section
variable{st:a9}{Q:D->a9->Prop}
theorem gN{b:Ex}{x:D}{Q:Option D->a9->Prop}(h:W (run g b (some x::loc) st) λy st1=>Q (some y) st1):W (a_ (run g b (some x::loc)) (λy=>ret (some y)) st) Q:=aP (h.mono λ_ _ q=>q)
theorem gA{c b:Ex}{x:D}{Q:Option D->a9->Prop}(h:W (run g c (some x::loc) st) λz st1=>∃k,z=.bl k/\(k=true->W (run g b (some x::loc) st1) λy B=>Q (some y) B)/\(k=false->Q none st1)):
  W (a_ (run g c (some x::loc)) (λz=>a_ (dI (eS z)) λk=>if k then a_ (run g b (some x::loc)) λy=>ret (some y) else ret none) st) Q:=
 aP (h.mono λ_ _ F=>by
  obtain⟨k,e,q1,q2⟩:=F;subst e;cases k with
  |true=>exact aP (aP (q1 rfl))
  |false=>exact aP (q2 rfl))
end
def Kn(g:fR)(ss:List S)(Q:Fl->a9->Prop):Fl->a9->Prop:=λr st=>match r with
 | .nx loc=>W (execs g ss loc st) Q
 | .rt d=>Q (.rt d) st
 | .ex n l=>Q (.ex n l) st
 | .ct l=>Q (.ct l) st
def Kr(Q:D->a9->Prop):Fl->a9->Prop:=λr st=>match r with
 | .nx _=>Q .non st
 | .rt d=>Q d st
 | .ex _ _=>False
 | .ct _=>False
section
variable{g:fR}{loc:Loc}{st:a9}{Q:Fl->a9->Prop}{ss:List S}{e o i c:Ex}
theorem bd(h:W (execs g ss loc st) Q):Kn g ss Q (.nx loc) st:=h
theorem oG{d:D}(h:Q (.rt d) st):Kn g ss Q (.rt d) st:=h
theorem zo(h:Q (.ct loc) st):Kn g ss Q (.ct loc) st:=h
theorem jq{Q:D->a9->Prop}(h:Q .non st):Kr Q (.nx loc) st:=h
theorem bD{Q:D->a9->Prop}{d:D}(h:Q d st):Kr Q (.rt d) st:=h
theorem aN(h:Q (.nx loc) st):W (execs g [] loc st) Q:=by rw[execs];exact h
theorem b6{s:S}(h:W (exec g s loc st) (Kn g ss Q)):W (execs g (s::ss) loc st) Q:=by
 rw[execs];refine aP (h.mono λr st1 q=>?_);cases r with
 |nx loc'=>exact q
 |rt d=>exact q
 |ex n l=>exact q
 |ct l=>exact q
theorem zL{ics:List Str}(h:W (run g e loc st) λd st1=>W (run g o loc st1) λx B=>W (nV cs ics x f d B) λ_ c=>W (execs g ss loc c) Q):W (execs g (.setf o f e cs ics::ss) loc st) Q:=
 b6 (by rw[exec];exact aP (h.mono λ_ _ q=>aP (q.mono λ_ _ q=>aP (q.mono λ_ _ q=>q))))
theorem ba(h:W (run g e loc st) λd st1=>W (execs g ss (loc.set n (some d)) st1) Q):W (execs g (.set n e::ss) loc st) Q:=
 b6 (by rw[exec];exact aP (h.mono λ_ _ q=>q))
theorem cN(h:W (run g e loc st) λd st1=>W (run g o loc st1) λx F=>W (run g i loc F) λk B=>W (fj x k d B) λ_ c=>W (execs g ss loc c) Q):W (execs g (.setix o i e::ss) loc st) Q:=
 b6 (by rw[exec];exact aP (h.mono λ_ _ q=>aP (q.mono λ_ _ q=>aP (q.mono λ_ _ q=>aP (q.mono λ_ _ q=>q)))))
theorem bC(h:W (run g e loc st) λd st1=>Q (.rt d) st1):W (execs g (.ret e::ss) loc st) Q:=
 b6 (by rw[exec];exact aP (h.mono λ_ _ q=>q))
theorem eM(h:W (run g o loc st) λx st1=>W (jn x st1) λ_ F=>W (run g e loc F) λd B=>W (append x d B) λ_ c=>W (execs g ss loc c) Q):W (execs g (.app o e::ss) loc st) Q:=
 b6 (by rw[exec];exact aP (h.mono λ_ _ q=>aP (q.mono λ_ _ q=>aP (q.mono λ_ _ q=>aP (q.mono λ_ _ q=>q)))))
theorem j0{c:Loc->M D}{f:Loc->M Fl}(I:Nat->Loc->a9->Prop)(turn:∀m loc st,I m loc st->W (c loc st) λx st1=>∃b,x=.bl b/\(b=true->∃m',m=m'+1/\W (f loc st1) λr B=>match r with| .nx loc'=>I m' loc' B| .ct loc'=>I m' loc' B| .rt d=>Q (.rt d) B| .ex n l=>Q (.ex n l) B)/\(b=false->Q (.nx loc) st1)):
  ∀k m loc st,m<k->I m loc st->W (fS c f k loc st) Q
 |0,m,loc,st,h1,h=>by omega
 |k+1,m,loc,st,h1,h=>by
  rw[fS];refine aP ((turn m loc st h).mono λx st1 F=>?_);obtain⟨b,e,q1,q2⟩:=F;subst e;cases b with
  |false=>exact q2 rfl
  |true=>
   obtain⟨m',rfl,q⟩:=q1 rfl;refine aP (show W ((if true=true then a_ (f loc) _ else _) st1) _ from aP (q.mono λr B q=>?_))
   cases r with
   |nx loc'=>exact j0 I turn k m' loc' B (by omega) q
   |ct loc'=>exact j0 I turn k m' loc' B (by omega) q
   |rt d=>exact q
   |ex n l=>exact q
theorem cZ{x y:List S}(h:W (run g c loc st) λz st1=>∃k,z=.bl k/\(k=true->W (execs g x loc st1) (Kn g ss Q))/\(k=false->W (execs g y loc st1) (Kn g ss Q))):W (execs g (.ite c x y::ss) loc st) Q:=
 b6 (by
  rw[exec]
  exact aP (h.mono λ_ _ B=>by
   obtain⟨k,e,q1,q2⟩:=B;subst e;cases k with
   |true=>exact q1 rfl
   |false=>exact q2 rfl))
def Kf(I:Loc->a9->Prop)(Q:Fl->a9->Prop):Fl->a9->Prop:=λr st=>match r with
 | .nx loc=>I loc st
 | .ct loc=>I loc st
 | .rt d=>Q (.rt d) st
 | .ex n l=>Q (.ex n l) st
theorem bU{I:Loc->a9->Prop}(h:I loc st):Kf I Q (.nx loc) st:=h
theorem zq{I:Loc->a9->Prop}(h:I loc st):Kf I Q (.ct loc) st:=h
end
section
end
theorem j3{Q:Fl->a9->Prop}{ss body:List S}{c:Ex}(I:Nat->Loc->a9->Prop)(m:Nat)(F:m<1000000000)(h0:I m loc st)(turn:∀m loc st,I m loc st->W (run g c loc st) λx st1=>∃b,x=.bl b/\(b=true->∃m',m=m'+1/\W (execs g body loc st1) (Kf (I m') (Kn g ss Q)))/\(b=false->W (execs g ss loc st1) Q)):
  W (execs g (.whil c body::ss) loc st) Q:=by
 refine b6 ?_;rw[exec];refine j0 I (λm loc st h=>(turn m loc st h).mono λx st1 ⟨b,e,q1,q2⟩=>⟨b,e,λJ=>?_,q2⟩) Bm m loc st F h0;obtain⟨m',e,q⟩:=q1 J;refine⟨m',e,q.mono λr B q=>?_⟩;cases r with
 |nx loc'=>exact q
 |rt d=>exact q
 |ex n l=>exact q
 |ct l=>exact q
theorem zT{tab:List Fn}{k f:Nat}{fn:Fn}{ds:List D}{Q:D->a9->Prop}(B:tab[f]? =some fn)(c:ds.length=fn.ar)(h:W (execs (calls tab k) fn.body (ds.map some++List.replicate (fn.nl - ds.length) none) st) (Kr Q)):Wv (calls tab (k+1) f ds st) Q:=by
 simp only[Wv,calls,B,sw,if_pos c];refine aP (h.mono λr st1 q=>?_);cases r with
 |nx loc'=>exact q
 |rt d=>exact q
 |ex n l=>exact q.elim
 |ct l=>exact q.elim
section
variable{st:a9}{Q:D->a9->Prop}{i j:Int}
theorem w_add(h:Q (.int (i+j)) st):W (cB .add (.int i) (.int j) st) Q:=h
theorem w_sub(h:Q (.int (i - j)) st):W (cB .sub (.int i) (.int j) st) Q:=h
theorem w_mul(c:(-18446744073709551616<i/\i<18446744073709551616)∨(-18446744073709551616<j/\j<18446744073709551616))(h:Q (.int (i*j)) st):W (cB .mul (.int i) (.int j) st) Q:=by simp only[cB,A7];rw[if_pos (.inl (show(-big<i/\i<big)∨(-big<j/\j<big) from c))];exact h
theorem w_mod(c:0<j)(h:Q (.int (i % j)) st):W (cB .mod (.int i) (.int j) st) Q:=by
 simp only[cB,ii];rw[if_pos (by omega),Int.fmod_eq_emod_of_nonneg i (by omega)];exact h
theorem mC(c:0<j/\j<4611686018427387904)(h:Q (.int (i / j)) st):W (cB .fdiv (.int i) (.int j) st) Q:=by
 simp only[cB,ii];rw[if_pos ⟨by omega,az (show j.natAbs<4611686018427387904 by omega) (by decide)⟩,Int.fdiv_eq_ediv_of_nonneg i (by omega)];exact h
theorem zS{as bs:List D}(B:as≠[])(c:as.length+bs.length<=1000000)(h:Q (.tup (as++bs)) st):W (cB .add (.tup as) (.tup bs) st) Q:=by
 cases as with
 |nil=>exact absurd rfl B
 |cons a as=>simp only[cB,addD];rw[if_pos c];exact h
theorem mD{m:Nat}{as bs:List D}(B:st[m]? =some (.lst as))(c:st[n]? =some (.lst bs))(F:as.length+bs.length<=1000000)(h:Q (.ref st.length) (st++[.lst (as++bs)])):W (cB .add (.ref m) (.ref n) st) Q:=by simp only[cB,addD,B,c];rw[if_pos F];exact h
theorem w_eq{x:D}{k:Bool}(e:dF 60 st x y=some k)(h:Q (.bl k) st):W (cX .Eq x y st) Q:=by simp only[cX,e];exact h
theorem lj{x:D}{k:Bool}(e:dF 60 st x y=some k)(h:Q (.bl (!k)) st):W (cX .NotEq x y st) Q:=by simp only[cX,e];exact h
theorem gM(h:Q (.bl (decide (i=j))) st):W (cX .Eq (.int i) (.int j) st) Q:=w_eq (k:=decide (i=j)) (by simp[dF,shape,nL];rfl) h
theorem qN(h:Q (.bl (!decide (i=j))) st):W (cX .NotEq (.int i) (.int j) st) Q:=lj (k:=decide (i=j)) (by simp[dF,shape,nL];rfl) h
theorem w_lt(h:Q (.bl (decide (i<j))) st):W (cX .Lt (.int i) (.int j) st) Q:=h
theorem zQ(h:Q (.bl (decide (j<i))) st):W (cX .Gt (.int i) (.int j) st) Q:=h
theorem qO{x:D}{k:Bool}(e:Da x y=some k)(h:Q (.bl (!k)) st):W (cX .IsNot x y st) Q:=by simp only[cX,e];exact h
theorem bL{d:D}(e:qJ xs i=some d)(h:Q d st):W (index (.tup xs) (.int i) st) Q:=by simp only[index,bq,e];exact h
theorem dk{d:D}(c:st[n]? =some (.lst xs))(e:qJ xs i=some d)(h:Q d st):W (index (.ref n) (.int i) st) Q:=by simp only[index,bq,c,e];exact h
theorem fV{d:D}(c:st[n]? =some (.dct kvs))(e:bH kvs (.inl i)=some d)(h:Q d st):W (index (.ref n) (.int i) st) Q:=by simp only[index,bq,DD,c,e];exact h
theorem qS(c:st[n]? =some (.dct kvs))(h:Q (.ref st.length) (st++[.dct kvs])):W (eL .dict [.ref n] st) Q:=by simp only[eL,sA,c];exact h
theorem bY{x:D}{k:Key}{Q:Unit->a9->Prop}(c:st[n]? =some (.dct kvs))(hk:i8 x=some k)(B:kvs.length<1000000)(h:Q () (st.set n (.dct (bP kvs k v)))):W (fj (.ref n) x v st) Q:=by simp only[fj,c,hk];rw[if_pos B];exact h
theorem xm{fs:List (Str×D)}{ics:List Str}{Q:Unit->a9->Prop}(B:st[n]? =some (.ins c fs))(F:fs.length<900/\c∈ics)(h:Q () (st.set n (.ins c (putD f v fs)))):W (nV cs ics (.ref n) f v st) Q:=by simp only[nV,B];rw[if_pos F];exact h
theorem wX{xs:List α}(h0:0<=i)(h1:i<xs.length):∃d,qJ xs i=some d/\xs[i.toNat]? =some d:=by
 have hi:i.toNat<xs.length:=by omega
 refine⟨xs[i.toNat],?_,by simp[hi]⟩
 unfold qJ xg;rw[if_pos h0,if_pos h1];show xs[i.toNat]? =_;simp[hi]
theorem g_(h:Q (.int xs.length) st):W (eL .len [.tup xs] st) Q:=h
theorem fU(c:st[n]? =some (.lst xs))(h:Q (.int xs.length) st):W (eL .len [.ref n] st) Q:=by simp only[eL,sA,bq,c];exact h
theorem mz(h:Q (.ref st.length) (st++[.lst xs])):W (eL .list [.tup xs] st) Q:=h
theorem nM(h:Q (.tup xs) st):W (eL .tuple [.tup xs] st) Q:=h
theorem fT(c:st[n]? =some (.lst xs))(h:Q (.tup xs) st):W (eL .tuple [.ref n] st) Q:=by simp only[eL,sA,bq,c];exact h
theorem B6(c:¬(HT.cG xs.length 0 lo=0/\HT.cG xs.length xs.length hi=xs.length))(h:Q (.tup (cutD xs lo hi)) st):W (slice (.tup xs) lo hi st) Q:=by simp only[slice];rw[if_neg c];exact h
theorem B7(c:st[n]? =some (.lst xs))(h:Q (.ref st.length) (st++[.lst (cutD xs lo hi)])):W (slice (.ref n) lo hi st) Q:=by simp only[slice,bq,c];exact h
theorem cF{Q:Unit->a9->Prop}(c:st[n]? =some (.lst xs))(h:Q () st):W (jn (.ref n) st) Q:=by simp only[jn,c];exact h
theorem ce{Q:Unit->a9->Prop}(c:st[n]? =some (.lst xs))(B:xs.length<1000000)(h:Q () (st.set n (.lst (xs++[v])))):W (append (.ref n) v st) Q:=by simp only[append,c];rw[if_pos B];exact h
end
def Gr(st st':a9):Prop:=∃t,st'=st++t
theorem Gr.refl(st:a9):Gr st st:=⟨[],by simp⟩
theorem Gr.trans{a c:a9}(h:Gr a b)(k:Gr b c):Gr a c:=by
 obtain⟨t,rfl⟩:=h;obtain⟨u,rfl⟩:=k;exact⟨t++u,by simp⟩
theorem Gr.one(st:a9)(o:O):Gr st (st++[o]):=⟨[o],rfl⟩
theorem Gr.more{a:a9}(h:Gr a b)(o:O):Gr a (b++[o]):=h.trans (.one b o)
theorem Gr.le{a:a9}(h:Gr a b):a.length<=b.length:=by obtain⟨t,rfl⟩:=h;simp
theorem Gr.at{a:a9}(h:Gr a b){o:O}(e:a[i]? =some o):b[i]? =some o:=by obtain⟨t,rfl⟩:=h;have:=(aw e).1;rw[aC this];exact e
theorem aD{o:O}:(st++[o])[st.length]? =some o:=by simp
theorem aV{o:O}{t:a9}(e:st[i]? =some o):(st++t)[i]? =some o:=by have:=(aw e).1;rw[aC this];exact e
theorem cz{j:Int}(h: -1000000<=j/\j<=1000000):da true (.int j)=some (.its (bN j.toNat)):=by simp only[da];rw[if_pos h]
theorem bZ(n:Nat):(bN n).length=n:=by simp[bN]
theorem bK{o:O}(h:n<st.length):(st.set n o)[n]? =some o:=by rw[aO h]
theorem ig{f:D->D->Option Bool}:∀{xs:List D},(∀x∈xs,f x x=some true)->cY f xs xs=some true
 |[],_=>rfl
 |x::xs,h=>by
  unfold cY;rw[h x (by simp),ig λy c=>h y (by simp[c])]
  rfl
theorem zU{a b:O}:(st++[a,b])[st.length]? =some a:=by simp
theorem D6{a b:O}:(st++[a,b])[st.length+1]? =some b:=by simp
theorem bM{a b:O}:(st++[a]).set st.length b=st++[b]:=by simp
theorem j_{a b c:O}:(st++[a,b]).set st.length c=st++[c,b]:=by simp
section
variable{g:fR}{loc:Loc}{st:a9}{Q:D->a9->Prop}{a b c e:Ex}
theorem yY(h:W (run g a loc st) λy st1=>∃n kvs ns,y=.ref n/\st1[n]? =some (.dct kvs)/\l0 kvs=some ns/\(ns.Pairwise (· < ·)/\kvs.length<64)/\Q (.ref st1.length) (st1++[.lst ((ns.zip kvs).map λp=>.tup [.int p.1,p.2.2])])):W (run g (.sit a) loc st) Q:=by
 rw[run];exact aP (h.mono λy st1 ⟨n,kvs,ns,e,e1,e2,e3,q⟩=>by subst e;simp only[z_,dX,e1,e2];rw[if_pos e3];exact q)
theorem ur(h:W (run g a loc st) λx st1=>∃n kv0,x=.ref n/\st1[n]? =some (.dct kv0)/\W (run g b loc st1) λk F=>W (run g c loc F) λz B=>∃kvs i,B[n]? =some (.dct kvs)/\z=k/\k=.int i/\Q ((bH kvs (.inl i)).getD (.int i)) B):W (run g (.dget a b c) loc st) Q:=by rw[run];refine aP (h.mono λx st1 I=>?_);obtain⟨n,kv0,e,Z,q⟩:=I;subst e;refine aP ?_;simp only[iF,dX,Z];refine aP (q.mono λk F q=>aP (q.mono λz B I=>?_));obtain⟨kvs,i,Y,U,J,q2⟩:=I;subst U J;simp only[wM,dX,Y,i8];exact q2
theorem qR(h:W (run g a loc st) λx st1=>∃n kv0,x=.ref n/\st1[n]? =some (.dct kv0)/\W (run g b loc st1) λk c=>∃kvs i,c[n]? =some (.dct kvs)/\k=.int i/\Q ((bH kvs (.inl i)).getD .non) c):W (run g (.dget1 a b) loc st) Q:=by rw[run];refine aP (h.mono λx st1 B=>?_);obtain⟨n,kv0,e,I,q⟩:=B;subst e;refine aP ?_;simp only[iF,dX,I];refine aP (q.mono λk c B=>?_);obtain⟨kvs,i,F,rfl,q⟩:=B;simp only[qA,dX,F,i8];exact q
theorem uk(h:W (run g a loc st) λx st1=>∃n y ys,x=.ref n/\st1[n]? =some (.lst (y::ys))/\Q y (st1.set n (.lst ys))):W (run g (.pop a true) loc st) Q:=by
 rw[run];exact aP (h.mono λx st1 ⟨n,y,ys,e,e1,q⟩=>by subst e;simp only[vF,e1];exact q)
theorem pN(h:W (run g a loc st) λx st1=>∃n y ys,x=.ref n/\st1[n]? =some (.lst (ys++[y]))/\Q y (st1.set n (.lst ys))):W (run g (.pop a false) loc st) Q:=by
 rw[run];exact aP (h.mono λx st1 ⟨n,y,ys,e,e1,q⟩=>by
  subst e;have c:(ys++[y])[(ys++[y]).length - 1]? =some y:=by simp
  simp only[vF,e1,Bool.false_eq_true,if_false,c,List.dropLast_concat];exact q)
theorem zO(h:W (run g a loc st) λy st1=>∃xs,y=.tup xs/\Q (.bl true) st1):W (run g (.isi a true) loc st) Q:=by
 rw[run];exact aP (h.mono λy st1 ⟨n,e,q⟩=>by subst e;exact q)
theorem zP(h:W (run g a loc st) λy st1=>∃n xs,y=.ref n/\st1[n]? =some (.lst xs)/\Q (.bl true) st1):W (run g (.isi a false) loc st) Q:=by
 rw[run];exact aP (h.mono λy st1 ⟨n,xs,e,e1,q⟩=>by subst e;simp only[Bh,e1];exact q)
theorem iZ:∀ns:List Int,lS (ns.map .int)=some ns
 |[]=>rfl
 |n::ns=>by simp only[List.map_cons,lS,iZ ns,Option.map_some]
theorem ui(h:W (run g a loc st) λy st1=>∃ns,bq st1 y=some (ns.map .int)/\ns.length<=2/\(∀n∈ns,0<=n/\n<10)/\Q (.ref st1.length) (st1++[.lst ((Tab23.iU ns).map .int)])):W (run g (.sset a) loc st) Q:=by
 rw[run];exact aP (h.mono λy st1 ⟨ns,e,e1,e2,q⟩=>by simp only[uN,e,iZ];rw[if_pos ⟨e1,List.all_eq_true.mpr λn c=>decide_eq_true (e2 n c)⟩];exact q)
theorem il{ns:List Int}(c:st[n]? =some (.lst (ns.map .int)))(B:ns.length<64)(h:Q (.ref st.length) (st++[.lst ((Tab23.dM ns).map .int)])):W (eL .sorted [.ref n] st) Q:=by simp only[eL,sA,numsOf,c,iZ];rw[if_pos B];exact h
theorem qQ{ps:List (Key×D)}(B:st[n]? =some (.lst xs))(c:n_ xs=some ps)(h:Q (.ref st.length) (st++[.dct (pc ps)])):W (eL .dict [.ref n] st) Q:=by simp only[eL,sA,B,c];exact h
theorem qT(h:W (run g a loc st) λd st1=>∃s,ph d=some s/\W (cA (pairF λx y=>run g b (some x::some y::loc)) s st1) Q):W (run g (.compE a b) loc st) Q:=by
 rw[run];exact aP (h.mono λ_ _ ⟨s,e,q⟩=>aP (by unfold dI;rw[e];exact q))
theorem e8(h:W (run g a loc st) λd st1=>∃s,da false d=some s/\W (cA (λx=>a_ (run g b (some x::loc)) λz=>a_ (dI (eS z)) λk=>if k then a_ (run g c (some x::loc)) λy=>ret (some y) else ret none) s st1) Q):W (run g (.compIf a b c) loc st) Q:=by
 rw[run];exact aP (h.mono λ_ _ ⟨s,e,q⟩=>aP (by unfold dI;rw[e];exact q))
theorem jJ(h:W (run g a loc st) λd st1=>∃s,da false d=some s/\W (cA (pairF λx y=>run g b (some x::some y::loc)) s st1) Q):W (run g (.compU a b) loc st) Q:=by
 rw[run];exact aP (h.mono λ_ _ ⟨s,e,q⟩=>aP (by unfold dI;rw[e];exact q))
variable{i j:Int}
theorem w_pow(c:0<=j/\j<=1000/\i.natAbs<1000)(h:Q (.int (i^j.toNat)) st):W (cB .pow (.int i) (.int j) st) Q:=by simp only[cB,ii];rw[if_pos c];exact h
theorem uo{k:Bool}(h:Q (.int (if k then 1 else 0)) st):W (eL .int [.bl k] st) Q:=h
theorem um(h:Q (.int (if j>i then j else i)) st):W (eL .max [.int i,.int j] st) Q:=h
theorem zN(c:st[n]? =some (.dct kvs))(h:Q (.int kvs.length) st):W (eL .len [.ref n] st) Q:=by simp only[eL,sA,bq,dX,c];exact h
theorem ul{x:D}{k:Key}(c:st[n]? =some (.dct kvs))(hk:i8 x=some k)(h:Q (.bl (!(bH kvs k).isSome)) st):W (cX .NotIn x (.ref n) st) Q:=by simp only[cX,bq,jf,c,hk];exact h
theorem io{x:D}{ys:List D}{k:Bool}(c:st[n]? =some (.lst ys))(e:iK st x ys=some k)(h:Q (.bl (!k)) st):W (cX .NotIn x (.ref n) st) Q:=by simp only[cX,bq,c,e];exact h
theorem uq{x:D}{k:Key}(c:st[n]? =some (.dct kvs))(hk:i8 x=some k)(h:Q (.bl (bH kvs k).isSome) st):W (cX .In x (.ref n) st) Q:=by simp only[cX,bq,jf,c,hk];exact h
theorem B8(h:Q (.ref st.length) (st++[.lst (cutD xs lo hi)])):W (slice (.fl xs) lo hi st) Q:=h
end
section
variable{g:fR}{loc:Loc}{st:a9}{Q:Fl->a9->Prop}{ss:List S}{e a b:Ex}
theorem dL{rng:Bool}{body:List S}(h:W (run g e loc st) λd st1=>∃s,da rng d=some s/\W (fg (λx c=>execs g body (c.set n (some x))) s loc st1) (Kn g ss Q)):W (execs g (.for_ n rng e body::ss) loc st) Q:=
 b6 (by rw[exec];exact aP (h.mono λ_ _ ⟨s,e,q⟩=>aP (by unfold dI;rw[e];exact q)))
theorem qP{body:List S}(h:W (run g a loc st) λx st1=>W (run g b loc st1) λy B=>W (fg (λx c=>a_ (items? is.length x) λds=>execs g body (kb is ds c)) (.zp x y) loc B) (Kn g ss Q)):W (execs g (.forZ is a b body::ss) loc st) Q:=
 b6 (by rw[exec];exact aP (h.mono λ_ _ q=>aP (q.mono λ_ _ q=>aP (show W ((dI (B3 _ _)) _) _ from q))))
theorem jI{body:List S}(h:W (run g e loc st) λd st1=>∃s,ph d=some s/\W (fg (λx c=>a_ (items? is.length x) λds=>execs g body (kb is ds c)) s loc st1) (Kn g ss Q)):W (execs g (.forE is e body::ss) loc st) Q:=
 b6 (by rw[exec];exact aP (h.mono λ_ _ ⟨s,e,q⟩=>aP (by unfold dI;rw[e];exact q)))
theorem xn{body:List S}(h:W (run g e loc st) λd st1=>∃m xs,d=.ref m/\st1[m]? =some (.lst xs)/\W (fg (λx c=>execs g body (c.set n (some x))) (.rv m xs.length) loc st1) (Kn g ss Q)):W (execs g (.forV n e body::ss) loc st) Q:=
 b6 (by rw[exec];exact aP (h.mono λd st1 ⟨m,xs,e,e1,q⟩=>aP (by subst e;simp only[Ar,e1,dI];exact q)))
theorem xo{body:List S}(h:W (run g e loc st) λd st1=>∃i,d=.int i/\(-1000000<=i/\i<=1000000)/\W (fg (λx c=>execs g body (c.set n (some x))) (.its (eO i (i+1).toNat)) loc st1) (Kn g ss Q)):W (execs g (.forD n e body::ss) loc st) Q:=
 b6 (by rw[exec];exact aP (h.mono λd st1 ⟨i,e,e1,q⟩=>aP (by subst e;simp only[mQ,if_pos e1,dI];exact q)))
theorem ut(h:Q (.ct loc) st):W (execs g (.cont::ss) loc st) Q:=b6 (by rw[exec];exact h)
theorem Cb(h:W (run g e loc st) λd st1=>∃n xs,d=.ref n/\st1[n]? =some (.lst xs)/\W (execs g ss loc (st1.set n (.lst []))) Q):W (execs g (.clr e::ss) loc st) Q:=
 b6 (by rw[exec];exact aP (h.mono λd st1 ⟨n,xs,e,e1,q⟩=>aP (by subst e;simp only[qC,e1];exact q)))
theorem B_(h:W (run g a loc st) λx st1=>∃n ys,x=.ref n/\st1[n]? =some (.lst ys)/\W (run g b loc st1) λd c=>∃m xs zs,d=.ref m/\c[n]? =some (.lst xs)/\c[m]? =some (.lst zs)/\xs.length+zs.length<=10000000/\W (execs g ss loc (c.set n (.lst (xs++zs)))) Q):W (execs g (.ext a b::ss) loc st) Q:=
 b6 (by
  rw[exec]
  exact aP (h.mono λx st1 ⟨n,ys,e,e1,q⟩=>aP (by
   subst e;simp only[jn,e1];exact aP (q.mono λd c ⟨m,xs,zs,e2,e3,e4,hz,q⟩=>aP (by subst e2;simp only[extend,e3,e4];rw[if_pos hz];exact q)))))
theorem yZ{c:Ex}(h:W (run g a loc st) λx st1=>∃n kv0,x=.ref n/\st1[n]? =some (.dct kv0)/\W (run g b loc st1) λi F=>W (run g c loc F) λd B=>∃kvs k,B[n]? =some (.dct kvs)/\i8 i=some k/\kvs.length<1000000/\bH kvs k=none/\W (execs g ss loc (B.set n (.dct (bP kvs k d)))) Q):W (execs g (.sdf a b c::ss) loc st) Q:=
 b6 (by
  rw[exec]
  exact aP (h.mono λx st1 ⟨n,kv0,e,e1,q⟩=>aP (by
   subst e;simp only[iF,dX,e1];exact aP (q.mono λi F q=>aP (q.mono λd B ⟨kvs,k,e2,e3,hz,hv,q⟩=>aP (by simp only[Ab,e2,e3];rw[if_pos hz];simp only[hv];exact q))))))
theorem jH{ds:List D}{f:List D->M Fl}(c:ds.length=n)(h:W (f ds st) Q):W ((a_ (items? n (.tup ds)) f) st) Q:=aP (by unfold items?;dsimp only;rw[if_pos c];exact h)
theorem mB{f:D->Loc->M Fl}{s:Src}{L:List D}(I:Nat->Loc->a9->Prop)(nx:∀i loc st,I i loc st->eK s i st=some L[i]?)(step:∀i x loc st,L[i]? =some x->I i loc st->W (f x loc st) (Kf (I (i+1)) Q))
  (fin:∀loc st,I L.length loc st->Q (.nx loc) st):∀k i loc st,i<=L.length->L.length<k+i->I i loc st->W (iC f s k i loc st) Q
 |0,i,loc,st,h1,h2,h=>by omega
 |k+1,i,loc,st,h1,h2,h=>by
  simp only[iC,nx i loc st h];cases e:L[i]? with
  |none=>
   have:i=L.length:=by have:=List.getElem?_eq_none_iff.mp e;omega
   subst this;exact fin loc st h
  |some x=>
   have hi:=(aw e).1;refine aP ((step i x loc st e h).mono λr st1 q=>?_);cases r with
   |nx loc'=>exact mB I nx step fin k (i+1) loc' st1 hi (by omega) q
   |ct loc'=>exact mB I nx step fin k (i+1) loc' st1 hi (by omega) q
   |rt d=>exact q
   |ex n l=>exact q
theorem cy{f:D->Loc->M Fl}(c:L.length<=bV s st)(I:Nat->Loc->a9->Prop)(h0:I 0 loc st)(nx:∀i loc st,I i loc st->eK s i st=some L[i]?)(step:∀i x loc st,L[i]? =some x->I i loc st->W (f x loc st) (Kf (I (i+1)) Q))
  (fin:∀loc st,I L.length loc st->Q (.nx loc) st):W (fg f s loc st) Q:=by
 unfold fg;exact mB I nx step fin _ 0 loc st (Nat.zero_le _) (by omega) h0
end
section
variable{st:a9}{Q:D->a9->Prop}{f:D->M (Option D)}
theorem j4{s:Src}{L:List D}{Q:List D->a9->Prop}(I:Nat->List D->a9->Prop)(nx:∀i acc st,I i acc st->eK s i st=some L[i]?)(step:∀i x acc st,L[i]? =some x->I i acc st->W (f x st) λo st1=>I (i+1) (match o with|some y=>acc++[y]|none=>acc) st1)
  (fin:∀acc st,I L.length acc st->Q acc st):∀k i acc st,i<=L.length->L.length<k+i->I i acc st->W (eQ f s k i acc st) Q
 |0,i,acc,st,h1,h2,h=>by omega
 |k+1,i,acc,st,h1,h2,h=>by
  simp only[eQ,nx i acc st h];cases e:L[i]? with
  |none=>
   have:i=L.length:=by have:=List.getElem?_eq_none_iff.mp e;omega
   subst this;exact fin acc st h
  |some x=>
   have hi:=(aw e).1;refine aP ((step i x acc st e h).mono λo st1 q=>?_);cases o with
   |none=>exact j4 I nx step fin k (i+1) acc st1 hi (by omega) q
   |some y=>exact j4 I nx step fin k (i+1) (acc++[y]) st1 hi (by omega) q
theorem bS(c:bV s st<=1000000)(B:L.length<=bV s st)(I:Nat->List D->a9->Prop)(h0:I 0 [] st)(nx:∀i acc st,I i acc st->eK s i st=some L[i]?)(step:∀i x acc st,L[i]? =some x->I i acc st->W (f x st) λo st1=>I (i+1) (match o with|some y=>acc++[y]|none=>acc) st1)
  (fin:∀acc st,I L.length acc st->Q (.ref st.length) (st++[.lst acc])):W (cA f s st) Q:=by
 unfold cA;rw[if_pos c];exact aP (W.mono (j4 (Q:=λacc st=>Q (.ref st.length) (st++[.lst acc])) I nx step fin _ 0 [] st (Nat.zero_le _) (by omega) h0) λacc st q=>(show Q (.ref st.length) (st++[.lst acc]) from q))
theorem jG{f:D->D->M D}{x:D}{Q:Option D->a9->Prop}(h:W (f x y st) λz st1=>Q (some z) st1):W (pairF f (.tup [x,y]) st) Q:=aP (h.mono λ_ _ q=>q)
end
mutual
noncomputable def vW:D->Bool
 | .tup xs=>jA xs
 | .fl _=>false
 | .ref _=>false
 |_=>true
noncomputable def jA:List D->Bool
 |[]=>true
 |d::ds=>vW d&&jA ds
end
mutual
noncomputable def wN:D->Nat
 | .tup xs=>jg xs+1
 |_=>0
noncomputable def jg:List D->Nat
 |[]=>0
 |d::ds=>max (wN d) (jg ds)
end
mutual
theorem nr{st:a9}:∀(n:Nat)(d:D),vW d=true->wN d<n->dF n st d d=some true
 |0,_,_,h=>absurd h (Nat.not_lt_zero _)
 |n+1,.tup xs,h,hd=>by
  have h:jA xs=true:=h;have hd:jg xs+1<n+1:=hd;show(match shape st (.tup xs),shape st (.tup xs) with|a,b=>dF (n+1) st (.tup xs) (.tup xs))=_
  dsimp only;have:=pd (st:=st) n xs h (by omega)
  unfold dF;simp only[shape];exact this
 |n+1,.non,_,_=>by simp[dF,shape,nL]
 |n+1,.bl _,_,_=>by simp[dF,shape,nL]
 |n+1,.int _,_,_=>by simp[dF,shape,nL]
 |n+1,.str _,_,_=>by simp[dF,shape,nL]
 |_+1,.fl _,h,_=>by cases h
 |_+1,.ref _,h,_=>by cases h
theorem pd{st:a9}:∀(n:Nat)(xs:List D),jA xs=true->jg xs<n->cY (nK (dF n st)) xs xs=some true
 |_,[],_,_=>rfl
 |n,d::ds,h,hd=>by
  have h:(vW d&&jA ds)=true:=h;rw[Bool.and_eq_true] at h;have hd:max (wN d) (jg ds)<n:=hd
  have h1:nK (dF n st) d d=some true:=by
   unfold nK;split
   ·rw[if_pos rfl]
   ·exact nr n d h.1 (by omega)
  unfold cY;rw[h1,pd n ds h.2 (by omega)]
  rfl
end
theorem sr{m:Nat}:∀{xs:List D},(∀x∈xs,wN x<=m)->jg xs<=m
 |[],_=>Nat.zero_le _
 |x::xs,h=>by show max (wN x) (jg xs)<=m;have h1:=h x (.head _);have B:=sr λy c=>h y (.tail _ c);omega
theorem vV:∀{xs:List D},(∀x∈xs,vW x=true)->jA xs=true
 |[],_=>rfl
 |x::xs,h=>by show(vW x&&jA xs)=true;rw[h x (.head _),vV λy c=>h y (.tail _ c)];rfl
theorem Gr.set{a:a9}(h:Gr a b){o:O}(c:a.length<=n):Gr a (b.set n o):=by
 obtain⟨t,rfl⟩:=h;exact⟨t.set (n - a.length) o,by rw[List.set_append_right _ _ c]⟩
local macro_rules| `(tactic|walk_at "ev1")=> `(tactic|with_reducible first
 |refine bo ?_|(refine aG (by with_unfolding_all rfl) ?_)|refine bh ?_|refine cr ?_|refine e7 ?_|refine bG ?_|refine w_not ?_|refine w_and ?_|refine w_or ?_|refine bj ?_|refine bI ?_|refine pL ?_|refine im ?_
 |refine d6 ?_|refine b_ ?_|refine ca ?_|refine d7 ?_|refine e8 ?_|refine jJ ?_|refine ao ?_|refine af ?_|refine w_elt' ?_|refine uk ?_|refine pN ?_|refine yY ?_|refine y3 ?_|refine qR ?_|refine qT ?_|refine ur ?_|refine aU ?_|refine cQ ?_
 |refine aN ?_|refine ba ?_|refine cN ?_|refine bC ?_|refine eM ?_|refine cZ ?_|refine dL ?_|refine jI ?_|refine ut ?_|refine zo ?_|refine zq ?_|refine qP ?_|refine bd ?_|refine oG ?_|refine jq ?_|refine bD ?_|refine bU ?_|refine kf_rt ?_
 |refine w_add ?_|refine w_sub ?_|refine gM ?_|refine qN ?_|refine w_lt ?_|refine w_le ?_|refine zQ ?_|refine g_ ?_|refine w_lenF ?_|refine mz ?_|refine nM ?_|refine uo ?_|refine um ?_
 |(refine w_mul (by omega) ?_)|(refine w_mod (by omega) ?_)|(refine mC (by omega) ?_)|(refine w_pow (by decide) ?_)|(refine bL (by with_unfolding_all rfl) ?_))
local macro_rules| `(tactic|walk_at "ev")=> `(tactic|repeat (walk_at "ev1"))
namespace K23
variable{P:D->Prop}{f:Str}{L0 b c i j m n nd p v w y:Nat}{s0 st st' st1:a9}{loc:Loc}{g:fR}{o:O}{xs:List D}{a e t x:D}{kv kvs:List (Key×D)}{F H L X is l rs ws:List Nat}{Bs Ws:List (List Nat)}{N:Nat->Option Nat}{c0 c1 c10 c11 c5 c6 c7 c9:Option D}
noncomputable abbrev yz:Nat:=0
noncomputable def nq:Fn:=⟨2,2,[.ite (.and (.cmp .Eq (.ix (.v 0) (.c (.int (0)))) (.c (.str "name"))) (.cmp .In (.ix (.v 0) (.c (.int (1)))) (.v 1))) [.ret (.ix (.v 1) (.ix (.v 0) (.c (.int (1)))))] [],.ret (.v 0)]⟩
noncomputable abbrev wm:Nat:=1
noncomputable def kO:Fn:=⟨2,2,[.ret (.bt .tuple [(.comp false (.v 0) (.fn 0 [(.v 0),(.v 2)]))])]⟩
noncomputable abbrev m9:Nat:=2
noncomputable def fu:Fn:=⟨3,3,[.ret (.tup [(.dget (.v 2) (.ix (.v 0) (.c (.int (0)))) (.ix (.v 0) (.c (.int (0))))),(.fn 1 [(.ix (.v 0) (.c (.int (1)))),(.v 1)])])]⟩
noncomputable abbrev kC:Nat:=3
noncomputable def eA:Fn:=⟨3,8,[.set 3 (.lst []),.setix (.v 2) (.v 1) (.c (.bl true)),.set 4 (.lst [(.tup [(.v 1),(.c (.int (0)))])]),.whil (.cmp .Gt (.bt .len [(.v 4)]) (.c (.int (0)))) [.set 5 (.pop (.v 4) false),.set 6 (.ix (.v 5) (.c (.int (0)))),.ite (.cmp .Eq (.ix (.v 5) (.c (.int (1)))) (.bt .len [(.ix (.v 0) (.v 6))])) [.app (.v 3) (.v 6),.cont] [],.app (.v 4) (.tup [(.v 6),(.bin .add (.ix (.v 5) (.c (.int (1)))) (.c (.int (1))))]),.set 7 (.ix (.ix (.v 0) (.v 6)) (.ix (.v 5) (.c (.int (1))))),.ite (.cmp .NotIn (.v 7) (.v 2)) [.setix (.v 2) (.v 7) (.c (.bl true)),.app (.v 4) (.tup [(.v 7),(.c (.int (0)))])] []],.ret (.v 3)]⟩
noncomputable abbrev wk:Nat:=4
noncomputable def kL:Fn:=⟨1,5,[.set 1 (.comp true (.bt .len [(.v 0)]) (.lst [])),.forE [2,3] (.v 0) [.for_ 4 false (.v 3) [.app (.ix (.v 1) (.v 4)) (.v 2)]],.ret (.v 1)]⟩
noncomputable abbrev ja:Nat:=5
noncomputable def dw:Fn:=⟨1,9,[.set 1 (.fn 3 [(.v 0),(.c (.int (0))),.emp]),.set 2 (.bt .dict [(.compE (.v 1) (.tup [(.v 1),(.v 0)]))]),.set 3 (.fn 4 [(.v 0)]),.set 4 (.comp false (.v 1) (.bt .sorted [(.compIf (.ix (.v 4) (.v 0)) (.cmp .In (.v 0) (.v 4)) (.ix (.v 4) (.v 0)))])),.set 5 (.dict [(.inl (0))] [(.c (.int (0)))]),.set 6 (.c (.bl true)),.whil (.v 6) [.set 6 (.c (.bl false)),.forD 7 (.bin .sub (.bt .len [(.v 1)]) (.c (.int (2)))) [.set 8 (.fn 6 [(.compIf (.ix (.v 4) (.v 7)) (.cmp .In (.ix (.v 2) (.v 0)) (.v 6)) (.ix (.v 2) (.v 0))),(.v 5),(.v 2)]),.ite (.cmp .NotEq (.dget1 (.v 5) (.ix (.v 1) (.v 7))) (.v 8)) [.setix (.v 5) (.ix (.v 1) (.v 7)) (.v 8),.set 6 (.c (.bl true))] []]],.ret (.v 5)]⟩
noncomputable abbrev kD:Nat:=6
noncomputable def eE:Fn:=⟨3,6,[.set 3 (.ix (.v 0) (.c (.int (0)))),.for_ 4 false (.v 0) [.set 5 (.v 4),.whil (.cmp .NotEq (.v 5) (.v 3)) [.ite (.cmp .Lt (.ix (.v 2) (.v 5)) (.ix (.v 2) (.v 3))) [.set 5 (.ix (.v 1) (.v 5))] [.set 3 (.ix (.v 1) (.v 3))]]],.ret (.v 3)]⟩
noncomputable abbrev oS:Nat:=7
noncomputable def ge:Fn:=⟨2,2,[.ret (.sset (.compU (.meth (.fld (.ix (.fld (.v 0) "blocks" [] ["Function"]) (.v 1)) "end" [] ["Block"]) "edges" [("Jump",29),("Branch",33),("Raise",25),("Risk",40)] []) (.ix (.v 0) (.c (.int (0))))))]⟩
noncomputable abbrev tw:Nat:=8
noncomputable def jd:Fn:=⟨1,1,[.ret (.comp true (.bt .len [(.fld (.v 0) "blocks" [] ["Function"])]) (.fn 7 [(.v 1),(.v 0)]))]⟩
noncomputable abbrev tz:Nat:=9
noncomputable def je:Fn:=⟨1,1,[.ite (.cmp .Eq (.bt .len [(.fld (.v 0) "blocks" [] ["Function"])]) (.c (.int (0)))) [.ret (.lst [])] [],.ret (.bt .sorted [(.fn 3 [(.fn 8 [(.v 0)]),(.c (.int (0))),.emp])])]⟩
noncomputable abbrev wl:Nat:=10
noncomputable def kM:Fn:=⟨1,6,[.set 1 (.comp true (.bt .len [(.fld (.v 0) "blocks" [] ["Function"])]) (.lst [])),.ite (.cmp .Eq (.bt .len [(.fld (.v 0) "blocks" [] ["Function"])]) (.c (.int (0)))) [.ret (.v 1)] [],.set 2 (.fn 8 [(.v 0)]),.set 3 (.fn 5 [(.v 2)]),.forV 4 (.fn 3 [(.v 2),(.c (.int (0))),.emp]) [.set 5 (.ite (.cmp .Eq (.v 4) (.c (.int (0)))) (.lst []) (.ix (.v 1) (.ix (.v 3) (.v 4)))),.setix (.v 1) (.v 4) (.bt .sorted [(.bin .add (.v 5) (.lst [(.v 4)]))])],.ret (.v 1)]⟩
noncomputable abbrev qt:Nat:=11
noncomputable def h_:Fn:=⟨1,5,[.set 1 .emp,.forE [2,3] (.fld (.v 0) "blocks" [] ["Function"]) [.for_ 4 false (.meth (.v 3) "given" [("Block",43)] []) [.sdf (.v 1) (.v 4) (.v 2)]],.ret (.v 1)]⟩
noncomputable abbrev oT:Nat:=12
noncomputable def gf:Fn:=⟨1,5,[.set 1 (.fn 9 [(.v 0)]),.set 2 (.bt .dict [(.compE (.v 1) (.tup [(.v 1),(.v 0)]))]),.set 3 (.comp false (.v 1) (.ix (.fld (.v 1) "blocks" [] ["Function"]) (.v 0))),.set 4 (.comp false (.v 3) (.new "Block" 41 [(.fld (.v 0) "params" [] ["Block"]),(.fld (.v 0) "rows" [] ["Block"]),(.meth (.fld (.v 0) "end" [] ["Block"]) "moved" [("Jump",28),("Branch",32),("Raise",36),("Risk",39)] [.emp,(.v 3)])])),.ret (.tup [(.meth (.v 0) "with_blocks" [("Function",46)] [(.v 4)]),(.v 2)])]⟩
noncomputable abbrev m_:Nat:=13
noncomputable def fw:Fn:=⟨2,3,[.set 2 (.bin .mod (.bin .add (.bin .add (.bin .mul (.bin .mod (.v 0) (.c (.int (2147483629)))) (.c (.int (48271)))) (.bin .mul (.v 1) (.c (.int (7919))))) (.c (.int (104729)))) (.c (.int (2147483629)))),.set 2 (.bin .mod (.bin .add (.bin .add (.bin .mul (.bin .mod (.bin .mul (.v 2) (.v 2)) (.c (.int (2147483629)))) (.c (.int (16807)))) (.bin .mul (.v 1) (.c (.int (104729))))) (.c (.int (11)))) (.c (.int (2147483587)))),.ret (.bin .mod (.bin .mul (.v 2) (.v 2)) (.c (.int (2147483587))))]⟩
noncomputable abbrev kE:Nat:=14
noncomputable def eF:Fn:=⟨2,6,[.set 2 (.lst []),.for_ 3 false (.v 0) [.set 4 (.v 3),.for_ 5 true (.c (.int (40))) [.ite (.cmp .Lt (.v 3) (.bin .pow (.c (.int (10))) (.c (.int (18))))) [.app (.v 2) (.bin .mod (.fn 13 [(.v 3),(.bt .len [(.v 2)])]) (.c (.int (1009))))] [.ite (.cmp .Gt (.v 4) (.c (.int (0)))) [.app (.v 2) (.bin .mod (.v 4) (.c (.int (1009)))),.set 4 (.bin .fdiv (.v 4) (.c (.int (1009))))] []]]],.whil (.cmp .Lt (.bt .len [(.v 2)]) (.v 1)) [.app (.v 2) (.bin .mod (.fn 13 [(.bt .len [(.v 2)]),(.v 1)]) (.c (.int (1009))))],.ret (.sl (.v 2) (.v 1) (.v 1) false true)]⟩
noncomputable abbrev oU:Nat:=15
noncomputable def gh:Fn:=⟨1,1,[.ite (.cmp .Eq (.v 0) (.lst [])) [.ret (.c (.int (0)))] [],.ret (.pop (.v 0) true)]⟩
noncomputable abbrev oW:Nat:=16
noncomputable def gk:Fn:=⟨2,7,[.set 2 (.lst []),.for_ 3 true (.v 1) [.set 4 (.fn 15 [(.v 0)]),.set 5 (.bin .add (.c (.int (1))) (.bin .mod (.bin .fdiv (.v 4) (.c (.int (8)))) (.bt .max [(.c (.int (1))),(.bin .sub (.v 1) (.c (.int (1))))]))),.set 6 (.bin .add (.c (.int (1))) (.bin .mod (.bin .fdiv (.v 4) (.c (.int (100)))) (.bt .max [(.c (.int (1))),(.bin .sub (.v 1) (.c (.int (1))))]))),.ite (.and (.cmp .Lt (.bin .mod (.v 4) (.c (.int (8)))) (.c (.int (4)))) (.cmp .Lt (.bin .add (.v 3) (.c (.int (1)))) (.v 1))) [.set 5 (.bin .add (.v 3) (.c (.int (1))))] [],.ite (.or (.cmp .Eq (.v 1) (.c (.int (1)))) (.cmp .Eq (.bin .mod (.v 4) (.c (.int (8)))) (.c (.int (7))))) [.app (.v 2) (.tup [(.c (.str "raise"))])] [.ite (.cmp .Eq (.bin .mod (.bin .mod (.v 4) (.c (.int (8)))) (.c (.int (2)))) (.c (.int (0)))) [.app (.v 2) (.tup [(.c (.str "jump")),(.v 5)])] [.ite (.cmp .Eq (.bin .mod (.v 4) (.c (.int (8)))) (.c (.int (1)))) [.app (.v 2) (.tup [(.c (.str "branch")),(.v 5),(.v 6)])] [.app (.v 2) (.tup [(.c (.str "risk")),(.v 5),(.v 6)])]]]],.ret (.v 2)]⟩
noncomputable abbrev fK:Nat:=17
noncomputable def dR:Fn:=⟨1,1,[.ite (.cmp .Eq (.ix (.v 0) (.c (.int (0)))) (.c (.str "raise"))) [.ret (.new "Raise" 34 [(.c (.str "odd"))])] [],.ite (.cmp .Eq (.ix (.v 0) (.c (.int (0)))) (.c (.str "jump"))) [.ret (.new "Jump" 26 [(.tup [(.ix (.v 0) (.c (.int (1)))),(.tup [])])])] [],.ite (.cmp .Eq (.ix (.v 0) (.c (.int (0)))) (.c (.str "branch"))) [.ret (.new "Branch" 30 [(.tup [(.c (.str "truth")),(.c (.bl true))]),(.tup [(.ix (.v 0) (.c (.int (1)))),(.tup [(.tup [(.c (.str "num")),(.c (.int (3)))])])]),(.tup [(.ix (.v 0) (.c (.int (2)))),(.tup [])])])] [],.ret (.new "Risk" 37 [(.c (.str "div")),(.c (.non)),(.tup [(.tup [(.c (.str "num")),(.c (.int (1)))]),(.tup [(.c (.str "num")),(.c (.int (2)))])]),(.tup [(.ix (.v 0) (.c (.int (1)))),(.tup [])]),(.lst [(.tup [(.c (.str "zero")),(.tup [(.ix (.v 0) (.c (.int (2)))),(.tup [(.tup [(.c (.str "num")),(.c (.int (4)))])])])])])])]⟩
noncomputable abbrev oV:Nat:=18
noncomputable def gj:Fn:=⟨1,6,[.set 1 (.lst []),.set 2 .emp,.forE [3,4] (.v 0) [.set 5 (.lst [(.new "Row" 23 [(.bin .add (.bin .mul (.c (.int (3))) (.v 3)) (.c (.int (1)))),(.c (.str "copy")),(.c (.non)),(.tup [(.tup [(.c (.str "num")),(.v 3)])])]),(.new "Row" 23 [(.c (.non)),(.c (.str "tick")),(.c (.non)),(.tup [])])]),.app (.v 1) (.new "Block" 41 [(.tup [(.bin .mul (.c (.int (3))) (.v 3))]),(.v 5),(.fn 17 [(.v 4)])]),.setix (.v 2) (.bin .mul (.c (.int (3))) (.v 3)) (.tup [(.c (.str "truth"))]),.setix (.v 2) (.bin .add (.bin .mul (.c (.int (3))) (.v 3)) (.c (.int (1)))) (.tup [(.c (.str "num"))])],.ret (.new "Function" 44 [(.tup [(.tup [(.c (.str "truth"))])]),(.tup [(.c (.str "num"))]),(.v 2),(.v 1)])]⟩
noncomputable abbrev oX:Nat:=19
noncomputable def gm:Fn:=⟨2,5,[.set 2 (.lst []),.set 3 (.lst [(.c (.int (0)))]),.whil (.cmp .NotEq (.v 3) (.lst [])) [.set 4 (.pop (.v 3) false),.ite (.and (.cmp .NotIn (.v 4) (.v 2)) (.cmp .NotIn (.v 4) (.v 1))) [.app (.v 2) (.v 4),.set 3 (.bin .add (.v 3) (.bt .list [(.sl (.ix (.v 0) (.v 4)) (.c (.int (1))) (.c (.int (1))) true false)]))] []],.ret (.bt .sorted [(.v 2)])]⟩
noncomputable abbrev jC:Nat:=20
noncomputable def dO:Fn:=⟨2,3,[.set 2 (.bin .add (.tup [(.ix (.v 0) (.c (.int (0))))]) (.bt .tuple [(.comp false (.sl (.v 0) (.c (.int (1))) (.c (.int (1))) true false) (.ix (.v 2) (.v 0)))])),.ret (.meth (.fn 17 [(.v 2)]) "told" [("Row",24),("Jump",27),("Branch",31),("Raise",35),("Risk",38),("Block",42),("Function",45)] [])]⟩
noncomputable abbrev gJ:Nat:=21
noncomputable def cI:Fn:=⟨3,9,[.set 3 .emp,.for_ 4 false (.v 2) [.setix (.v 3) (.v 4) (.bt .len [(.v 3)])],.set 5 (.fn 12 [(.v 0)]),.ite (.or (.not (.isi (.v 5) true)) (.or (.cmp .NotEq (.bt .len [(.v 5)]) (.c (.int (2)))) (.or (.cmp .NotEq (.ix (.v 5) (.c (.int (1)))) (.v 3)) (.cmp .NotEq (.bt .len [(.fld (.ix (.v 5) (.c (.int (0)))) "blocks" [] ["Function"])]) (.bt .len [(.v 2)]))))) [.ret (.c (.bl false))] [],.set 6 .emp,.forZ [4,7] (.v 2) (.fld (.ix (.v 5) (.c (.int (0)))) "blocks" [] ["Function"]) [.set 8 (.meth (.ix (.fld (.v 0) "blocks" [] ["Function"]) (.v 4)) "told" [("Row",24),("Jump",27),("Branch",31),("Raise",35),("Risk",38),("Block",42),("Function",45)] []),.ite (.cmp .NotEq (.meth (.v 7) "told" [("Row",24),("Jump",27),("Branch",31),("Raise",35),("Risk",38),("Block",42),("Function",45)] []) (.tup [(.ix (.v 8) (.c (.int (0)))),(.ix (.v 8) (.c (.int (1)))),(.fn 20 [(.ix (.v 1) (.v 4)),(.v 3)])])) [.ret (.c (.bl false))] [],.setix (.v 6) (.bin .mul (.c (.int (3))) (.v 4)) (.tup [(.c (.str "truth"))]),.setix (.v 6) (.bin .add (.bin .mul (.c (.int (3))) (.v 4)) (.c (.int (1)))) (.tup [(.c (.str "num"))])],.ret (.and (.cmp .Eq (.fld (.ix (.v 5) (.c (.int (0)))) "kinds" [] ["Function"]) (.v 6)) (.cmp .Eq (.tup [(.fld (.ix (.v 5) (.c (.int (0)))) "takes" [] ["Function"]),(.fld (.ix (.v 5) (.c (.int (0)))) "gives" [] ["Function"])]) (.tup [(.fld (.v 0) "takes" [] ["Function"]),(.fld (.v 0) "gives" [] ["Function"])])))]⟩
noncomputable abbrev Db:Nat:=22
noncomputable def wE:Fn:=⟨1,12,[.set 1 (.fn 14 [(.sl (.v 0) (.c (.int (62))) (.c (.int (62))) false true),(.c (.int (40)))]),.set 2 (.bin .add (.c (.int (1))) (.bin .mod (.fn 15 [(.v 1)]) (.c (.int (9))))),.set 3 (.fn 16 [(.v 1),(.v 2)]),.set 4 (.fn 18 [(.v 3)]),.set 5 (.meth (.v 4) "told" [("Row",24),("Jump",27),("Branch",31),("Raise",35),("Risk",38),("Block",42),("Function",45)] []),.set 6 (.fn 19 [(.v 3),(.lst [])]),.set 7 (.lst []),.for_ 8 true (.v 2) [.set 9 (.compIf (.v 6) (.or (.cmp .Eq (.v 9) (.v 0)) (.cmp .NotIn (.v 9) (.fn 19 [(.v 4),(.lst [(.v 0)])]))) (.v 0)),.app (.v 7) (.ix (.lst [(.v 9),(.lst [])]) (.bt .int [(.cmp .NotIn (.v 8) (.v 6))]))],.set 10 (.fn 10 [(.v 4)]),.ite (.or (.not (.isi (.v 10) false)) (.or (.cmp .NotEq (.v 10) (.v 7)) (.cmp .NotEq (.fn 9 [(.v 4)]) (.v 6)))) [.ret (.c (.bl false))] [],.app (.ix (.v 10) (.c (.int (0)))) (.c (.int (99))),.clr (.fn 9 [(.v 4)]),.ite (.or (.cmp .NotEq (.fn 10 [(.v 4)]) (.v 7)) (.cmp .NotEq (.fn 9 [(.v 4)]) (.v 6))) [.ret (.c (.bl false))] [],.for_ 8 true (.v 2) [.ite (.cmp .NotEq (.fn 7 [(.v 4),(.v 8)]) (.sset (.sl (.ix (.v 3) (.v 8)) (.c (.int (1))) (.c (.int (1))) true false))) [.ret (.c (.bl false))] []],.set 11 .emp,.for_ 8 true (.v 2) [.setix (.v 11) (.bin .mul (.c (.int (3))) (.v 8)) (.v 8),.setix (.v 11) (.bin .add (.bin .mul (.c (.int (3))) (.v 8)) (.c (.int (1)))) (.v 8)],.ret (.and (.cmp .Eq (.fn 11 [(.v 4)]) (.v 11)) (.and (.fn 21 [(.v 4),(.v 3),(.v 6)]) (.cmp .Eq (.meth (.v 4) "told" [("Row",24),("Jump",27),("Branch",31),("Raise",35),("Risk",38),("Block",42),("Function",45)] []) (.v 5))))]⟩
noncomputable abbrev qv:Nat:=23
noncomputable def ib:Fn:=⟨5,5,[.setf (.v 0) "name" (.v 1) [] ["Row"],.setf (.v 0) "op" (.v 2) [] ["Row","Risk"],.setf (.v 0) "extra" (.v 3) [] ["Row","Risk"],.setf (.v 0) "operands" (.bt .tuple [(.v 4)]) [] ["Row"]]⟩
noncomputable abbrev qu:Nat:=24
noncomputable def ia:Fn:=⟨1,1,[.ret (.tup [(.fld (.v 0) "name" [] ["Row"]),(.fld (.v 0) "op" [] ["Row","Risk"]),(.fld (.v 0) "extra" [] ["Row","Risk"]),(.fld (.v 0) "operands" [] ["Row"])])]⟩
noncomputable def gu:Fn:=⟨1,1,[.ret (.lst [])]⟩
noncomputable abbrev oZ:Nat:=26
noncomputable def gt:Fn:=⟨2,2,[.setf (.v 0) "edge" (.v 1) [] ["Jump","Risk"]]⟩
noncomputable def gq:Fn:=⟨1,1,[.ret (.tup [(.c (.str "jump")),(.fld (.v 0) "edge" [] ["Jump","Risk"])])]⟩
noncomputable def fE:Fn:=⟨3,3,[.ret (.new "Jump" 26 [(.fn 2 [(.fld (.v 0) "edge" [] ["Jump","Risk"]),(.v 1),(.v 2)])])]⟩
noncomputable def fF:Fn:=⟨1,1,[.ret (.lst [(.tup [(.fld (.v 0) "edge" [] ["Jump","Risk"]),(.c (.bl false))])])]⟩
noncomputable abbrev lA:Nat:=30
noncomputable def eX:Fn:=⟨4,4,[.setf (.v 0) "test" (.v 1) [] ["Branch"],.setf (.v 0) "yes" (.v 2) [] ["Branch"],.setf (.v 0) "no" (.v 3) [] ["Branch"]]⟩
noncomputable def eW:Fn:=⟨1,1,[.ret (.tup [(.c (.str "branch")),(.fld (.v 0) "test" [] ["Branch"]),(.fld (.v 0) "yes" [] ["Branch"]),(.fld (.v 0) "no" [] ["Branch"])])]⟩
noncomputable def eG:Fn:=⟨3,4,[.set 3 (.fn 2 [(.fld (.v 0) "yes" [] ["Branch"]),(.v 1),(.v 2)]),.ret (.new "Branch" 30 [(.fn 0 [(.fld (.v 0) "test" [] ["Branch"]),(.v 1)]),(.v 3),(.fn 2 [(.fld (.v 0) "no" [] ["Branch"]),(.v 1),(.v 2)])])]⟩
noncomputable def eI:Fn:=⟨1,1,[.ret (.lst [(.tup [(.fld (.v 0) "yes" [] ["Branch"]),(.c (.bl false))]),(.tup [(.fld (.v 0) "no" [] ["Branch"]),(.c (.bl false))])])]⟩
noncomputable abbrev nb:Nat:=34
noncomputable def fD:Fn:=⟨2,2,[.setf (.v 0) "fault" (.v 1) [] ["Raise"]]⟩
noncomputable def fC:Fn:=⟨1,1,[.ret (.tup [(.c (.str "raise")),(.fld (.v 0) "fault" [] ["Raise"])])]⟩
noncomputable def eV:Fn:=⟨3,3,[.ret (.new "Raise" 34 [(.fld (.v 0) "fault" [] ["Raise"])])]⟩
noncomputable abbrev oY:Nat:=37
noncomputable def gp:Fn:=⟨6,6,[.setf (.v 0) "op" (.v 1) [] ["Row","Risk"],.setf (.v 0) "extra" (.v 2) [] ["Row","Risk"],.setf (.v 0) "asked" (.bt .tuple [(.v 3)]) [] ["Risk"],.setf (.v 0) "edge" (.v 4) [] ["Jump","Risk"],.setf (.v 0) "catches" (.bt .tuple [(.v 5)]) [] ["Risk"]]⟩
noncomputable def gn:Fn:=⟨1,1,[.ret (.tup [(.c (.str "risk")),(.fld (.v 0) "op" [] ["Row","Risk"]),(.fld (.v 0) "extra" [] ["Row","Risk"]),(.fld (.v 0) "asked" [] ["Risk"]),(.fld (.v 0) "edge" [] ["Jump","Risk"]),(.fld (.v 0) "catches" [] ["Risk"])])]⟩
noncomputable def fA:Fn:=⟨3,5,[.set 3 (.fn 2 [(.fld (.v 0) "edge" [] ["Jump","Risk"]),(.v 1),(.v 2)]),.set 4 (.compU (.fld (.v 0) "catches" [] ["Risk"]) (.tup [(.v 0),(.fn 2 [(.v 1),(.v 3),(.v 4)])])),.ret (.new "Risk" 37 [(.fld (.v 0) "op" [] ["Row","Risk"]),(.fld (.v 0) "extra" [] ["Row","Risk"]),(.fn 1 [(.fld (.v 0) "asked" [] ["Risk"]),(.v 1)]),(.v 3),(.v 4)])]⟩
noncomputable def fB:Fn:=⟨1,1,[.ret (.bin .add (.lst [(.tup [(.fld (.v 0) "edge" [] ["Jump","Risk"]),(.c (.bl true))])]) (.compU (.fld (.v 0) "catches" [] ["Risk"]) (.tup [(.v 1),(.c (.bl false))])))]⟩
noncomputable abbrev ng:Nat:=41
noncomputable def fH:Fn:=⟨4,4,[.setf (.v 0) "params" (.bt .tuple [(.v 1)]) [] ["Block"],.setf (.v 0) "rows" (.bt .tuple [(.v 2)]) [] ["Block"],.setf (.v 0) "end" (.v 3) [] ["Block"]]⟩
noncomputable abbrev nc:Nat:=42
noncomputable def fG:Fn:=⟨1,1,[.ret (.tup [(.fld (.v 0) "params" [] ["Block"]),(.bt .tuple [(.comp false (.fld (.v 0) "rows" [] ["Block"]) (.meth (.v 0) "told" [("Row",24),("Jump",27),("Branch",31),("Raise",35),("Risk",38),("Block",42),("Function",45)] []))]),(.meth (.fld (.v 0) "end" [] ["Block"]) "told" [("Row",24),("Jump",27),("Branch",31),("Raise",35),("Risk",38),("Block",42),("Function",45)] [])])]⟩
noncomputable abbrev lB:Nat:=43
noncomputable def eY:Fn:=⟨1,1,[.ret (.bin .add (.bt .list [(.fld (.v 0) "params" [] ["Block"])]) (.compIf (.fld (.v 0) "rows" [] ["Block"]) (.cmp .IsNot (.fld (.v 0) "name" [] ["Row"]) (.c (.non))) (.fld (.v 0) "name" [] ["Row"])))]⟩
noncomputable abbrev jE:Nat:=44
noncomputable def dU:Fn:=⟨5,5,[.setf (.v 0) "takes" (.bt .tuple [(.v 1)]) [] ["Function"],.setf (.v 0) "gives" (.v 2) [] ["Function"],.setf (.v 0) "kinds" (.bt .dict [(.v 3)]) [] ["Function"],.setf (.v 0) "kept_kinds" (.bt .dict [(.v 3)]) [] ["Function"],.setf (.v 0) "blocks" (.bt .tuple [(.v 4)]) [] ["Function"]]⟩
noncomputable abbrev jD:Nat:=45
noncomputable def dS:Fn:=⟨1,2,[.set 1 (.bt .tuple [(.sit (.fld (.v 0) "kept_kinds" [] ["Function"]))]),.ret (.tup [(.fld (.v 0) "takes" [] ["Function"]),(.fld (.v 0) "gives" [] ["Function"]),(.v 1),(.bt .tuple [(.comp false (.fld (.v 0) "blocks" [] ["Function"]) (.meth (.v 0) "told" [("Row",24),("Jump",27),("Branch",31),("Raise",35),("Risk",38),("Block",42),("Function",45)] []))])])]⟩
noncomputable abbrev ft:Nat:=46
noncomputable def cq:Fn:=⟨2,4,[.set 2 (.lst []),.for_ 3 false (.v 1) [.ext (.v 2) (.meth (.v 3) "given" [("Block",43)] [])],.ret (.new "Function" 44 [(.fld (.v 0) "takes" [] ["Function"]),(.fld (.v 0) "gives" [] ["Function"]),(.meth (.v 0) "kinds_of" [("Function",47)] [(.v 2)]),(.v 1)])]⟩
noncomputable abbrev gK:Nat:=47
noncomputable def cJ:Fn:=⟨2,2,[.ret (.bt .dict [(.compIf (.v 1) (.cmp .In (.v 0) (.fld (.v 1) "kept_kinds" [] ["Function"])) (.tup [(.v 0),(.ix (.fld (.v 1) "kept_kinds" [] ["Function"]) (.v 0))]))])]⟩
def tab:List Fn:=[nq,kO,fu,eA,kL,dw,eE,ge,jd,je,kM,h_,gf,fw,eF,gh,gk,dR,gj,gm,dO,cI,wE,ib,ia,gu,gt,gq,fE,fF,eX,eW,eG,eI,fD,fC,eV,gp,gn,fA,fB,fH,fG,eY,dU,dS,cq,cJ]
local macro_rules| `(tactic|walk_at "call0")=> `(tactic|(refine zT rfl rfl ?_;dsimp only[nq,kO,fu,eA,kL,dw,eE,ge,jd,je,kM,h_,gf,fw,eF,gh,gk,dR,gj,gm,dO,cI,wE,ib,ia,gu,gt,gq,fE,fF,eX,eW,eG,eI,fD,fC,eV,gp,gn,fA,fB,fH,fG,eY,dU,dS,cq,cJ,List.map_cons,List.map_nil,List.cons_append,List.nil_append,List.length_cons,List.length_nil,List.replicate,Nat.reduceAdd,Nat.reduceSub]))
local macro_rules| `(tactic|walk_at "call")=> `(tactic|(walk_at "call0";walk_at "ev"))
noncomputable def hU(n op ex x:D):List (Str×D):=[("name",n),("op",op),("extra",ex),("operands",x)]
noncomputable def n5(op ex x e c:D):List (Str×D):=[("op",op),("extra",ex),("asked",x),("edge",e),("catches",c)]
theorem jS:∀{fs:List (Str×D)}{m:Str},(fs.map (·.1)).contains m=false->fs.lookup m=none
 |[],_,_=>rfl
 |(a,w)::r,m,h=>by simp only[List.map_cons,List.contains_cons,Bool.or_eq_false_iff] at h;simp only[List.lookup_cons,h.1];exact jS h.2
theorem lk:∀{fs:List (Str×D)}{f:Str}{d:D}(i:Nat),fs[i]? =some (f,d)->((fs.take i).map (·.1)).contains f=false->fs.lookup f=some d
 |(a,w)::r,f,d,0,h,_=>by simp at h;obtain⟨rfl,rfl⟩:=h;simp[List.lookup_cons]
 |(a,w)::r,f,d,i+1,h,k=>by
  simp only[List.take_succ_cons,List.map_cons,List.contains_cons,Bool.or_eq_false_iff] at k;simp only[List.lookup_cons,k.1];exact lk i (by simpa using h) k.2
theorem gS{c:Str}{fs:List (Str×D)}{ics:List Str}{d:D}(B:st1[p]? =some (.ins c fs))(i:Nat)(hi:fs[i]? =some (f,d))(q:P d)(F:c∈ics:=by decide+kernel)(hk:((fs.take i).map (·.1)).contains f=false:=by(simp only[hU,n5,List.nil_append,List.cons_append,List.take_succ_cons,List.take_zero,List.map_cons,List.map_nil];decide+kernel)):∃n c fs d,D.ref p=.ref n/\st1[n]? =some (.ins c fs)/\fs.lookup f=some d/\c∈ics/\P d:=⟨p,c,fs,d,rfl,B,lk i hi hk,F,q⟩
theorem rO{c m:Str}{fs:List (Str×D)}{ms:List (Str×Nat)}{P:Nat->Nat->Prop}(B:st1[p]? =some (.ins c fs))(F:ms.lookup c=some j)(q:P p j)(hk:(fs.map (·.1)).contains m=false:=by(simp only[hU,n5,List.nil_append,List.cons_append,List.map_cons,List.map_nil];decide+kernel)):∃n c fs j,D.ref p=.ref n/\st1[n]? =some (.ins c fs)/\fs.lookup m=none/\ms.lookup c=some j/\P n j:=⟨p,c,fs,j,rfl,B,jS hk,F,q⟩
theorem rA:∀{fs:List (Str×D)}{f:Str}{v:D},(fs.map (·.1)).contains f=false->putD f v fs=fs++[(f,v)]
 |[],_,_,_=>rfl
 |(a,w)::r,f,v,h=>by
  simp only[List.map_cons,List.contains_cons,Bool.or_eq_false_iff] at h;have c:a≠f:=λz=>by simp[z] at h
  simp[putD,c,rA h.2]
theorem eJ{Q:Fl->a9->Prop}{ss:List S}{e:Ex}{cs ics:List Str}(h0:loc[0]? =some (some (.ref p)))
  (h:W (run g e loc st) λd st1=>∃c fs,(st1[p]? =some (.ins c fs)/\fs.length<900/\c∈ics/\(fs.map (·.1)).contains f=false)/\W (execs g ss loc (st1.set p (.ins c (fs++[(f,d)])))) Q):W (execs g (.setf (.v 0) f e cs ics::ss) loc st) Q:=
 zL (h.mono λd st1 ⟨c,fs,⟨hp,hl,hc,hk⟩,q⟩=>aG h0 (xm hp ⟨hl,hc⟩ (by rw[rA hk];exact q)))
theorem lg{c:Str}{fs:List (Str×D)}{ics:List Str}{P:Str->List (Str×D)->Prop}(B:st1[p]? =some (.ins c fs))(q:P c fs)(F:fs.length<900:=by simp)(hc:c∈ics:=by decide+kernel)(hk:(fs.map (·.1)).contains f=false:=by(simp only[hU,n5,List.nil_append,List.cons_append,List.map_cons,List.map_nil];decide+kernel)):∃c fs,(st1[p]? =some (.ins c fs)/\fs.length<900/\c∈ics/\(fs.map (·.1)).contains f=false)/\P c fs:=⟨c,fs,⟨B,F,hc,hk⟩,q⟩
theorem sn{x:O}(h:st[i]? =some o)(c:j≠i):(st.set j x)[i]? =some o:=by rw[aM c];exact h
theorem eq_str{a b:Str}:dF 60 st (.str a) (.str b)=some (a==b):=by simp[dF,shape,nL]
def Sm(m:Nat)(d:D):Prop:=vW d=true/\wN d<=m
theorem Sm.mono{d:D}(h:Sm m d)(k:m<=n):Sm n d:=⟨h.1,aR h.2 k⟩
theorem Sm.tup(h:∀x∈xs,Sm m x):Sm (m+1) (.tup xs):=⟨vV λx c=>(h x c).1,by show jg xs+1<=m+1;exact Nat.succ_le_succ (sr λx c=>(h x c).2)⟩
theorem Sm.eq{d:D}(h:Sm m d)(k:m<60:=by decide):dF 60 st d d=some true:=nr 60 d h.1 (Nat.lt_of_le_of_lt h.2 k)
theorem z3{s:Str}:Sm m (.str s):=⟨rfl,Nat.zero_le _⟩
theorem uP{s:Int}:Sm m (.int s):=⟨rfl,Nat.zero_le _⟩
theorem all2{b:D}(h1:P a)(B:P b):∀x∈[a,b],P x:=by
 intro x c;rcases List.mem_cons.mp c with rfl|c
 ·exact h1
 ·rcases List.mem_cons.mp c with rfl|c
  ·exact B
  ·cases c
theorem wZ{l:List D}(h1:P a)(B:∀x∈l,P x):∀x∈a::l,P x:=by
 intro x c;rcases List.mem_cons.mp c with rfl|c
 ·exact h1
 ·exact B x c
theorem DJ:∀x∈([]:List D),P x:=λ_ h=>nomatch h
noncomputable def jk(p r e:D):List (Str×D):=[("params",p),("rows",r),("end",e)]
noncomputable def yD(t g a b l:D):List (Str×D):=[("takes",t),("gives",g),("kinds",a),("kept_kinds",b),("blocks",l)]
noncomputable abbrev kN:D:= .tup [.str "num"]
noncomputable abbrev kT:D:= .tup [.str "truth"]
noncomputable abbrev mZ(i:Int):D:= .tup [.str "num",.int i]
noncomputable abbrev eg(a:Nat)(xs:List D):D:= .tup [.int (a:Int),.tup xs]
inductive En where
 |rs|jp (a:Nat)|br (a b:Nat)|rk (a b:Nat)
noncomputable def En.fol:En->List Nat
 | .rs=>[]
 | .jp a=>[a]
 | .br a b=>[a,b]
 | .rk a b=>[a,b]
noncomputable def En.map(f:Nat->Nat):En->En
 | .rs=>.rs
 | .jp a=>.jp (f a)
 | .br a b=>.br (f a) (f b)
 | .rk a b=>.rk (f a) (f b)
noncomputable def En.d:En->D
 | .rs=>.tup [.str "raise"]
 | .jp a=>.tup [.str "jump",.int a]
 | .br a b=>.tup [.str "branch",.int a,.int b]
 | .rk a b=>.tup [.str "risk",.int a,.int b]
def En.tl:En->D
 | .rs=>.tup [.str "raise",.str "odd"]
 | .jp a=>.tup [.str "jump",eg a []]
 | .br a b=>.tup [.str "branch",.tup [.str "truth",.bl true],eg a [mZ 3],eg b []]
 | .rk a b=>.tup [.str "risk",.str "div",.non,.tup [mZ 1,mZ 2],eg a [],.tup [.tup [.str "zero",eg b [mZ 4]]]]
inductive EndAt(st:a9)(n:Nat):En->Prop where
 |rs (h:st[n]? =some (.ins "Raise" [("fault",.str "odd")])):EndAt st n .rs
 |jp (a:Nat)(h:st[n]? =some (.ins "Jump" [("edge",eg a [])])):EndAt st n (.jp a)
 |br (a b:Nat)(h:st[n]? =some (.ins "Branch" [("test",.tup [.str "truth",.bl true]),("yes",eg a [mZ 3]),("no",eg b [])])):EndAt st n (.br a b)
 |rk (a b:Nat)(h:st[n]? =some (.ins "Risk" (n5 (.str "div") .non (.tup [mZ 1,mZ 2]) (eg a []) (.tup [.tup [.str "zero",eg b [mZ 4]]])))):EndAt st n (.rk a b)
theorem EndAt.gr{e:En}(h:EndAt st n e)(k:Gr st st'):EndAt st' n e:=by
 cases h with
 |rs h=>exact .rs (k.at h)
 |jp a h=>exact .jp a (k.at h)
 |br a b h=>exact .br a b (k.at h)
 |rk a b h=>exact .rk a b (k.at h)
theorem gB(h:st[n]? =some (.lst xs)):bq st (.ref n)=some xs:=by simp only[bq,h]
theorem iQ(hs:bq st x=some xs)(h:Q (.tup xs) st):W (eL .tuple [x] st) Q:=by simp only[eL,sA,hs];exact h
theorem iV(g:Gr st st')(h:bq st x=some xs):bq st' x=some xs:=by
 cases x with
 |ref n=>
  simp only[bq] at h ⊢;cases q:st[n]? with
  |none=>rw[q] at h;cases h
  |some o=>rw[q] at h;rw[g.at q];exact h
 |_=>exact h
section
variable{k n:Nat}{st:a9}{Q:D->a9->Prop}
theorem zt{o:D}(h:Q .non (st++[.ins "Row" (hU a o e (.tup xs))])):Wv (calls tab (k+1) qv [.ref st.length,a,o,e,.tup xs] (st++[.ins "Row" []])) Q:=by
 obtain⟨s0,c⟩:∃s0,s0=st++[O.ins "Row" []]:=⟨_,rfl⟩;rw[<-c]
 walk_at "call0"
 rw[c];refine eJ rfl (aG rfl (lg aD ?_));rw[bM];refine eJ rfl (aG rfl (lg aD ?_));rw[bM];refine eJ rfl (aG rfl (lg aD ?_));rw[bM];refine eJ rfl (ca (af (aG rfl (ao (nM (lg aD ?_))))));rw[bM];exact aN (jq h)
theorem wo(h:Q .non (st++[.ins "Jump" [("edge",e)]])):Wv (calls tab (k+1) oZ [.ref st.length,e] (st++[.ins "Jump" []])) Q:=by
 obtain⟨s0,c⟩:∃s0,s0=st++[O.ins "Jump" []]:=⟨_,rfl⟩;rw[<-c]
 walk_at "call0"
 rw[c];refine eJ rfl (aG rfl (lg aD ?_));rw[bM];exact aN (jq h)
theorem se(h:Q .non (st++[.ins "Raise" [("fault",e)]])):Wv (calls tab (k+1) nb [.ref st.length,e] (st++[.ins "Raise" []])) Q:=by
 obtain⟨s0,c⟩:∃s0,s0=st++[O.ins "Raise" []]:=⟨_,rfl⟩;rw[<-c]
 walk_at "call0"
 rw[c];refine eJ rfl (aG rfl (lg aD ?_));rw[bM];exact aN (jq h)
theorem o0{y m:D}(h:Q .non (st++[.ins "Branch" [("test",t),("yes",y),("no",m)]])):Wv (calls tab (k+1) lA [.ref st.length,t,y,m] (st++[.ins "Branch" []])) Q:=by
 obtain⟨s0,c⟩:∃s0,s0=st++[O.ins "Branch" []]:=⟨_,rfl⟩;rw[<-c]
 walk_at "call0"
 rw[c];refine eJ rfl (aG rfl (lg aD ?_));rw[bM];refine eJ rfl (aG rfl (lg aD ?_));rw[bM];refine eJ rfl (aG rfl (lg aD ?_));rw[bM];exact aN (jq h)
theorem wn{op ex y:D}{cs:List D}(F:bq st x=some xs)(B:bq st y=some cs)(h:Q .non (st++[.ins "Risk" (n5 op ex (.tup xs) e (.tup cs))])):Wv (calls tab (k+1) oY [.ref st.length,op,ex,x,e,y] (st++[.ins "Risk" []])) Q:=by
 obtain⟨s0,c⟩:∃s0,s0=st++[O.ins "Risk" []]:=⟨_,rfl⟩;rw[<-c]
 walk_at "call0"
 rw[c];refine eJ rfl (aG rfl (lg aD ?_));rw[bM];refine eJ rfl (aG rfl (lg aD ?_));rw[bM];refine eJ rfl (ca (af (aG rfl (ao (iQ (iV (.one _ _) F) (lg aD ?_))))));rw[bM];refine eJ rfl (aG rfl (lg aD ?_));rw[bM];refine eJ rfl (ca (af (aG rfl (ao (iQ (iV (.one _ _) B) (lg aD ?_))))));rw[bM];exact aN (jq h)
theorem sf{p q:D}{ps rs:List D}(B:bq st p=some ps)(hr:bq st q=some rs)(h:Q .non (st++[.ins "Block" (jk (.tup ps) (.tup rs) x)])):Wv (calls tab (k+1) ng [.ref st.length,p,q,x] (st++[.ins "Block" []])) Q:=by
 obtain⟨s0,c⟩:∃s0,s0=st++[O.ins "Block" []]:=⟨_,rfl⟩;rw[<-c]
 walk_at "call0"
 rw[c];refine eJ rfl (ca (af (aG rfl (ao (iQ (iV (.one _ _) B) (lg aD ?_))))));rw[bM];refine eJ rfl (ca (af (aG rfl (ao (iQ (iV (.one _ _) hr) (lg aD ?_))))));rw[bM];refine eJ rfl (aG rfl (lg aD ?_));rw[bM];exact aN (jq h)
theorem wq{g l:D}{B bs:List D}{d:Nat}(F:bq st t=some B)(hd:st[d]? =some (.dct kvs))(I:bq st l=some bs)(h:∀a b st1,st1[st.length]? =some (.ins "Function" (yD (.tup B) g (.ref a) (.ref b) (.tup bs)))->st1[a]? =some (.dct kvs)->st1[b]? =some (.dct kvs)->Gr st st1->Q .non st1):Wv (calls tab (k+1) jE [.ref st.length,t,g,.ref d,l] (st++[.ins "Function" []])) Q:=by
 obtain⟨s0,c⟩:∃s0,s0=st++[O.ins "Function" []]:=⟨_,rfl⟩;rw[<-c]
 walk_at "call0"
 rw[c];have U:∀a:O,(st++[a]).length=st.length+1:=λa=>by simp
 have J:∀a b:O,(st++[a,b]).length=st.length+2:=λa b=>by simp
 refine eJ rfl (ca (af (aG rfl (ao (iQ (iV (.one _ _) F) (lg aD ?_))))));rw[bM];refine eJ rfl (aG rfl (lg aD ?_));rw[bM];refine eJ rfl (ca (af (aG rfl (ao (qS (aV hd) (lg (aV aD) ?_))))));rw[U,List.append_assoc,show ∀a b:O,[a]++[b]=[a,b] from λ_ _=>rfl,j_];refine eJ rfl (ca (af (aG rfl (ao (qS (aV hd) (lg (aV zU) ?_))))));rw[J,List.set_append_left _ _ (by simp),j_]
 refine eJ rfl (ca (af (aG rfl (ao (iQ (iV ⟨_,by rw[List.append_assoc]⟩ I) (lg (aV zU) ?_))))))
 rw[List.set_append_left _ _ (by simp),j_]
 refine aN (jq (h (st.length+1) (st.length+2) _ (aV zU) (aV D6) ?_ ⟨_,by rw[List.append_assoc]⟩))
 rw[List.append_assoc,aE (Nat.le_add_right _ _),Nat.add_sub_cancel_left];rfl
theorem u7{e:En}(h:∀n st1,Gr st st1->EndAt st1 n e->Q (.ref n) st1):Wv (calls tab (k+2) fK [e.d] st) Q:=by
 cases e with
 |rs=>
  walk_at "call0"
  refine cZ (bj (bI (aG rfl (bo (bL rfl (bo (w_eq eq_str ⟨_,rfl,λ_=>?_,λz=>?_⟩)))))))
  ·exact bC (d6 (af (bo (ao (se ⟨rfl,oG (bD (h _ _ (.one _ _) (.rs aD)))⟩)))))
  ·exact absurd z (by decide+kernel)
 |jp a=>
  walk_at "call0"
  refine cZ (bj (bI (aG rfl (bo (bL rfl (bo (w_eq eq_str ⟨_,rfl,λz=>?_,λ_=>?_⟩)))))))
  ·exact absurd z (by decide+kernel)
  refine aN (bd (cZ (bj (bI (aG rfl (bo (bL rfl (bo (w_eq eq_str ⟨_,rfl,λ_=>?_,λz=>?_⟩)))))))))
  ·exact bC (d6 (af (bh (af (bI (aG rfl (bo (bL rfl (af (bh (ao (ao (ao (wo ⟨rfl,oG (bD (h _ _ (.one _ _) (.jp a aD)))⟩))))))))))))))
  ·exact absurd z (by decide+kernel)
 |br a b=>
  walk_at "call0"
  refine cZ (bj (bI (aG rfl (bo (bL rfl (bo (w_eq eq_str ⟨_,rfl,λz=>?_,λ_=>?_⟩)))))))
  ·exact absurd z (by decide+kernel)
  refine aN (bd (cZ (bj (bI (aG rfl (bo (bL rfl (bo (w_eq eq_str ⟨_,rfl,λz=>?_,λ_=>?_⟩)))))))))
  ·exact absurd z (by decide+kernel)
  refine aN (bd (cZ (bj (bI (aG rfl (bo (bL rfl (bo (w_eq eq_str ⟨_,rfl,λ_=>?_,λz=>?_⟩)))))))))
  ·refine bC (d6 (af (bh (af (bo (af (bo (ao ?_))))))));refine af (bh (af (bI (aG rfl (bo (bL rfl (af (bh (af (bh (af (bo (af (bo (ao (ao (ao ?_)))))))))))))))));exact af (bh (af (bI (aG rfl (bo (bL rfl (af (bh (ao (ao (ao (o0 ⟨rfl,oG (bD (h _ _ (.one _ _) (.br a b aD)))⟩))))))))))))
  ·exact absurd z (by decide+kernel)
 |rk a b=>
  walk_at "call0"
  refine cZ (bj (bI (aG rfl (bo (bL rfl (bo (w_eq eq_str ⟨_,rfl,λz=>?_,λ_=>?_⟩)))))))
  ·exact absurd z (by decide+kernel)
  refine aN (bd (cZ (bj (bI (aG rfl (bo (bL rfl (bo (w_eq eq_str ⟨_,rfl,λz=>?_,λ_=>?_⟩)))))))))
  ·exact absurd z (by decide+kernel)
  refine aN (bd (cZ (bj (bI (aG rfl (bo (bL rfl (bo (w_eq eq_str ⟨_,rfl,λz=>?_,λ_=>?_⟩)))))))))
  ·exact absurd z (by decide+kernel)
  refine aN (bd (bC (d6 (af (bo (af (bo ?_)))))));refine af (bh (af (bh (af (bo (af (bo (ao (af (bh (af (bo (af (bo (ao (ao ?_))))))))))))))));refine af (bh (af (bI (aG rfl (bo (bL rfl (af (bh (ao (ao ?_))))))))));refine af (cr (af (bh (af (bo (af (bh (af (bI (aG rfl (bo (bL rfl (af (bh (af (bh (af (bo (af (bo (ao (ao (ao (ao (ao (ao ?_))))))))))))))))))))))))));exact wn rfl (gB aD) ⟨rfl,bD (h _ _ ((Gr.one _ _).more _) (.rk a b aD))⟩
end
def Ki(st st':a9):Prop:=∀(m:Nat)(c:Str)(fs:List (Str×D)),st[m]? =some (.ins c fs)->st'[m]? =some (.ins c fs)
theorem t4(h:Gr st st'):Ki st st':=λ_ _ _ e=>h.at e
theorem Ki.trans{a b c:a9}(h:Ki a b)(k:Ki b c):Ki a c:=λm x fs e=>k m x fs (h m x fs e)
theorem ki_set(h:st[n]? =some (.lst xs)):Ki st (st.set n o):=λm c fs e=>by
 by_cases hm:n=m
 ·subst hm;rw[h] at e;cases e
 ·rw[aM hm];exact e
theorem yn{xs:List (Key×D)}(h:st[n]? =some (.dct xs)):Ki st (st.set n o):=λm c fs e=>by
 by_cases hm:n=m
 ·subst hm;rw[h] at e;cases e
 ·rw[aM hm];exact e
theorem EndAt.ki{e:En}(h:EndAt st n e)(k:Ki st st'):EndAt st' n e:=by
 cases h with
 |rs h=>exact .rs (k _ _ _ h)
 |jp a h=>exact .jp a (k _ _ _ h)
 |br a b h=>exact .br a b (k _ _ _ h)
 |rk a b h=>exact .rk a b (k _ _ _ h)
def CJ(i:Nat):List (Str×D):=hU (.int (3*(i:Int)+1)) (.str "copy") .non (.tup [.tup [.str "num",.int i]])
def CI:List (Str×D):=hU .non (.str "tick") .non (.tup [])
def jx(st:a9)(b i:Nat)(e:En):Prop:=∃r1 r2 n,st[b]? =some (.ins "Block" (jk (.tup [.int (3*(i:Int))]) (.tup [.ref r1,.ref r2]) (.ref n)))/\st[r1]? =some (.ins "Row" (CJ i))/\st[r2]? =some (.ins "Row" CI)/\EndAt st n e
theorem jx.ki{e:En}(h:jx st b i e)(k:Ki st st'):jx st' b i e:=by obtain⟨B,c,n,h1,J,I,F⟩:=h;exact⟨B,c,n,k _ _ _ h1,k _ _ _ J,k _ _ _ I,F.ki k⟩
def bz(is:List Nat):List (Key×D):=is.flatMap λ(i:Nat)=>[(.inl (3*(i:Int)),kT),(.inl (3*(i:Int)+1),kN)]
theorem cU{p:Key×D}(h:p∈bz is):∃i∈is,p=(.inl (3*(i:Int)),kT)∨p=(.inl (3*(i:Int)+1),kN):=by
 obtain⟨i,hi,c⟩:=List.mem_flatMap.mp h;refine⟨i,hi,?_⟩;rcases List.mem_cons.mp c with e|c
 ·exact .inl e
 ·exact .inr (List.mem_singleton.mp c)
theorem lX(is c:List Nat):bz (is++c)=bz is++bz c:=List.flatMap_append
theorem d3:∀is:List Nat,(bz is).length=2*is.length
 |[]=>rfl
 |i::is=>by show(bz is).length+1+1=_;rw[d3 is,List.length_cons];omega
theorem eU{k:Key}{v:D}(h:∀p∈kvs,p.1≠k):bP kvs k v=kvs++[(k,v)]:=by unfold bP;rw[if_neg];intro z;obtain⟨p,c,B⟩:=List.any_eq_true.mp z;exact h p c (of_decide_eq_true B)
theorem pP:∀{kvs:List (Key×D)}{k:Key},(∀p∈kvs,p.1≠k)->bH kvs k=none
 |[],_,_=>rfl
 |p::r,k,h=>by unfold bH;rw[if_neg (h p (.head _))];exact pP λq c=>h q (.tail _ c)
theorem i6(h:i∉is):∀p∈bz is,p.1≠ .inl (3*(i:Int)):=λp c z=>by
 obtain⟨j,B,e|e⟩:=cU c
 ·rw[e] at z;have:=Sum.inl.inj z;have:j=i:=by omega
  exact h (this▸B)
 ·rw[e] at z;have:=Sum.inl.inj z;omega
theorem lW(h:i∉is):bP (bP (bz is) (.inl (3*(i:Int))) kT) (.inl (3*(i:Int)+1)) kN=bz (is++[i]):=by
 rw[eU (i6 h),eU,List.append_assoc,lX]
 ·rfl
 ·intro p c z;rcases List.mem_append.mp c with c|c
  ·obtain⟨j,B,e|e⟩:=cU c
   ·rw[e] at z;have:=Sum.inl.inj z;omega
   ·rw[e] at z;have:=Sum.inl.inj z;have:j=i:=by omega
    exact h (this▸B)
  ·rw[List.mem_singleton.mp c] at z;have:=Sum.inl.inj z;omega
def gY(st:a9)(bs:List Nat)(L:List (Nat×En)):Prop:=bs.length=L.length/\∀(j b:Nat)(p:Nat×En),bs[j]? =some b->L[j]? =some p->jx st b p.1 p.2
theorem gY.ki{bs:List Nat}{L:List (Nat×En)}(h:gY st bs L)(k:Ki st st'):gY st' bs L:=⟨h.1,λj b p a c=>(h.2 j b p a c).ki k⟩
theorem gY.snoc{bs:List Nat}{L:List (Nat×En)}{p:Nat×En}(h:gY st bs L)(I:jx st b p.1 p.2):gY st (bs++[b]) (L++[p]):=by
 refine⟨by simp[h.1],λj b' F h1 c=>?_⟩
 by_cases hj:j<bs.length
 ·rw[aC hj] at h1;rw[aC (by rw[<-h.1];exact hj)] at c
  exact h.2 j b' F h1 c
 ·have B:j=bs.length:=by have:=(aw h1).1;simp at this;omega
  subst B;rw[aE (ac _),Nat.sub_self] at h1;rw[h.1,aE (ac _),Nat.sub_self] at c;cases h1;cases c;exact I
def dH(st:a9)(f:Nat)(L:List (Nat×En)):Prop:=∃kd kk bs,st[f]? =some (.ins "Function" (yD (.tup [kT]) kN (.ref kd) (.ref kk) (.tup (bs.map .ref))))/\st[kd]? =some (.dct (bz (L.map (·.1))))/\st[kk]? =some (.dct (bz (L.map (·.1))))/\gY st bs L
theorem dH.gr{f:Nat}{L:List (Nat×En)}(h:dH st f L)(k:Gr st st'):dH st' f L:=by obtain⟨B,c,bs,h1,J,I,F⟩:=h;exact⟨B,c,bs,k.at h1,k.at J,k.at I,F.ki (t4 k)⟩
noncomputable def num(G:List En):List (Nat×En):=(List.range G.length).zip G
theorem i4{G:List En}{e:En}(h:G[i]? =some e):(num G)[i]? =some (i,e):=by unfold num;rw[List.getElem?_zip_eq_some];exact⟨List.getElem?_range (aw h).1,h⟩
theorem dZ(G:List En):(num G).length=G.length:=by simp[num]
theorem jQ(G:List En):(num G).map (·.1)=List.range G.length:=by unfold num;rw[List.map_fst_zip];simp
theorem vT{G:List En}{e:En}(h:G[i]? =some e):(num G).take (i+1)=(num G).take i++[(i,e)]:=by rw[List.take_add_one,i4 h];rfl
theorem cW:∀(xs:List D)(k:Nat),(fh k xs).length=xs.length
 |[],_=>rfl
 |x::xs,k=>by rw[fh,List.length_cons,cW xs,List.length_cons]
section
variable{k n:Nat}{st:a9}{Q:D->a9->Prop}
theorem p6{G:List En}(hn:st[n]? =some (.lst (G.map En.d)))(hg:G.length<=9)(h:∀f st1,Gr st st1->dH st1 f (num G)->Q (.ref f) st1):Wv (calls tab (k+3) oV [.ref n] st) Q:=by
 walk_at "call0"
 refine ba (cr (ao (ba (e7 (jI (aG rfl ⟨_,rfl,?_⟩))))));have hlt:n<st.length:=(aw hn).1;have e1:(st++[O.lst []]).length=st.length+1:=by simp
 have hL:bV (.en n) (st++[O.lst []]++[O.dct []])=(G.map En.d).length:=by have:(st++[O.lst []]++[O.dct []])[n]? =some (.lst (G.map En.d)):=aV (aV hn);simp only[bV,this]
 refine cy (L:=fh 0 (G.map En.d)) (by rw[hL];simp[cW]) (λi loc st'=>(∃a b c,loc=[some (.ref n),some (.ref st.length),some (.ref (st.length+1)),a,b,c])/\Gr st st'/\∃bs,st'[st.length]? =some (.lst (bs.map .ref))/\st'[st.length+1]? =some (.dct (bz (List.range i)))/\gY st' bs ((num G).take i)) ?_ (λi loc st' Z=>?_) (λi z loc st' B Z=>?_) λloc st' Z=>?_
 ·refine⟨⟨_,_,_,by rw[e1];rfl⟩,(Gr.one _ _).more _,[],aV aD,by rw[<-e1];exact aD,rfl,λj b p a _=>by simp at a⟩
 ·obtain⟨_,g,_⟩:=Z;simp only[eK,g.at hn,cH,Nat.zero_add]
 ·obtain⟨⟨a,b,c,rfl⟩,g,bs,h1,J,I⟩:=Z;rw[cH] at B;cases hd:(G.map En.d)[i]? with
  |none=>rw[hd] at B;cases B
  |some d=>
   rw[hd] at B;rw[aj] at hd;cases he:G[i]? with
   |none=>rw[he] at hd;cases hd
   |some e=>
    rw[he] at hd;have hd:e.d=d:=ai hd;subst hd;have B:D.tup [.int ((0+i:Nat):Int),e.d]=z:=ai B;rw[Nat.zero_add] at B;subst B;have hi:i<G.length:=(aw he).1;have l1:st.length<st'.length:=(aw h1).1;have l2:st.length+1<st'.length:=(aw J).1;refine jH rfl ?_;refine ba (cr (af (d6 (af (bG (bG (bo (aG rfl (w_mul (by omega) (bo (w_add ?_)))))))))))
    refine af (bo (af (bo (af (bh (af (bh (af (bo (af (aG rfl (ao (ao (ao (zt ⟨rfl,?_⟩)))))))))))))));refine af (d6 (af (bo (af (bo (af (bo (af (bh (ao (ao (zt ⟨rfl,ao ?_⟩))))))))))));have U:Gr st' (st'++[O.ins "Row" (hU (.int (3*(i:Int)+1)) (.str "copy") .non (.tup [.tup [.str "num",.int i]]))]++[O.ins "Row" (hU .non (.str "tick") .non (.tup []))]++[O.lst [.ref st'.length,.ref (st'++[O.ins "Row" (hU (.int (3*(i:Int)+1)) (.str "copy") .non (.tup [.tup [.str "num",.int i]]))]).length]]):=((Gr.one _ _).more _).more _;refine eM (aG rfl (cF (U.at h1) (d6 (af (bh (af (bG (bo (aG rfl (w_mul (by omega) (ao ?_)))))))))))
    refine af (aG rfl (af (b_ (af (aG rfl (ao (u7 λne s2 g2 he2=>ao ?_)))))));refine sf rfl (gB (g2.at aD)) ⟨rfl,ce ((g2.more _).at (U.at h1)) ?_ ?_⟩
    ·rw[List.length_map,I.1];simp[num];omega
    have hB:jx (s2++[O.ins "Block" (jk (.tup [.int (3*(i:Int))]) (.tup [.ref st'.length,.ref (st'++[O.ins "Row" (hU (.int (3*(i:Int)+1)) (.str "copy") .non (.tup [.tup [.str "num",.int i]]))]).length]) (.ref ne))]) s2.length i e:=⟨_,_,ne,aD,(g2.more _).at (aV (aV aD)),(g2.more _).at (aV aD),he2.gr (.one _ _)⟩;have F:=U.trans (g2.more (.ins "Block" (jk (.tup [.int (3*(i:Int))]) (.tup [.ref st'.length,.ref (st'++[O.ins "Row" (hU (.int (3*(i:Int)+1)) (.str "copy") .non (.tup [.tup [.str "num",.int i]]))]).length]) (.ref ne))));obtain⟨s3,Y⟩:∃s3,s3=s2++[O.ins "Block" (jk (.tup [.int (3*(i:Int))]) (.tup [.ref st'.length,.ref (st'++[O.ins "Row" (hU (.int (3*(i:Int)+1)) (.str "copy") .non (.tup [.tup [.str "num",.int i]]))]).length]) (.ref ne))]:=⟨_,rfl⟩;rw[<-Y] at hB F ⊢;clear Y;have l3:=F.le;refine cN (bh (af (bo (ao (aG rfl (bG (bo (aG rfl (w_mul (by omega) (bY (sn (F.at J) (by omega)) rfl ?_ ?_))))))))))
    ·rw[d3];simp;omega
    refine cN (bh (af (bo (ao (aG rfl (bG (bG (bo (aG rfl (w_mul (by omega) (bo (w_add (bY (bK (by rw[aF];omega)) rfl ?_ ?_)))))))))))))
    ·rw[eU (i6 (by simp)),aB,d3];simp;omega
    rw[List.set_set,lW (by simp),<-List.range_succ]
    refine aN (bU ⟨⟨_,_,_,rfl⟩,((g.trans F).set (ac _)).set (Nat.le_succ _),bs++[s2.length],sn (by rw[bK (by omega),List.map_append];rfl) (by omega),bK (by rw[aF];omega),?_⟩)
    rw[vT he];exact((I.ki (t4 F)).snoc hB).ki ((ki_set (F.at h1)).trans (yn (sn (F.at J) (by omega))))
 ·obtain⟨⟨a,b,c,rfl⟩,g,bs,h1,J,I⟩:=Z;rw[cW,List.length_map] at J I;rw[List.take_of_length_le (by rw[dZ];exact ac _)] at I
  refine bd (bC (d6 (af (bh (af (bh (af (bo (ao (ao ?_))))))))));refine af (bh (af (bo (ao (af (aG rfl (af (aG rfl (ao (wq rfl J (gB h1) λkd kk s1 a1 a2 a3 U=>⟨rfl,bD ?_⟩))))))))));exact h _ _ (g.trans U) ⟨kd,kk,bs,a1,by rw[jQ];exact a2,by rw[jQ];exact a3,I.ki (t4 U)⟩
end
def Lf(st:a9)(l:Nat):Prop:=∃ns:List Int,st[l]? =some (.lst (ns.map .int))
structure Bu(l:Nat)(st st':a9):Prop where
 le:st.length<=st'.length
 same:∀i,i<st.length->i≠l->st'[i]? =st[i]?
theorem Bu.at{l:Nat}{a b:a9}(h:Bu l a b)(e:a[i]? =some o)(c:i≠l):b[i]? =some o:=by rw[h.same i (aw e).1 c];exact e
theorem Bu.trans{l:Nat}{a b c:a9}(h:Bu l a b)(k:Bu l b c):Bu l a c:=
 ⟨aR h.le k.le,λi hi B=>(k.same i (az hi h.le) B).trans (h.same i hi B)⟩
theorem Bu.gr{l:Nat}{a b:a9}(g:Gr a b):Bu l a b:=⟨g.le,λi hi _=>by obtain⟨t,rfl⟩:=g;rw[aC hi]⟩
theorem Bu.set{l:Nat}{a b:a9}(h:Bu l a b)(B:n=l∨a.length<=n):Bu l a (b.set n o):=
 ⟨by rw[aF];exact h.le,λi hi c=>by rw[aM (by omega)];exact h.same i hi c⟩
theorem wF(c:st[n]? =some (.lst xs))(B:st[m]? =some (.lst [])):dF 60 st (.ref n) (.ref m)=some (xs.isEmpty):=by
 by_cases h:n=m
 ·subst h;rw[c] at B;cases B;simp[dF,shape,c,cY]
 ·cases xs with
  |nil=>simp[dF,shape,c,B,cY]
  |cons x xs=>simp[dF,shape,c,B,cY]
section
variable{k l:Nat}{st:a9}{Q:D->a9->Prop}
theorem uZ(B:Lf st l)(h:∀w st1,Bu l st st1->Lf st1 l->Q (.int w) st1):Wv (calls tab (k+1) oU [.ref l] st) Q:=by
 obtain⟨ns,e⟩:=B;have c:l<st.length:=(aw e).1
 walk_at "call0"
 refine cZ (bj (aG rfl (cr (ao (w_eq (wF (aV e) aD) ⟨_,rfl,λz=>?_,λz=>?_⟩)))))
 ·exact bC (bo (oG (bD (h _ _ (.gr (.one _ _)) ⟨ns,aV e⟩))))
 ·cases ns with
  |nil=>cases z
  |cons a ns=>
   refine aN (bd (bC (uk (aG rfl ⟨l,_,_,rfl,aV e,bD (h _ _ ((Bu.gr (.one _ _)).set (.inl rfl)) ⟨ns,bK (by simp;omega)⟩)⟩))))
end
def Mk(st st':a9)(m:Nat):Prop:=∃zs:List Int,st'=st++[.lst (zs.map .int)]/\zs.length<=m
section
variable{k n:Nat}{st:a9}{Q:D->a9->Prop}
theorem rf{c m:Int}(h:∀r,Q (.int r) st):Wv (calls tab (k+1) m_ [.int c,.int m] st) Q:=by
 walk_at "call"
 exact h _
theorem pO{e:Ex}{ss:List S}{zs:List Int}{Q:Fl->a9->Prop}(B:loc[2]? =some (some (.ref st.length)))(F:zs.length<10000)(c:∀P:D->a9->Prop,(∀r,P (.int r) (st++[.lst (zs.map .int)]))->W (run g e loc (st++[.lst (zs.map .int)])) P)(h:∀r:Int,W (execs g ss loc (st++[.lst ((zs++[r]).map .int)])) Q):W (execs g (.app (.v 2) e::ss) loc (st++[.lst (zs.map .int)])) Q:=
 eM (aG B (cF aD (c _ λr=>ce aD (by rw[List.length_map];omega) (by rw[bM];have:=h r;rw[List.map_append] at this;exact this))))
theorem sL{cs:List Int}(hn:st[n]? =some (.lst (cs.map .int)))(hc:cs.length<=63)(h:∀m st',Lf st' m->Gr st st'->st.length<=m->Q (.ref m) st'):Wv (calls tab (k+2) kE [.ref n,.int 40] st) Q:=by
 walk_at "call0"
 refine ba (cr (ao (dL (aG rfl ⟨_,rfl,?_⟩))));have hL:bV (.at n) (st++[O.lst []])=(cs.map D.int).length:=by simp only[bV,aV hn]
 refine cy (L:=cs.map .int) (by rw[hL];exact ac _) (λi loc st'=>(∃a b c,loc=[some (.ref n),some (.int 40),some (.ref st.length),a,b,c])/\Mk st st' (40*i)) ⟨⟨_,_,_,rfl⟩,[],rfl,by simp⟩ (λi loc st' F=>by obtain⟨_,zs,rfl,_⟩:=F;simp only[eK,aV hn]) (λi z loc st' B F=>?_) λloc st' F=>?_
 ·obtain⟨⟨a,b,c,rfl⟩,hM⟩:=F
  have hi:i<cs.length:=by have:=(aw B).1;rwa [List.length_map] at this
  obtain⟨v,_,rfl⟩:=List.mem_map.mp (ak B);refine ba (aG rfl (dL (bo ⟨_,cz (by decide),?_⟩)))
  refine cy (L:=bN 40) (ac _) (λj loc st'=>(∃(b:Int)(c:Option D),loc=[some (.ref n),some (.int 40),some (.ref st.length),some (.int v),some (.int b),c])/\Mk st st' (40*i+j)) ⟨⟨_,_,rfl⟩,hM⟩ (λ_ _ _ _=>rfl) (λj y loc I hy Z=>?_) λloc I Z=>?_
  ·obtain⟨⟨b2,c2,rfl⟩,zs,rfl,J⟩:=Z
   have hj:j<40:=by have:=(aw hy).1;rwa [bZ] at this
   have fin:∀r:Int,Mk st (st++[O.lst ((zs++[r]).map D.int)]) (40*i+(j+1)):=λr=>⟨_,rfl,by simp;omega⟩
   refine cZ (bj (aG rfl (bG (bo (bo (w_pow (by decide) (w_lt ⟨_,rfl,λ_=>?_,λ_=>?_⟩)))))))
   ·refine pO rfl (by omega) (λP U=>?_) λr=>?_
    ·exact bG (b_ (af (aG rfl (af (ca (af (aG rfl (ao (fU aD (ao (rf λr=>bo (w_mod (by decide) (U _)))))))))))))
    exact aN (bd (aN (bU ⟨⟨_,_,rfl⟩,fin r⟩)))
   ·refine cZ (bj (aG rfl (bo (zQ ⟨_,rfl,λ_=>?_,λ_=>?_⟩))))
    ·refine pO rfl (by omega) (λP U=>?_) λr=>?_
     ·exact bG (aG rfl (bo (w_mod (by decide) (U _))))
     exact ba (bG (aG rfl (bo (mC (by decide) (aN (bd (aN (bd (aN (bU ⟨⟨_,_,rfl⟩,fin r⟩))))))))))
    ·exact aN (bd (aN (bd (aN (bU ⟨⟨_,_,rfl⟩,zs,rfl,by omega⟩)))))
  ·obtain⟨⟨b2,c2,rfl⟩,Y⟩:=Z;rw[bZ] at Y;exact bd (aN (bU ⟨⟨_,_,_,rfl⟩,Y⟩))
 ·obtain⟨⟨a,b,c,rfl⟩,zs,rfl,J⟩:=F;rw[List.length_map] at J;refine bd (j3 (λm' loc st'=>∃zs:List Int,st'=st++[.lst (zs.map .int)]/\zs.length<=3000/\m'=40 - zs.length/\loc=[some (.ref n),some (.int 40),some (.ref st.length),a,b,c]) (40 - zs.length) (by omega) ⟨zs,rfl,by omega,rfl,rfl⟩ λm' loc I F=>?_)
  obtain⟨ys,rfl,hy,rfl,rfl⟩:=F;refine bj (ca (af (aG rfl (ao (fU aD (aG rfl (w_lt ⟨_,rfl,λB=>?_,λB=>?_⟩)))))))
  ·have B:((ys.map D.int).length:Int)<40:=of_decide_eq_true B;rw[List.length_map] at B;refine⟨40 - ys.length - 1,by omega,?_⟩
   refine pO rfl (by omega) (λP U=>?_) λr=>?_
   ·exact bG (b_ (af (ca (af (aG rfl (ao (fU aD (af (aG rfl (ao (rf λr=>bo (w_mod (by decide) (U _)))))))))))))
   exact aN (bU ⟨ys++[r],rfl,by simp;omega,by simp;omega,rfl⟩)
  ·refine bC (pL (aG rfl (aG rfl ⟨_,rfl,B7 aD (bD (h _ _ ?_ ((Gr.one _ _).more _) (by simp)))⟩)))
   refine⟨((ys.drop (HT.cG (ys.map D.int).length 0 none)).take (HT.cG (ys.map D.int).length (ys.map D.int).length (some 40) - HT.cG (ys.map D.int).length 0 none)),?_⟩;rw[aD];unfold cutD;rw[List.map_take,List.map_drop]
end
noncomputable def iO(n:Nat)(G:List En):Prop:=∀e∈G,∀a∈e.fol,1<=a/\a<n
theorem iq(h:(bN n)[i]? =some x):i<n/\x=.int (i:Int):=by
 have hi:i<n:=by have:=(aw h).1;rwa [bZ] at this
 refine⟨hi,?_⟩;have:(bN n)[i]? =some (.int (i:Int)):=by simp[bN,hi]
 rw[this] at h;exact(ai h).symm
section
variable{k l:Nat}{st:a9}{Q:D->a9->Prop}
theorem Ak(hn:1<=n/\n<=9)(hl:Lf st l)(h:∀G m st1,Bu l st st1->G.length=n->iO n G->st.length<=m->st1[m]? =some (.lst (G.map En.d))->Q (.ref m) st1):Wv (calls tab (k+2) oW [.ref l,.int n] st) Q:=by
 have hlt:l<st.length:=by obtain⟨ns,e⟩:=hl;exact(aw e).1
 walk_at "call0"
 refine ba (cr (ao (dL (aG rfl ⟨_,cz (by omega),?_⟩))))
 rw[Int.toNat_natCast];refine cy (L:=bN n) (ac _) (λi loc st'=>(∃a b c d,loc=[some (.ref l),some (.int n),some (.ref st.length),a,b,c,d])/\Bu l st st'/\Lf st' l/\∃G,G.length=i/\iO n G/\st'[st.length]? =some (.lst (G.map En.d))) ⟨⟨_,_,_,_,rfl⟩,.gr (.one _ _),by obtain⟨ns,e⟩:=hl;exact⟨ns,aV e⟩,[],rfl,λe he=>(nomatch he),aD⟩ (λ_ _ _ _=>rfl) (λi x loc st' Z hI=>?_) λloc st' hI=>?_
 ·obtain⟨⟨a,b,c,d,rfl⟩,hb,hf,G,hG,I,hm⟩:=hI;obtain⟨hi,rfl⟩:=iq Z;have hne:st.length≠l:=by omega
  refine ba (b_ (af (aG rfl (ao (uZ hf λw st1 hb1 hf1=>?_)))));have F:=hb1.at hm hne;have hb2:=hb.trans hb1;have B:0<(if((n:Int) - 1)>1 then((n:Int) - 1) else 1):=by split<;>omega
  obtain⟨M,hM⟩:∃M,M=(if((n:Int) - 1)>1 then((n:Int) - 1) else 1):=⟨_,rfl⟩
  have hM2:2<=n->M=(n:Int) - 1:=λz=>by rw[hM];split<;>omega
  rw[<-hM] at B;refine ba (bG (bo (bG (bG (aG rfl (bo (mC (by omega) (ca (af (bo (af (bG (aG rfl (bo (w_sub (ao (um ?_)))))))))))))))))
  rw[<-hM];refine w_mod B (w_add ?_);refine ba (bG (bo (bG (bG (aG rfl (bo (mC (by omega) (ca (af (bo (af (bG (aG rfl (bo (w_sub (ao (um ?_)))))))))))))))))
  rw[<-hM];refine w_mod B (w_add ?_);have o1:=Int.emod_nonneg (w / 8) (Int.ne_of_gt B);have o2:=Int.emod_lt_of_pos (w / 8) B;have o3:=Int.emod_nonneg (w / 100) (Int.ne_of_gt B);have o4:=Int.emod_lt_of_pos (w / 100) B;obtain⟨p,hp⟩:∃p,p=1+w / 8 % M:=⟨_,rfl⟩;obtain⟨q,hq⟩:∃q,q=1+w / 100 % M:=⟨_,rfl⟩;rw[<-hp,<-hq];have hq2:2<=n->1<=q/\q<n:=λz=>by have:=hM2 z;omega
  have fin:∀(e:En)(d:D)(one:Int),d=e.d->(∀a∈e.fol,1<=a/\a<n)->Kf (λloc st'=>(∃a b c d,loc=[some (.ref l),some (.int n),some (.ref st.length),a,b,c,d])/\Bu l st st'/\Lf st' l/\∃G,G.length=i+1/\iO n G/\st'[st.length]? =some (.lst (G.map En.d))) (Kn (calls tab (k+1)) [.ret (.v 2)] (Kr Q)) (.nx [some (.ref l),some (.int n),some (.ref st.length),some (.int i),some (.int w),some (.int one),some (.int q)]) (st1.set st.length (.lst (G.map En.d++[d]))):=λe d one hd he=>by
   refine bU ⟨⟨_,_,_,_,rfl⟩,hb2.set (.inr (ac _)),?_,G++[e],by simp[hG],λx Z=>?_,?_⟩
   ·obtain⟨ns,e⟩:=hf1;exact⟨ns,sn e hne⟩
   ·rcases List.mem_append.mp Z with Z|Z
    ·exact I x Z
    ·rw[List.mem_singleton.mp Z];exact he
   ·rw[bK (aw F).1,List.map_append,hd];rfl
  have Y:(G.map En.d).length<1000000:=by rw[List.length_map];omega
  have rest:∀one:Int,(2<=n->1<=one/\one<n)->W (execs (calls tab (k+1)) [.ite (.or (.cmp .Eq (.v 1) (.c (.int (1)))) (.cmp .Eq (.bin .mod (.v 4) (.c (.int (8)))) (.c (.int (7))))) [.app (.v 2) (.tup [(.c (.str "raise"))])] [.ite (.cmp .Eq (.bin .mod (.bin .mod (.v 4) (.c (.int (8)))) (.c (.int (2)))) (.c (.int (0)))) [.app (.v 2) (.tup [(.c (.str "jump")),(.v 5)])] [.ite (.cmp .Eq (.bin .mod (.v 4) (.c (.int (8)))) (.c (.int (1)))) [.app (.v 2) (.tup [(.c (.str "branch")),(.v 5),(.v 6)])] [.app (.v 2) (.tup [(.c (.str "risk")),(.v 5),(.v 6)])]]]] [some (.ref l),some (.int n),some (.ref st.length),some (.int i),some (.int w),some (.int one),some (.int q)] st1) (Kf (λloc st'=>(∃a b c d,loc=[some (.ref l),some (.int n),some (.ref st.length),a,b,c,d])/\Bu l st st'/\Lf st' l/\∃G,G.length=i+1/\iO n G/\st'[st.length]? =some (.lst (G.map En.d))) (Kn (calls tab (k+1)) [.ret (.v 2)] (Kr Q))):=λone ho=>by
   have rs:∀{ss:List S}{K:Fl->a9->Prop},(∀J,J=st1.set st.length (.lst (G.map En.d++[.tup [.str "raise"]]))->W (execs (calls tab (k+1)) ss [some (.ref l),some (.int n),some (.ref st.length),some (.int i),some (.int w),some (.int one),some (.int q)] J) K)->W (execs (calls tab (k+1)) (.app (.v 2) (.tup [(.c (.str "raise"))])::ss) [some (.ref l),some (.int n),some (.ref st.length),some (.int i),some (.int w),some (.int one),some (.int q)] st1) K:=λh=>eM (aG rfl (cF F (bh (af (bo (ao (ce F Y (h _ rfl))))))));refine cZ (w_or (bj (aG rfl (bo (gM ⟨_,rfl,λz=>?_,λz=>?_⟩)))))
   ·refine⟨_,rfl,λ_=>?_,λz=>nomatch z⟩;refine rs λJ e2=>aN (bd (aN ?_));rw[e2];exact fin .rs _ one rfl λa U=>nomatch U
   have hn1:¬((n:Int)=1):=of_decide_eq_false z;have hn2:2<=n:=by omega
   obtain⟨p1,p2⟩:=ho hn2;obtain⟨q1,q2⟩:=hq2 hn2;have e1:((one.toNat:Nat):Int)=one:=by omega
   have e2:((q.toNat:Nat):Int)=q:=by omega
   refine bj (bG (aG rfl (bo (w_mod (by omega) (bo (gM ⟨_,rfl,λ_=>?_,λ_=>?_⟩))))))
   ·refine rs λJ e2=>aN (bd (aN ?_));rw[e2];exact fin .rs _ one rfl λa U=>nomatch U
   refine cZ (bj (bG (bG (aG rfl (bo (w_mod (by omega) (bo (w_mod (by omega) (bo (gM ⟨_,rfl,λ_=>?_,λ_=>?_⟩))))))))))
   ·refine eM (aG rfl (cF F (bh (af (bo (af (aG rfl (ao (ce F Y (aN (bd (aN (bd (aN ?_))))))))))))));exact fin (.jp one.toNat) _ one (by simp only[En.d,e1]) λa U=>by rw[List.mem_singleton.mp U];omega
   refine cZ (bj (bG (aG rfl (bo (w_mod (by omega) (bo (gM ⟨_,rfl,λ_=>?_,λ_=>?_⟩)))))))
   ·refine eM (aG rfl (cF F (bh (af (bo (af (aG rfl (af (aG rfl (ao (ce F Y (aN (bd (aN (bd (aN (bd (aN ?_))))))))))))))))));exact fin (.br one.toNat q.toNat) _ one (by simp only[En.d,e1,e2]) λa U=>by simp only[En.fol,List.mem_cons,List.not_mem_nil,or_false] at U;omega
   ·refine eM (aG rfl (cF F (bh (af (bo (af (aG rfl (af (aG rfl (ao (ce F Y (aN (bd (aN (bd (aN (bd (aN ?_))))))))))))))))));exact fin (.rk one.toNat q.toNat) _ one (by simp only[En.d,e1,e2]) λa U=>by simp only[En.fol,List.mem_cons,List.not_mem_nil,or_false] at U;omega
  refine cZ (w_and (bj (bG (aG rfl (bo (w_mod (by omega) (bo (w_lt ⟨_,rfl,λ_=>?_,λ_=>?_⟩))))))))
  ·refine bj (bG (aG rfl (bo (w_add (aG rfl (w_lt ⟨_,rfl,λz=>?_,λ_=>?_⟩))))))
   ·have z:(i:Int)+1<n:=of_decide_eq_true z;exact ba (bG (aG rfl (bo (w_add (aN (bd (rest _ λ_=>by omega)))))))
   ·exact aN (bd (rest p λz=>by have:=hM2 z;omega))
  ·exact⟨_,rfl,λz=>(nomatch z),λ_=>aN (bd (rest p λz=>by have:=hM2 z;omega))⟩
 ·obtain⟨⟨a,b,c,d,rfl⟩,hb,hf,G,hG,I,hm⟩:=hI;rw[bZ] at hG;exact bd (bC (aG rfl (bD (h G _ _ hb hG I (ac _) hm))))
end
noncomputable abbrev mT:List (Str×Nat):=[("Row",24),("Jump",27),("Branch",31),("Raise",35),("Risk",38),("Block",42),("Function",45)]
noncomputable def vh(i:Nat):D:= .tup [.int (3*(i:Int)+1),.str "copy",.non,.tup [.tup [.str "num",.int i]]]
noncomputable def vg:D:= .tup [.non,.str "tick",.non,.tup []]
def tW(i:Nat)(e:En):D:= .tup [.tup [.int (3*(i:Int))],.tup [vh i,vg],e.tl]
theorem yE{b c:D}{d:D}(B:st1[p]? =some (.ins "Block" (jk a b c)))(i:Nat)(hi:(jk a b c)[i]? =some (f,d))(q:P d)(hk:(((jk a b c).take i).map (·.1)).contains f=false:=by(simp only[jk,List.take_succ_cons,List.take_zero,List.map_cons,List.map_nil];decide+kernel)):∃n c fs d,D.ref p=.ref n/\st1[n]? =some (.ins c fs)/\fs.lookup f=some d/\c∈(["Block"]:List Str)/\P d:=⟨p,_,_,d,rfl,B,lk i hi hk,.head _,q⟩
theorem kI{g b l:D}{d:D}(B:st1[p]? =some (.ins "Function" (yD t g a b l)))(i:Nat)(hi:(yD t g a b l)[i]? =some (f,d))(q:P d)(hk:(((yD t g a b l).take i).map (·.1)).contains f=false:=by(simp only[yD,List.take_succ_cons,List.take_zero,List.map_cons,List.map_nil];decide+kernel)):∃n c fs d,D.ref p=.ref n/\st1[n]? =some (.ins c fs)/\fs.lookup f=some d/\c∈(["Function"]:List Str)/\P d:=⟨p,_,_,d,rfl,B,lk i hi hk,.head _,q⟩
theorem C5{m:Str}{b c:D}{ms:List (Str×Nat)}{P:Nat->Nat->Prop}(B:st1[p]? =some (.ins "Block" (jk a b c)))(F:ms.lookup ("Block":Str)=some j)(q:P p j)(hk:((jk a b c).map (·.1)).contains m=false:=by(simp only[jk,List.map_cons,List.map_nil];decide+kernel)):∃n c fs j,D.ref p=.ref n/\st1[n]? =some (.ins c fs)/\fs.lookup m=none/\ms.lookup c=some j/\P n j:=⟨p,_,_,j,rfl,B,jS hk,F,q⟩
theorem DV{m:Str}{g b l:D}{ms:List (Str×Nat)}{P:Nat->Nat->Prop}(B:st1[p]? =some (.ins "Function" (yD t g a b l)))(F:ms.lookup ("Function":Str)=some j)(q:P p j)(hk:((yD t g a b l).map (·.1)).contains m=false:=by(simp only[yD,List.map_cons,List.map_nil];decide+kernel)):∃n c fs j,D.ref p=.ref n/\st1[n]? =some (.ins c fs)/\fs.lookup m=none/\ms.lookup c=some j/\P n j:=⟨p,_,_,j,rfl,B,jS hk,F,q⟩
section
variable{k n r:Nat}{st:a9}{Q:D->a9->Prop}{loc:Loc}{a:Ex}
theorem zm{e:En}(h:W (run (calls tab (k+1)) a loc st) λx st1=>∃n,x=.ref n/\EndAt st1 n e/\Q e.tl st1):W (run (calls tab (k+1)) (.meth a "told" mT []) loc st) Q:=by
 refine cQ (h.mono λx st1 c=>?_);obtain⟨n,rfl,hr,q⟩:=c;cases hr with
 |rs hh=>
  refine rO hh rfl (ao ?_)
  walk_at "call0"
  exact bC (bh (af (bo (af (aU (aG rfl (gS hh 0 rfl (ao (bD q)))))))))
 |jp a hh=>
  refine rO hh rfl (ao ?_)
  walk_at "call0"
  exact bC (bh (af (bo (af (aU (aG rfl (gS hh 0 rfl (ao (bD q)))))))))
 |br a b hh=>
  refine rO hh rfl (ao ?_)
  walk_at "call0"
  refine bC (bh (af (bo (af (aU (aG rfl (gS hh 0 rfl ?_)))))));refine af (aU (aG rfl (gS hh 1 rfl ?_)));refine af (aU (aG rfl (gS hh 2 rfl ?_)));exact ao (bD q)
 |rk a b hh=>
  refine rO hh rfl (ao ?_)
  walk_at "call0"
  refine bC (bh (af (bo (af (aU (aG rfl (gS hh 0 rfl ?_)))))));refine af (aU (aG rfl (gS hh 1 rfl ?_)));refine af (aU (aG rfl (gS hh 2 rfl ?_)));refine af (aU (aG rfl (gS hh 3 rfl ?_)));refine af (aU (aG rfl (gS hh 4 rfl ?_)));exact ao (bD q)
theorem s_row{a o:D}(c:st[r]? =some (.ins "Row" (hU a o e x)))(h:Q (.tup [a,o,e,x]) st):Wv (calls tab (k+1) qu [.ref r] st) Q:=by
 walk_at "call0"
 refine bC (bh (af (aU (aG rfl (gS c 0 rfl ?_)))));refine af (aU (aG rfl (gS c 1 rfl ?_)));refine af (aU (aG rfl (gS c 2 rfl ?_)));refine af (aU (aG rfl (gS c 3 rfl ?_)));exact ao (bD h)
theorem vb{e:En}(Z:jx st r i e)(h:∀st1,Gr st st1->Q (tW i e) st1):Wv (calls tab (k+2) nc [.ref r] st) Q:=by
 obtain⟨U,J,n,h1,I,F,h4⟩:=Z
 walk_at "call0"
 refine bC (bh (af (aU (aG rfl (yE h1 0 rfl ?_)))));refine af (ca (af (d7 (aU (aG rfl (yE h1 1 rfl ⟨_,rfl,?_⟩))))));refine bS (L:=[.ref U,.ref J]) (by show(2:Nat)<=1000000;decide) (ac _) (λY acc st1=>Gr st st1/\acc=[vh i,vg].take Y) ⟨.refl _,rfl⟩ (λ_ _ _ _=>rfl) (λj x acc st1 c B=>?_) λacc st1 B=>?_
 ·obtain⟨g,rfl⟩:=B
  match j,c with
  |0,c=>
   cases c;exact gN (cQ (aG rfl (rO (g.at I) rfl (ao (s_row (g.at I) ⟨g,rfl⟩)) (by simp only[CJ,hU,List.map_cons,List.map_nil];decide+kernel))))
  |1,c=>
   cases c;exact gN (cQ (aG rfl (rO (g.at F) rfl (ao (s_row (g.at F) ⟨g,rfl⟩)) (by simp only[CI,hU,List.map_cons,List.map_nil];decide+kernel))))
  |j+2,c=>simp at c
 ·obtain⟨g,rfl⟩:=B;refine ao (fT aD ?_);refine af (zm (e:=e) (aU (aG rfl (yE ((g.more _).at h1) 2 rfl ⟨n,rfl,h4.gr (g.more _),ao (bD (h _ (g.more _)))⟩))))
noncomputable def BV(is:List Nat):List Int:=is.flatMap λ(i:Nat)=>[3*(i:Int),3*(i:Int)+1]
theorem kB:∀is:List Nat,l0 (bz is)=some (BV is)
 |[]=>rfl
 |i::is=>by show((((l0 (bz is)).map λns=>(3*(i:Int)+1)::ns)).map λns=>(3*(i:Int))::ns)=_;rw[kB is];rfl
theorem vU{x:Int}(h:x∈BV is):∃i∈is,x=3*(i:Int)∨x=3*(i:Int)+1:=by
 obtain⟨i,hi,c⟩:=List.mem_flatMap.mp h;refine⟨i,hi,?_⟩;rcases List.mem_cons.mp c with e|c
 ·exact .inl e
 ·exact .inr (List.mem_singleton.mp c)
theorem zh:∀{is:List Nat},is.Pairwise (· < ·)->(BV is).Pairwise (· < ·)
 |[],_=>.nil
 |i::is,h=>by
  obtain⟨h1,I⟩:=List.pairwise_cons.mp h;have F:=zh I;show(3*(i:Int)::(3*(i:Int)+1)::BV is).Pairwise (· < ·);refine List.pairwise_cons.mpr ⟨λx c=>?_,List.pairwise_cons.mpr ⟨λx c=>?_,F⟩⟩
  ·rcases List.mem_cons.mp c with rfl|c
   ·omega
   ·obtain⟨j,B,e⟩:=vU c;have:=h1 j B;omega
  ·obtain⟨j,B,e⟩:=vU c;have:=h1 j B;omega
def DW(is:List Nat):List D:=((BV is).zip (bz is)).map λp=>.tup [.int p.1,p.2.2]
def qX(G:List En):D:= .tup [.tup [kT],kN,.tup (DW (List.range G.length)),.tup ((num G).map λp=>tW p.1 p.2)]
theorem uY{G:List En}(hg:G.length<=9)(hf:dH st r (num G))(h:∀st1,Gr st st1->Q (qX G) st1):Wv (calls tab (k+3) jD [.ref r] st) Q:=by
 obtain⟨kd,kk,bs,h1,h2,Z,B⟩:=hf;rw[jQ] at Z;have F:=B.1;rw[dZ] at F
 walk_at "call0"
 refine ba (ca (af (yY (aU (aG rfl (kI h1 3 rfl ⟨kk,_,_,rfl,Z,kB _,⟨zh List.pairwise_lt_range,by rw[d3];simp;omega⟩,ao (fT aD ?_)⟩))))))
 refine bC (bh (af (aU (aG rfl (kI (aV h1) 0 rfl ?_)))));refine af (aU (aG rfl (kI (aV h1) 1 rfl ?_)));refine af (aG rfl (af (ca (af (d7 (aU (aG rfl (kI (aV h1) 4 rfl ⟨_,rfl,?_⟩))))))));refine bS (L:=bs.map .ref) (by show(bs.map D.ref).length<=1000000;rw[List.length_map];omega) (ac _) (λi acc st1=>Gr st st1/\acc=((num G).take i).map λp=>tW p.1 p.2) ⟨.one _ _,rfl⟩ (λ_ _ _ _=>rfl) (λj x acc st1 c I=>?_) λacc st1 I=>?_
 ·obtain⟨g,rfl⟩:=I;rw[aj] at c;cases hb:bs[j]? with
  |none=>rw[hb] at c;cases c
  |some b=>
   rw[hb] at c;cases c;have hj:j<(num G).length:=by rw[<-B.1];exact(aw hb).1
   have U:(num G)[j]? =some (num G)[j]:=ag hj;have Y:=(B.2 j b _ hb U).ki (t4 g);have J:=Y;obtain⟨r1,r2,n,e1,_⟩:=J;refine gN (cQ (aG rfl (C5 e1 rfl (ao (vb Y λst2 g2=>⟨g.trans g2,?_⟩)))));rw[List.take_add_one,U,List.map_append];rfl
 ·obtain⟨g,rfl⟩:=I;refine ao (fT aD (ao (bD ?_)))
  have:qX G=.tup [.tup [kT],kN,.tup (DW (List.range G.length)),.tup (((num G).take (bs.map D.ref).length).map λp=>tW p.1 p.2)]:=by
   rw[List.take_of_length_le (by rw[List.length_map,B.1];exact ac _)]
   rfl
  rw[<-show((BV (List.range G.length)).zip (bz (List.range G.length))).map (λp=>D.tup [.int p.1,p.2.2])=DW (List.range G.length) from rfl] at this;rw[<-this];exact h _ (g.more _)
end
noncomputable abbrev mE:List (Str×Nat):=[("Jump",29),("Branch",33),("Raise",25),("Risk",40)]
def eD:En->List D
 | .rs=>[]
 | .jp a=>[.tup [eg a [],.bl false]]
 | .br a b=>[.tup [eg a [mZ 3],.bl false],.tup [eg b [],.bl false]]
 | .rk a b=>[.tup [eg a [],.bl true],.tup [eg b [mZ 4],.bl false]]
noncomputable def wy(e:En):List Nat:=match e.fol with
 |[a,b]=>if a=b then [a] else if a<b then [a,b] else [b,a]
 |l=>l
theorem Cw(a b:Int):Tab23.iU [a,b]=if a=b then [a] else if a<b then [a,b] else [b,a]:=by
 by_cases h:a=b
 ·subst h;rw[if_pos rfl];simp[Tab23.iU,Tab23.dM,Tab23.insI]
 ·rw[if_neg h];have c:¬b=a:=λz=>h z.symm;by_cases h3:a<b
  ·rw[if_pos h3];simp[Tab23.iU,Tab23.dM,Tab23.insI,c,Int.le_of_lt h3]
  ·rw[if_neg h3];have:¬a<=b:=by omega
   simp[Tab23.iU,Tab23.dM,Tab23.insI,c,this]
noncomputable def zs(l:List Nat):List Int:=l.map λ(a:Nat)=>(a:Int)
theorem uR(e:En):Tab23.iU (zs e.fol)=zs (wy e):=by
 have two:∀a b:Nat,Tab23.iU [(a:Int),(b:Int)]=zs (if a=b then [a] else if a<b then [a,b] else [b,a]):=λa b=>by
  rw[Cw];by_cases h:a=b
  ·rw[if_pos h,if_pos (by rw[h])];rfl
  ·rw[if_neg h,if_neg (λz=>h (Int.ofNat_inj.mp z))];by_cases h2:a<b
   ·rw[if_pos h2,if_pos (Int.ofNat_lt.mpr h2)];rfl
   ·rw[if_neg h2,if_neg (λz=>h2 (Int.ofNat_lt.mp z))];rfl
 cases e with
 |rs=>rfl
 |jp a=>simp[zs,En.fol,wy,Tab23.iU,Tab23.dM,Tab23.insI]
 |br a b=>exact two a b
 |rk a b=>exact two a b
theorem ud{e:En}{a:Nat}:a∈wy e↔a∈e.fol:=by
 have two:∀x y:Nat,a∈(if x=y then [x] else if x<y then [x,y] else [y,x])↔a∈[x,y]:=λx y=>by
  by_cases h:x=y
  ·subst h;simp
  ·rw[if_neg h];by_cases h2:x<y
   ·rw[if_pos h2]
   ·rw[if_neg h2];simp[or_comm]
 cases e with
 |rs=>rfl
 |jp x=>rfl
 |br x y=>exact two x y
 |rk x y=>exact two x y
theorem Dz(e:En):(eD e).length<=2:=by cases e<;>simp[eD]
theorem kH(e:En):e.fol.length<=2:=by cases e<;>simp[En.fol]
section
variable{k n r:Nat}{st:a9}{Q:D->a9->Prop}{loc:Loc}{a:Ex}
theorem yj{e:En}(h:W (run (calls tab (k+1)) a loc st) λx st1=>∃n,x=.ref n/\EndAt st1 n e/\∀m c,Gr st1 c->c[m]? =some (.lst (eD e))->Q (.ref m) c):W (run (calls tab (k+1)) (.meth a "edges" mE []) loc st) Q:=by
 refine cQ (h.mono λx st1 J=>?_);obtain⟨n,rfl,hr,q⟩:=J;cases hr with
 |rs hh=>
  refine rO hh rfl (ao ?_)
  walk_at "call0"
  exact bC (cr (ao (bD (q _ _ (.one _ _) aD))))
 |jp a hh=>
  refine rO hh rfl (ao ?_)
  walk_at "call0"
  exact bC (cr (af (bh (af (aU (aG rfl (gS hh 0 rfl (af (bo (ao (ao (bD (q _ _ (.one _ _) aD)))))))))))))
 |br a b hh=>
  refine rO hh rfl (ao ?_)
  walk_at "call0"
  refine bC (cr (af (bh (af (aU (aG rfl (gS hh 1 rfl (af (bo (ao ?_))))))))));exact af (bh (af (aU (aG rfl (gS hh 2 rfl (af (bo (ao (ao (bD (q _ _ (.one _ _) aD)))))))))))
 |rk a b hh=>
  refine rO hh rfl (ao ?_)
  walk_at "call0"
  refine bC (bG (cr (af (bh (af (aU (aG rfl (gS hh 3 rfl (af (bo (ao (ao ?_))))))))))));refine jJ (aU (aG rfl (gS (aV hh) 4 rfl ⟨_,rfl,?_⟩)));refine bS (L:=[.tup [.str "zero",eg b [mZ 4]]]) (by show(1:Nat)<=1000000;decide) (ac _) (λi acc F=>F=st1++[.lst [.tup [eg a [],.bl true]]]/\acc=[D.tup [eg b [mZ 4],.bl false]].take i) ⟨rfl,rfl⟩ (λ_ _ _ _=>rfl) (λj x acc F B I=>?_) λacc F I=>?_
  ·obtain⟨rfl,rfl⟩:=I
   match j,B with
   |0,B=>cases B;exact jG (bh (af (aG rfl (af (bo (ao ⟨rfl,rfl⟩))))))
   |j+1,B=>simp at B
  ·obtain⟨rfl,rfl⟩:=I;exact mD (aV aD) aD (by show(2:Nat)<=1000000;decide) (bD (q _ _ (((Gr.one _ _).more _).more _) aD))
theorem y8{L:List (Nat×En)}{p:Nat×En}(hf:dH st r L)(hp:L[i]? =some p)(hb:∀a∈p.2.fol,a<10)(h:∀m st1,Gr st st1->st.length<=m->st1[m]? =some (.lst ((zs (wy p.2)).map .int))->Q (.ref m) st1):Wv (calls tab (k+2) oS [.ref r,.int i] st) Q:=by
 obtain⟨kd,kk,bs,h1,h2,h3,h4⟩:=hf;have hi:i<bs.length:=by rw[h4.1];exact(aw hp).1
 have J:bs[i]? =some bs[i]:=ag hi;obtain⟨r1,r2,n,e1,e2,e3,e4⟩:=h4.2 i _ p J hp
 walk_at "call0"
 have Y:qJ (bs.map D.ref) (i:Int)=some (.ref bs[i]):=by
  obtain⟨d,e,e'⟩:=wX (xs:=bs.map D.ref) (i:=(i:Int)) (by omega) (by rw[List.length_map];omega)
  rw[e];rw[Int.toNat_natCast,aj,J] at e';exact e'.symm
 refine bC (ui (jJ (yj (e:=p.2) (aU (bI (aU (aG rfl (kI h1 4 rfl (aG rfl (bL Y (yE e1 2 rfl ⟨n,rfl,e4,λm st1 g hm=>⟨_,rfl,?_⟩⟩)))))))))));have hL:bV (.at m) st1=(eD p.2).length:=by simp only[bV,hm]
 refine bS (L:=eD p.2) (by rw[hL];exact aR (Dz _) (by decide)) (by rw[hL];exact ac _) (λj acc I=>I=st1/\acc=((zs p.2.fol).map D.int).take j) ⟨rfl,rfl⟩ (λj acc I U=>by rw[U.1];simp only[eK,hm]) (λj x acc I B U=>?_) λacc I U=>?_
 ·obtain⟨rfl,rfl⟩:=U
  have tk:∀(a:Nat)(xs:List D)(b:Bool),x=.tup [eg a xs,.bl b]->((zs p.2.fol).map D.int)[j]? =some (.int a)->W (pairF (λx y=>run (calls tab (k+1)) (.ix (.v 0) (.c (.int (0)))) (some x::some y::[some (.ref r),some (.int i)])) x I) λo st1=>(I=st1/\(match o with|some y=>((zs p.2.fol).map D.int).take j++[y]|none=>((zs p.2.fol).map D.int).take j)=((zs p.2.fol).map D.int).take (j+1)):=λa xs b ex Z=>by subst ex;refine jG (bI (aG rfl (bo (bL rfl ⟨rfl,?_⟩))));rw[List.take_add_one,Z];rfl
  have fin:∀{o:Option D}{F:a9},(I=F/\(match o with|some y=>((zs p.2.fol).map D.int).take j++[y]|none=>((zs p.2.fol).map D.int).take j)=((zs p.2.fol).map D.int).take (j+1))->(F=I/\(match o with|some y=>((zs p.2.fol).map D.int).take j++[y]|none=>((zs p.2.fol).map D.int).take j)=((zs p.2.fol).map D.int).take (j+1)):=λz=>⟨z.1.symm,z.2⟩
  cases hp2:p.2 with
  |rs=>rw[hp2] at B;simp[eD] at B
  |jp a=>
   rw[hp2] at B tk fin
   match j,B with
   |0,B=>cases B;exact(tk a _ _ rfl rfl).mono λo F z=>fin z
   |j+1,B=>simp[eD] at B
  |br a b=>
   rw[hp2] at B tk fin
   match j,B with
   |0,B=>cases B;exact(tk a _ _ rfl rfl).mono λo F z=>fin z
   |1,B=>cases B;exact(tk b _ _ rfl rfl).mono λo F z=>fin z
   |j+2,B=>simp[eD] at B
  |rk a b=>
   rw[hp2] at B tk fin
   match j,B with
   |0,B=>cases B;exact(tk a _ _ rfl rfl).mono λo F z=>fin z
   |1,B=>cases B;exact(tk b _ _ rfl rfl).mono λo F z=>fin z
   |j+2,B=>simp[eD] at B
 ·obtain⟨rfl,rfl⟩:=U;have e5:((zs p.2.fol).map D.int).take (eD p.2).length=(zs p.2.fol).map D.int:=by cases p.2<;>rfl
  rw[e5];refine⟨zs p.2.fol,gB aD,by unfold zs;rw[List.length_map];exact kH _,λx B=>?_,?_⟩
  ·obtain⟨a,Z,rfl⟩:=List.mem_map.mp B;have:=hb a Z;omega
  ·rw[uR];exact bD (h _ _ ((g.more _).more _) (by simp;have:=g.le;omega) aD)
end
def ci(st:a9)(w:Nat)(Ws:List (List Nat)):Prop:=∃rs:List Nat,st[w]? =some (.lst (rs.map .ref))/\rs.length=Ws.length/\∀(j r:Nat)(ws:List Nat),rs[j]? =some r->Ws[j]? =some ws->st[r]? =some (.lst ((zs ws).map .int))
theorem ci.gr(h:ci st w Ws)(g:Gr st st'):ci st' w Ws:=by obtain⟨rs,h1,B,c⟩:=h;exact⟨rs,g.at h1,B,λj r ws a b=>g.at (c j r ws a b)⟩
theorem ci.bu{dn:Nat}(h:ci st w Ws)(hd:st[dn]? =some (.dct kv))(b:Bu dn st st'):ci st' w Ws:=by
 obtain⟨rs,h1,F,B⟩:=h;have ne:∀{i:Nat}{xs:List D},st[i]? =some (.lst xs)->i≠dn:=λe z=>by rw[z,hd] at e;cases e
 exact⟨rs,b.at h1 (ne h1),F,λj r ws a c=>b.at (B j r ws a c) (ne (B j r ws a c))⟩
noncomputable def wf(Ws:List (List Nat))(v:Nat):List Nat:=(Ws[v]?).getD []
theorem ik(h:Ws[v]? =some ws):wf Ws v=ws:=by unfold wf;rw[h];rfl
theorem cw{d:D}(h:xs[i]? =some d):qJ xs (i:Int)=some d:=by
 have hi:=(aw h).1;obtain⟨d',e,e'⟩:=wX (xs:=xs) (i:=(i:Int)) (by omega) (by omega)
 rw[Int.toNat_natCast,h] at e';rw[e,e']
theorem bf(l:List Nat):((zs l).map D.int).length=l.length:=by simp[zs]
theorem dj{a:Nat}(h:l[i]? =some a):((zs l).map D.int)[i]? =some (.int (a:Int)):=by unfold zs;rw[List.map_map,aj,h];rfl
theorem my{z:D}(h:((zs l).map D.int)[i]? =some z):∃a,l[i]? =some a/\z=.int (a:Int):=by have hi:=(aw h).1;rw[bf] at hi;have e:=ag hi;rw[dj e] at h;exact⟨_,e,(ai h).symm⟩
theorem m3(nd:l.Nodup)(h:l[j]? =some b):b∉l.take j:=λz=>by
 obtain⟨B,I⟩:=aw h;obtain⟨i,hi,c⟩:=List.getElem_of_mem z;rw[List.getElem_take] at c;rw[List.length_take] at hi;have h1:=nd.idxOf_getElem i (by omega)
 have F:=nd.idxOf_getElem j B;rw[c] at h1;rw[I] at F;omega
theorem dJ(l m:List Nat):(zs (l++m)).map D.int=(zs l).map D.int++(zs m).map D.int:=by simp[zs]
section
variable{k r:Nat}{st:a9}{Q:D->a9->Prop}
theorem uW{G:List En}(hg:G.length<=9)(F:∀e∈G,∀a∈e.fol,a<10)(hf:dH st r (num G))(h:∀m st1,Gr st st1->st.length<=m->ci st1 m (G.map wy)->Q (.ref m) st1):Wv (calls tab (k+3) tw [.ref r] st) Q:=by
 have U:=hf;obtain⟨kd,kk,bs,h1,h2,h3,h4⟩:=hf;have Y:bs.length=G.length:=by rw[h4.1,dZ]
 walk_at "call0"
 refine bC (d7 (ca (af (aU (aG rfl (kI h1 4 rfl (ao (g_ ⟨_,cz (by rw[List.length_map];omega),?_⟩))))))))
 rw[Int.toNat_natCast,List.length_map,Y];refine bS (L:=bN G.length) (by show(bN G.length).length<=1000000;rw[bZ];omega) (ac _) (λi acc st1=>Gr st st1/\∃rs:List Nat,acc=rs.map .ref/\rs.length=i/\∀(j r:Nat)(ws:List Nat),rs[j]? =some r->(G.map wy)[j]? =some ws->st1[r]? =some (.lst ((zs ws).map .int))) ⟨.refl _,[],rfl,rfl,λj r ws a _=>by simp at a⟩ (λ_ _ _ _=>rfl) (λi x acc st1 hx Z=>?_) λacc st1 Z=>?_
 ·obtain⟨g,rs,rfl,hi,c⟩:=Z;obtain⟨B,rfl⟩:=iq hx;have he:G[i]? =some G[i]:=ag B;refine gN (b_ (af (aG rfl (af (aG rfl (ao (y8 (U.gr g) (i4 he) (F _ (List.getElem_mem B)) λm st2 g2 hle hm=>?_)))))));refine⟨g.trans g2,rs++[m],by simp,by simp[hi],λj r ws I h6=>?_⟩
  by_cases hj:j<rs.length
  ·rw[aC hj] at I;exact g2.at (c j r ws I h6)
  ·have J:j=i:=by have:=(aw I).1;simp at this;omega
   subst J;rw[aE (by omega),hi,Nat.sub_self] at I
   cases I;rw[aj,he] at h6;cases h6;exact hm
 ·obtain⟨g,rs,rfl,hi,c⟩:=Z;rw[bZ] at hi;refine bD (h _ _ (g.more _) g.le ⟨rs,aD,by simp[hi],λj r ws a b=>aV (c j r ws a b)⟩)
noncomputable def pD(p:List (Nat×Nat)):List D:=p.reverse.map λq=>.tup [.int (q.1:Int),.int (q.2:Int)]
theorem jP(v i:Nat)(r:List (Nat×Nat)):pD ((v,i)::r)=pD r++[.tup [.int (v:Int),.int (i:Int)]]:=by simp[pD]
theorem qU{k c:Key}{v:D}(h:bH kvs k=none):bH (bP kvs k v) c=if k=c then some v else bH kvs c:=by
 have J:∀p∈kvs,p.1≠k:=by
  intro p F z
  have:∀{kvs:List (Key×D)},p∈kvs->bH kvs k≠none:=by
   intro kvs
   induction kvs with
   |nil=>intro h;cases h
   |cons q r B=>
    intro F;unfold bH;by_cases e:q.1=k
    ·rw[if_pos e];simp
    ·rw[if_neg e];rcases List.mem_cons.mp F with rfl|F
     ·exact absurd z e
     ·exact B F
  exact this F h
 rw[eU J]
 have:∀{kvs:List (Key×D)},bH kvs k=none->bH (kvs++[(k,v)]) c=if k=c then some v else bH kvs c:=by
  intro kvs
  induction kvs with
  |nil=>intro _;rfl
  |cons q r B=>
   intro I;unfold bH at I;by_cases e:q.1=k
   ·rw[if_pos e] at I;cases I
   ·rw[if_neg e] at I;have B:=B I;show bH (q::(r++[(k,v)])) c=_;unfold bH;by_cases e2:q.1=c
    ·rw[if_pos e2,if_pos e2,if_neg];intro z;exact e (e2.trans z.symm)
    ·rw[if_neg e2,if_neg e2];exact B
 exact this h
structure Gi(Ws:List (List Nat))(st0:a9)(dn:Nat)(pile:List (Nat×Nat))(O:List Nat)(kvs:List (Key×D))(st:a9):Prop where
 inv:Go.Inv (wf Ws) pile O
 bu:Bu dn st0 st
 o:st[st0.length]? =some (.lst ((zs O).map .int))
 p:st[st0.length+1]? =some (.lst (pD pile))
 d:st[dn]? =some (.dct kvs)
 ky:∀v:Nat,(bH kvs (.inl (v:Int))).isSome=decide (v∈Go.all pile O)
 kl:kvs.length=(Go.all pile O).length
 le:∀q∈pile,q.2<=(wf Ws q.1).length
 ln:(Go.all pile O).length+Go.left (wf Ws) Ws.length pile O<=60
end
theorem jW(h0:0<Ws.length)(B:∀v f,f∈wf Ws v->f<Ws.length)(h:Go.bm (wf Ws) v):v<Ws.length:=by
 cases h with
 |zero=>exact h0
 |next c h=>exact B _ _ h
theorem zY{f:Nat->Nat}(h:∀v,f v<=3):∀l:List Nat,(l.map f).sum<=3*l.length
 |[]=>ac _
 |x::l=>by rw[List.map_cons,List.sum_cons,List.length_cons];have:=zY h l;have:=h x;omega
theorem yk(F:Ws.length<=9)(B:∀v,(wf Ws v).length<=2):Go.left (wf Ws) Ws.length [(0,0)] []<=40:=by
 unfold Go.left;have a:=zY (f:=λv=>(wf Ws v).length+1) (λv=>by have:=B v;omega) ((List.range Ws.length).filter λv=>decide (v∉Go.all [(0,0)] []))
 have b:((List.range Ws.length).filter λv=>decide (v∉Go.all [(0,0)] [])).length<=Ws.length:=by have:=List.length_filter_le (λv=>decide (v∉Go.all [(0,0)] [])) (List.range Ws.length);rwa [List.length_range] at this
 have c:=B 0;simp only[List.map_cons,List.map_nil,List.sum_cons,List.sum_nil];omega
section
variable{k w dn:Nat}{st:a9}{Q:D->a9->Prop}
theorem p8(hW:ci st w Ws)(hn:0<Ws.length/\Ws.length<=9)(hw:∀v f,f∈wf Ws v->f<Ws.length)(h2:∀v,(wf Ws v).length<=2)(hd:st[dn]? =some (.dct []))
  (h:∀O m st1,Bu dn st st1->Go.Inv (wf Ws) [] O->O.length<=60->st.length<=m->st1[m]? =some (.lst ((zs O).map .int))->Q (.ref m) st1):Wv (calls tab (k+1) kC [.ref w,.int 0,.ref dn] st) Q:=by
 have hdl:dn<st.length:=(aw hd).1
 walk_at "call0"
 refine ba (cr (ao (cN (bo (aG rfl (aG rfl (bY (aV hd) rfl (by decide) ?_)))))))
 refine ba (cr (af (bh (af (aG rfl (af (bo (ao (ao ?_)))))))));have e1:((st++[O.lst []]).set dn (O.dct (bP [] (.inl 0) (.bl true)))).length=st.length+1:=by simp
 rw[e1];have b0:Bu dn st (((st++[O.lst []]).set dn (O.dct (bP [] (.inl 0) (.bl true))))++[O.lst [.tup [.int 0,.int 0]]]):=((Bu.gr (.one _ _)).set (.inl rfl)).trans (.gr (.one _ _))
 have g0:Gi Ws st dn [(0,0)] [] [(.inl 0,.bl true)] (((st++[O.lst []]).set dn (O.dct (bP [] (.inl 0) (.bl true))))++[O.lst [.tup [.int 0,.int 0]]]):=by
  refine⟨Go.i9,b0,aV (sn aD (by omega)),by rw[<-e1];exact aD,aV (bK (by simp;omega)),λv=>?_,rfl,λq B=>by rw[List.mem_singleton.mp B];exact Nat.zero_le _,?_⟩
  ·unfold bH;by_cases hv:v=0
   ·subst hv;rfl
   ·rw[if_neg (λz=>hv (by have:=Sum.inl.inj z;omega))]
    simp[bH,Go.all,hv]
  ·have:=yk hn.2 h2;simp only[Go.all,List.map_cons,List.map_nil,List.nil_append,List.length_cons,List.length_nil] at this ⊢;omega
 refine j3 (λm loc st'=>∃pile O kvs a b c,loc=[some (.ref w),some (.int 0),some (.ref dn),some (.ref st.length),some (.ref (st.length+1)),a,b,c]/\Gi Ws st dn pile O kvs st'/\Go.left (wf Ws) Ws.length pile O<=m) 1000 (by decide) ⟨_,_,_,_,_,_,rfl,g0,by have:=g0.ln;omega⟩ λm loc st' hI=>?_
 obtain⟨pile,O,kvs,a,b,c,rfl,G,hm⟩:=hI;have o1:st.length≠dn:=by omega
 have o2:st.length+1≠dn:=by omega
 refine bj (ca (af (aG rfl (ao (fU G.p (bo (zQ ⟨_,rfl,λz=>?_,λz=>?_⟩)))))))
 ·cases pile with
  |nil=>cases z
  |cons q r=>
   obtain⟨v,i⟩:=q;have dec:=Go.s_ (ways:=wf Ws) (n:=Ws.length) (v:=v) (i:=i) (r:=r) (O:=O) hw;have invS:=Go.we G.inv;have I:v<Ws.length:=jW hn.1 hw (G.inv.come v (by simp[Go.all]))
   have Y:Ws[v]? =some Ws[v]:=ag I;have F:wf Ws v=Ws[v]:=ik Y;obtain⟨rs,w1,w2,w3⟩:=hW.bu hd G.bu;have hrv:v<rs.length:=by omega
   have Z:rs[v]? =some rs[v]:=ag hrv;have w4:=w3 v _ _ Z Y;refine⟨m - 1,by omega,?_⟩
   have J:=G.p;rw[jP] at J;have lp:st.length+1<st'.length:=(aw J).1;have ld:dn<st'.length:=(aw G.d).1;refine ba (pN (aG rfl ⟨_,_,_,rfl,J,?_⟩));refine ba (bI (aG rfl (bo (bL rfl ?_))));have nw:∀{j:Nat}{xs:List D},st'[j]? =some (.lst xs)->j≠st.length+1->(st'.set (st.length+1) (.lst (pD r)))[j]? =some (.lst xs):=λe hne=>sn e (Ne.symm hne);have wlt:w<st.length:=by obtain⟨_,e,_⟩:=hW;exact(aw e).1
   have rlt:rs[v]<st.length:=by
    obtain⟨rs',e,e2,e3⟩:=hW;have hb:=G.bu.at e (λz=>by rw[z,hd] at e;cases e)
    rw[hb] at w1
    have:rs'=rs:=by have:=ai w1;have:=Ev.O.lst.inj this;exact(List.map_inj_right (λx y z=>D.ref.inj z)).mp this
    subst this;exact(aw (e3 v _ _ Z Y)).1
   have U:qJ (rs.map D.ref) (v:Int)=some (.ref rs[v]):=cw (by rw[aj,Z];rfl)
   refine cZ (bj (bI (aG rfl (bo (bL rfl (ca (af (bI (aG rfl (aG rfl (dk (nw w1 (by omega)) U (ao (fU (nw w4 (by omega)) (gM ⟨_,rfl,λz=>?_,λz=>?_⟩))))))))))))))
   ·have z:(i:Int)=(((zs Ws[v]).map D.int).length:Nat):=of_decide_eq_true z;rw[bf] at z;have hnone:(wf Ws v)[i]? =none:=by rw[F];exact aZ (by omega)
    have es:Go.step (wf Ws) ((v,i)::r) O=(r,O++[v]):=by simp only[Go.step,hnone]
    rw[es] at dec invS;refine eM (aG rfl (cF (nw G.o (by omega)) (aG rfl (ce (nw G.o (by omega)) ?_ (ut (zo (zq ⟨r,O++[v],kvs,_,_,_,rfl,?_,by dsimp only at dec;omega⟩)))))))
    ·rw[bf];have:=G.ln;simp only[Go.all,List.length_append] at this;omega
    ·have ea:Go.all r (O++[v])=Go.all ((v,i)::r) O:=Go.nF;refine⟨invS,(G.bu.set (.inr (by omega))).set (.inr (ac _)),?_,?_,?_,?_,?_,λq B=>G.le q (.tail _ B),?_⟩
     ·rw[bK (by rw[aF];omega),dJ];rfl
     ·exact sn (bK lp) (by omega)
     ·exact sn (sn G.d (by omega)) (by omega)
     ·rw[ea];exact G.ky
     ·rw[ea];exact G.kl
     ·rw[ea];have:=G.ln;dsimp only at dec;omega
   ·have z:¬(i:Int)=(((zs Ws[v]).map D.int).length:Nat):=of_decide_eq_false z;rw[bf] at z;have hle:=G.le (v,i) (.head _);rw[show wf Ws (v,i).1=Ws[v] from F] at hle;have hle:i<=Ws[v].length:=hle;have hil:i<Ws[v].length:=by omega
    have hf:Ws[v][i]? =some Ws[v][i]:=ag hil;obtain⟨f,hff⟩:∃f,f=Ws[v][i]:=⟨_,rfl⟩;rw[<-hff] at hf;have hfw:(wf Ws v)[i]? =some f:=by rw[F];exact hf
    have nl:(pD r).length+(O.length+1)<=1000:=by have:=G.ln;simp only[Go.all,List.length_append,List.length_map,List.length_cons] at this;simp only[pD,List.length_map,List.length_reverse];omega
    refine aN (bd (eM (aG rfl (cF (bK lp) (bh (af (aG rfl (af (bG (bI (aG rfl (bo (bL rfl (bo (w_add (ao (ce (bK lp) (by omega) ?_)))))))))))))))))
    rw[List.set_set,<-show pD ((v,i+1)::r)=pD r++[.tup [.int (v:Int),.int ((i:Int)+1)]] from jP v (i+1) r];have nw2:∀{j:Nat}{xs ys:List D},st'[j]? =some (.lst xs)->j≠st.length+1->(st'.set (st.length+1) (.lst ys))[j]? =some (.lst xs):=λe hne=>sn e (Ne.symm hne);refine ba (bI (bI (aG rfl (aG rfl (dk (nw2 w1 (by omega)) U (bI (aG rfl (bo (bL rfl (dk (nw2 w4 (by omega)) (cw (dj hf)) ?_))))))))))
    have dd:(st'.set (st.length+1) (.lst (pD ((v,i+1)::r))))[dn]? =some (.dct kvs):=sn G.d (by omega)
    have ky:=G.ky f;refine cZ (bj (aG rfl (aG rfl (ul dd rfl ⟨_,rfl,λz=>?_,λz=>?_⟩))))
    ·have hnot:f∉Go.all ((v,i)::r) O:=by rw[ky] at z;simpa using z
     have I:bH kvs (.inl (f:Int))=none:=by
      cases q:bH kvs (.inl (f:Int)) with
      |none=>rfl
      |some d=>rw[q] at z;cases z
     have es:Go.step (wf Ws) ((v,i)::r) O=((f,0)::(v,i+1)::r,O):=by simp only[Go.step,hfw];rw[if_neg hnot]
     rw[es] at dec invS;have eal:(Go.all ((f,0)::(v,i+1)::r) O).length=(Go.all ((v,i)::r) O).length+1:=by simp[Go.all];omega
     refine cN (bo (aG rfl (aG rfl (bY dd rfl ?_ ?_))))
     ·have:=G.kl;have:=G.ln;omega
     have pp:((st'.set (st.length+1) (.lst (pD ((v,i+1)::r)))).set dn (.dct (bP kvs (.inl (f:Int)) (.bl true))))[st.length+1]? =some (.lst (pD ((v,i+1)::r))):=sn (bK lp) (by omega)
     refine eM (aG rfl (cF pp (bh (af (aG rfl (af (bo (ao (ce pp ?_ (aN (bd (aN (bU ⟨(f,0)::(v,i+1)::r,O,bP kvs (.inl (f:Int)) (.bl true),_,_,_,rfl,?_,by dsimp only at dec;omega⟩)))))))))))))
     ·rw[jP,aB];simp only[List.length_cons,List.length_nil];omega
     refine⟨invS,((G.bu.set (.inr (by omega))).set (.inl rfl)).set (.inr (by omega)),?_,?_,?_,λx=>?_,?_,λq B=>?_,?_⟩
     ·exact sn (sn (sn G.o (by omega)) (by omega)) (by omega)
     ·rw[bK (by rw[aF,aF];exact lp),jP f 0];rfl
     ·exact sn (bK (by rw[aF];exact ld)) (by omega)
     ·rw[qU I];by_cases hx:x=f
      ·subst hx;rw[if_pos rfl];simp[Go.all]
      ·rw[if_neg (λz=>hx (by have:=Sum.inl.inj z;omega)),G.ky x]
       congr 1;simp only[Go.all,List.map_cons,List.mem_append,List.mem_cons,eq_iff_iff];constructor
       ·rintro(h|h|h)
        ·exact .inl h
        ·exact .inr (.inr (.inl h))
        ·exact .inr (.inr (.inr h))
       ·rintro(h|h|h|h)
        ·exact .inl h
        ·exact absurd h hx
        ·exact .inr (.inl h)
        ·exact .inr (.inr h)
     ·rw[eal,eU]
      ·rw[aB,G.kl];rfl
      ·intro p J z
       have:∀{kv:List (Key×D)},p∈kv->bH kv (.inl (f:Int))≠none:=by
        intro kv
        induction kv with
        |nil=>intro h;cases h
        |cons q r ih=>
         intro J;unfold bH;by_cases e:q.1=.inl (f:Int)
         ·rw[if_pos e];simp
         ·rw[if_neg e];rcases List.mem_cons.mp J with rfl|J
          ·exact absurd z e
          ·exact ih J
       exact this J I
     ·rcases List.mem_cons.mp B with rfl|B
      ·exact Nat.zero_le _
      ·rcases List.mem_cons.mp B with rfl|B
       ·show i+1<=(wf Ws v).length;rw[F];omega
       ·exact G.le q (.tail _ B)
     ·rw[eal];have:=G.ln;dsimp only at dec;omega
    ·have hyes:f∈Go.all ((v,i)::r) O:=by rw[ky] at z;simpa using z
     have es:Go.step (wf Ws) ((v,i)::r) O=((v,i+1)::r,O):=by simp only[Go.step,hfw];rw[if_pos hyes]
     rw[es] at dec invS;refine aN (bd (aN (bU ⟨(v,i+1)::r,O,kvs,_,_,_,rfl,?_,by dsimp only at dec;omega⟩)))
     refine⟨invS,G.bu.set (.inr (by omega)),?_,bK lp,dd,G.ky,G.kl,λq B=>?_,?_⟩
     ·exact sn G.o (by omega)
     ·rcases List.mem_cons.mp B with rfl|B
      ·show i+1<=(wf Ws v).length;rw[F];omega
      ·exact G.le q (.tail _ B)
     ·have:=G.ln;have e2:(Go.all ((v,i+1)::r) O)=Go.all ((v,i)::r) O:=rfl;rw[e2];dsimp only at dec;omega
 ·cases pile with
  |cons q r=>exact absurd z (by simp[pD])
  |nil=>refine bC (aG rfl (bD (h O _ _ G.bu G.inv ?_ (ac _) G.o)));have:=G.ln;simp only[Go.all,List.length_append] at this;omega
end
open Classical in
noncomputable def al(P:Nat->Prop)(n:Nat):List Nat:=(List.range n).filter λv=>decide (P v)
theorem dh{P:Nat->Prop}:v∈al P n↔v<n/\P v:=by unfold al;rw[List.mem_filter,List.mem_range];simp
theorem zI(P:Nat->Prop)(n:Nat):(al P n).Pairwise (· < ·):=List.Pairwise.filter _ List.pairwise_lt_range
theorem uw:∀{a b:List Int},a.Pairwise (· < ·)->b.Pairwise (· < ·)->(∀x,x∈a↔x∈b)->a=b
 |[],[],_,_,_=>rfl
 |[],y::b,_,_,h=>nomatch (h y).mpr (.head _)
 |x::a,[],_,_,h=>nomatch (h x).mp (.head _)
 |x::a,y::b,ha,hb,h=>by
  obtain⟨F,J⟩:=List.pairwise_cons.mp ha;obtain⟨B,I⟩:=List.pairwise_cons.mp hb
  have e:x=y:=by
   rcases List.mem_cons.mp ((h x).mp (.head _)) with e|h1
   ·exact e
   ·rcases List.mem_cons.mp ((h y).mpr (.head _)) with e|h2
    ·exact e.symm
    ·have:=F y h2;have:=B x h1;omega
  subst e;rw[uw J I λz=>?_];constructor
  ·intro c;rcases List.mem_cons.mp ((h z).mp (.tail _ c)) with e|hz'
   ·have:=F z c;omega
   ·exact hz'
  ·intro c;rcases List.mem_cons.mp ((h z).mpr (.tail _ c)) with e|hz'
   ·have:=B z c;omega
   ·exact hz'
theorem Cc{a:List Int}(h:a.Pairwise (· <= ·))(nd:a.Nodup):a.Pairwise (· < ·):=by
 have:=List.Pairwise.and h nd;exact this.imp λ{x y} ⟨h1,h2⟩=>by omega
theorem iP{x:Int}:x∈zs l↔∃v∈l,(v:Int)=x:=by unfold zs;rw[List.mem_map]
theorem BZ(h:l.Pairwise (· < ·)):(zs l).Pairwise (· < ·):=List.Pairwise.map _ (λa b h=>Int.ofNat_lt.mpr h) h
theorem B0(h:l.Nodup):(zs l).Nodup:=List.Pairwise.map _ (λa b h z=>h (Int.ofNat_inj.mp z)) h
theorem mN{P:Nat->Prop}(nd:F.Nodup)(B:∀v,v∈F↔P v)(I:∀v,P v->v<n):Tab23.dM (zs F)=zs (al P n):=by
 refine uw (Cc (Tab23.mO _) ((Tab23.cT _).nodup_iff.mpr (B0 nd))) (BZ (zI P n)) λx=>?_;rw[(Tab23.cT _).mem_iff,iP,iP];constructor
 ·rintro⟨v,c,e⟩;exact⟨v,dh.mpr ⟨I v ((B v).mp c),(B v).mp c⟩,e⟩
 ·rintro⟨v,c,e⟩;exact⟨v,(B v).mpr (dh.mp c).2,e⟩
theorem k7{st:a9}{v:Nat}:∀F:List Nat,iK st (.int (v:Int)) ((zs F).map .int)=some (decide (v∈F))
 |[]=>rfl
 |x::F=>by
  show(match dF 60 st (.int (x:Int)) (.int (v:Int)),iK st (.int (v:Int)) ((zs F).map .int) with|some a,some b=>some (a||b)|_,_=>none)=_
  have e:dF 60 st (.int (x:Int)) (.int (v:Int))=some (decide ((x:Int)=v)):=by simp[dF,shape,nL];rfl
  rw[e,k7 F];dsimp only;congr 1;by_cases h:v=x
  ·subst h;simp
  ·have h':¬((x:Int)=v):=by omega
   simp[h,h']
inductive Av(ways:Nat->List Nat)(X:List Nat):Nat->Prop where
 |zero (h:0∉X):Av ways X 0
 |next {f v:Nat}(c:Av ways X f)(h:v∈ways f)(hx:v∉X):Av ways X v
noncomputable def ff(G:List En)(v:Nat):List Nat:=(G[v]?).elim [] En.fol
theorem zx{G:List En}{e:En}(h:G[v]? =some e):ff G v=e.fol:=by unfold ff;rw[h];rfl
def rest(G:List En)(F:List Nat):Nat:=(((List.range G.length).filter λv=>decide (v∉F)).map λv=>(ff G v).length+1).sum
theorem Dk(G:List En)(v:Nat):(ff G v).length<=2:=by
 unfold ff;cases G[v]? with
 |none=>simp
 |some e=>exact kH e
structure Ci(G:List En)(X F L:List Nat):Prop where
 nd:F.Nodup
 av:∀v∈F,Av (ff G) X v
 ld:∀v∈L,v=0∨∃f∈F,v∈ff G f
 cl:∀f∈F,∀v∈ff G f,v∈F∨v∈X∨v∈L
 zr:0∈F∨0∈X∨0∈L
theorem Ci.av_l{G:List En}(h:Ci G X F L)(B:v∈L)(c:v∉X):Av (ff G) X v:=by
 rcases h.ld v B with rfl|⟨f,hf,e⟩
 ·exact .zero c
 ·exact .next (h.av f hf) e c
theorem Ci.out{G:List En}(h:Ci G X F (L++[v]))(c:v∈F∨v∈X):Ci G X F L:=by
 have I:∀{x},x∈L++[v]->x∈L∨x=v:=λ{x} B=>by simpa using B
 refine⟨h.nd,h.av,λx B=>h.ld x (aS _ B),λf J x B=>?_,?_⟩
 ·rcases h.cl f J x B with z|z|z
  ·exact .inl z
  ·exact .inr (.inl z)
  ·rcases I z with z|rfl
   ·exact .inr (.inr z)
   ·rcases c with c|c
    ·exact .inl c
    ·exact .inr (.inl c)
 ·rcases h.zr with z|z|z
  ·exact .inl z
  ·exact .inr (.inl z)
  ·rcases I z with z|z
   ·exact .inr (.inr z)
   ·rcases c with c|c
    ·exact .inl (z▸c)
    ·exact .inr (.inl (z▸c))
theorem Ci.push{G:List En}(h:Ci G X F (L++[v]))(U:v∉F)(I:v∉X):Ci G X (F++[v]) (L++ff G v):=by
 have J:∀{x},x∈L++[v]->x∈L∨x=v:=λ{x} I=>by simpa using I
 refine⟨?_,λx c=>?_,λx c=>?_,λf B x c=>?_,?_⟩
 ·rw[List.nodup_append];refine⟨h.nd,by simp,λa Z b Y=>?_⟩
  rw[List.mem_singleton.mp Y];exact λz=>U (z▸Z)
 ·rcases List.mem_append.mp c with z|z
  ·exact h.av x z
  ·rw[List.mem_singleton.mp z];exact h.av_l (by simp) I
 ·rcases List.mem_append.mp c with z|z
  ·rcases h.ld x (aS _ z) with e|⟨f,B,e⟩
   ·exact .inl e
   ·exact .inr ⟨f,aS _ B,e⟩
  ·exact .inr ⟨v,by simp,z⟩
 ·rcases List.mem_append.mp B with z|z
  ·rcases h.cl f z x c with y|y|y
   ·exact .inl (aS _ y)
   ·exact .inr (.inl y)
   ·rcases J y with y|rfl
    ·exact .inr (.inr (aS _ y))
    ·exact .inl (by simp)
  ·rw[List.mem_singleton.mp z] at c;exact .inr (.inr (aK _ c))
 ·rcases h.zr with z|z|z
  ·exact .inl (aS _ z)
  ·exact .inr (.inl z)
  ·rcases J z with z|z
   ·exact .inr (.inr (aS _ z))
   ·exact .inl (by simp[z])
theorem Ci.fin{G:List En}(h:Ci G X F [])(v:Nat):v∈F↔Av (ff G) X v:=by
 refine⟨h.av v,λa=>?_⟩
 induction a with
 |zero hx=>
  rcases h.zr with z|z|z
  ·exact z
  ·exact absurd z hx
  ·cases z
 |next c hv hx ih=>
  rcases h.cl _ ih _ hv with z|z|z
  ·exact z
  ·exact absurd z hx
  ·cases z
theorem vv{G:List En}(B:v<G.length)(I:v∉F):rest G F=rest G (F++[v])+((ff G v).length+1):=by
 unfold rest;refine Go.mJ (w:=λv=>(ff G v).length+1) (f:=v) (p:=λv=>decide (v∉F)) (q:=λx=>decide (x∉F++[v])) (by simpa using I) (by simp) (λx c=>?_) List.nodup_range (List.mem_range.mpr B)
 simp[c]
theorem n6(G:List En)(c:G.length<=9):rest G []<=27:=by
 unfold rest;have a:=zY (f:=λv=>(ff G v).length+1) (λv=>by have:=Dk G v;omega) ((List.range G.length).filter λv=>decide (v∉([]:List Nat)))
 have b:=List.length_filter_le (λv=>decide (v∉([]:List Nat))) (List.range G.length);rw[List.length_range] at b;omega
theorem EU:cutD (a::xs) (some 1) none=xs:=by
 have B:HT.cG (a::xs).length 0 (some 1)=1:=by rw[show((1:Int))=((1:Nat):Int) from rfl,HT.rh];simp
 have c:HT.cG (a::xs).length (a::xs).length none=(a::xs).length:=by rw[HT.vc]
 unfold cutD;rw[B,c];simp
theorem Ep{Q:D->a9->Prop}(h:Q (.tup xs) st):W (slice (.tup (a::xs)) (some 1) none st) Q:=by
 refine B6 ?_ (by rw[EU];exact h)
 have c:HT.cG (a::xs).length 0 (some 1)=1:=by rw[show((1:Int))=((1:Nat):Int) from rfl,HT.rh];simp
 rw[c];exact λz=>nomatch z.1
theorem Dm(e:En):∃t:Str,e.d=.tup (.str t::(zs e.fol).map .int):=by cases e<;>exact⟨_,rfl⟩
section
variable{k:Nat}{st:a9}{Q:D->a9->Prop}
theorem u_{G:List En}{en oq:Nat}(hg:0<G.length/\G.length<=9)(hfit:iO G.length G)(he:st[en]? =some (.lst (G.map En.d)))(ho:st[oq]? =some (.lst ((zs X).map .int)))
  (h:∀m st1,Gr st st1->st.length<=m->st1[m]? =some (.lst ((zs (al (Av (ff G) X) G.length)).map .int))->Q (.ref m) st1):Wv (calls tab (k+1) oX [.ref en,.ref oq] st) Q:=by
 have fl:∀v f,f∈ff G v->f<G.length:=λv f Y=>by
  unfold ff at Y;cases q:G[v]? with
  |none=>rw[q] at Y;cases Y
  |some e=>rw[q] at Y;exact(hfit e (ak q) f Y).2
 walk_at "call0"
 refine ba (cr (ao (ba (cr (af (bo (ao ?_)))))));have e1:(st++[O.lst []]).length=st.length+1:=by simp
 rw[e1];have g0:Gr st (st++[O.lst []]++[O.lst [.int 0]]):=(Gr.one _ _).more _;refine j3 (λm loc st'=>∃F L l a,loc=[some (.ref en),some (.ref oq),some (.ref st.length),some (.ref l),a]/\Ci G X F L/\Gr st st'/\st'[st.length]? =some (.lst ((zs F).map .int))/\st'[l]? =some (.lst ((zs L).map .int))/\st.length<l/\rest G F+L.length<=m/\F.length+rest G F<=27/\m<=28) 28 (by decide) ⟨[],[0],st.length+1,none,rfl,⟨.nil,(λv J=>nomatch J),λv J=>.inl (List.mem_singleton.mp J),(λf Y=>nomatch Y),.inr (.inr (.head _))⟩,g0,aV aD,by rw[<-e1];exact aD,by omega,by have:=n6 G hg.2;simp only[List.length_cons,List.length_nil];omega,by have:=n6 G hg.2;simp only[List.length_nil];omega,ac _⟩ λm loc st' hI=>?_
 obtain⟨F,L,l,a,rfl,C,g,hF,hL,hlt,hm,hs,hm2⟩:=hI;have lF:st.length<st'.length:=(aw hF).1;have lL:l<st'.length:=(aw hL).1;refine bj (aG rfl (cr (ao (lj (wF (aV hL) aD) ⟨_,rfl,λz=>?_,λz=>?_⟩))))
 ·have hne:L≠[]:=λe=>by subst e;cases z
  obtain⟨I,v,rfl⟩:∃I v,L=I++[v]:=⟨L.dropLast,L.getLast hne,(List.dropLast_concat_getLast hne).symm⟩;rw[aB] at hm;simp only[List.length_cons,List.length_nil] at hm;refine⟨m - 1,by omega,?_⟩
  have hL2:(st'++[O.lst []])[l]? =some (.lst ((zs I).map .int++[.int (v:Int)])):=by rw[aV hL,dJ];rfl
  refine ba (pN (aG rfl ⟨l,_,_,rfl,hL2,?_⟩));have g1:Gr st ((st'++[O.lst []]).set l (.lst ((zs I).map .int))):=(g.more _).set (by omega)
  have B:((st'++[O.lst []]).set l (.lst ((zs I).map .int)))[st.length]? =some (.lst ((zs F).map .int)):=sn (aV hF) (by omega)
  have Z:((st'++[O.lst []]).set l (.lst ((zs I).map .int)))[l]? =some (.lst ((zs I).map .int)):=bK (by simp;omega)
  obtain⟨U,hs1⟩:∃U,U=(st'++[O.lst []]).set l (.lst ((zs I).map .int)):=⟨_,rfl⟩;rw[<-hs1] at g1 B Z ⊢
  have vlt:v<G.length:=by
   rcases C.ld v (by simp) with rfl|⟨f,_,e⟩
   ·exact hg.1
   ·exact fl f v e
  have skip:v∈F∨v∈X->W (execs (calls tab k) [] [some (.ref en),some (.ref oq),some (.ref st.length),some (.ref l),some (.int (v:Int))] U) (Kn (calls tab k) [] (Kf (λloc st'=>∃F L l a,loc=[some (.ref en),some (.ref oq),some (.ref st.length),some (.ref l),a]/\Ci G X F L/\Gr st st'/\st'[st.length]? =some (.lst ((zs F).map .int))/\st'[l]? =some (.lst ((zs L).map .int))/\st.length<l/\rest G F+L.length<=m - 1/\F.length+rest G F<=27/\m - 1<=28) (Kn (calls tab k) [.ret (.bt .sorted [(.v 2)])] (Kr Q)))):=λJ=>
   aN (bd (aN (bU ⟨F,I,l,_,rfl,C.out J,g1,B,Z,hlt,by omega,hs,by omega⟩)))
  refine cZ (w_and (bj (aG rfl (aG rfl (io B (k7 F) ⟨_,rfl,λz=>?_,λz=>?_⟩)))))
  ·have hvF:v∉F:=by simpa using z
   refine bj (aG rfl (aG rfl (io (g1.at ho) (k7 X) ⟨_,rfl,λz=>?_,λz=>?_⟩)))
   ·have hvX:v∉X:=by simpa using z
    have hra:=vv vlt hvF;have hGv:G[v]? =some G[v]:=ag vlt;have hfv:ff G v=G[v].fol:=zx hGv;obtain⟨t,ht⟩:=Dm G[v];refine eM (aG rfl (cF B (aG rfl (ce B (by rw[bf];omega) ?_))))
    have hL3:(U.set st.length (.lst ((zs F).map D.int++[.int (v:Int)])))[l]? =some (.lst ((zs I).map .int)):=sn Z (by omega)
    have he3:(U.set st.length (.lst ((zs F).map D.int++[.int (v:Int)])))[en]? =some (.lst (G.map En.d)):=(g1.set (ac _)).at he;have hF3:(U.set st.length (.lst ((zs F).map D.int++[.int (v:Int)])))[st.length]? =some (.lst ((zs F).map D.int++[.int (v:Int)])):=bK (aw B).1;have g3:Gr st (U.set st.length (.lst ((zs F).map D.int++[.int (v:Int)]))):=g1.set (ac _);obtain⟨s2,hs2⟩:∃s2,s2=U.set st.length (.lst ((zs F).map D.int++[.int (v:Int)])):=⟨_,rfl⟩;rw[<-hs2] at hL3 he3 hF3 g3 ⊢;have ls2:st.length<s2.length:=(aw hF3).1;refine ba (bG (aG rfl (ca (af (im (bI (aG rfl (aG rfl (dk he3 (cw (by rw[aj,hGv];rfl)) (bo ⟨_,rfl,?_⟩))))))))))
    rw[ht];refine Ep (ao (mz (mD (aV hL3) aD ?_ ?_)))
    ·rw[bf,bf];have:=kH G[v];omega
    refine aN (bd (aN (bU ⟨F++[v],I++ff G v,(s2++[O.lst ((zs G[v].fol).map D.int)]).length,_,rfl,C.push hvF hvX,(g3.more _).more _,?_,?_,?_,?_,?_,by omega⟩)))
    ·rw[dJ];exact aV (aV hF3)
    ·rw[hfv,dJ];exact aD
    ·simp;omega
    ·rw[aB];omega
    ·rw[aB];simp only[List.length_cons,List.length_nil];omega
   ·exact skip (.inr (by simpa using z))
  ·exact⟨_,rfl,λz=>(nomatch z),λ_=>skip (.inl (by simpa using z))⟩
 ·have hnil:L=[]:=by
   cases L with
   |nil=>rfl
   |cons x L=>cases z
  subst hnil;refine bC (ca (af (aG rfl (ao (il (aV hF) (by unfold zs;rw[List.length_map];omega) ?_)))))
  rw[mN C.nd C.fin λv J=>?_]
  ·exact bD (h _ _ ((g.more _).more _) (by simp;omega) aD)
  ·cases J with
   |zero=>exact hg.1
   |next c J _=>exact fl _ _ J
end
structure Ls(s0 st:a9)(b:Nat)(rs:List Nat)(Bs:List (List Nat)):Prop where
 hd:st[b]? =some (.lst (rs.map .ref))
 ln:rs.length=Bs.length
 nd:rs.Nodup
 ab:∀r∈rs,s0.length<=r/\r<b
 at_:∀(j r:Nat)(ws:List Nat),rs[j]? =some r->Bs[j]? =some ws->st[r]? =some (.lst ((zs ws).map .int))
theorem Ls.ways(h:Ls s0 st b rs Bs):ci st b Bs:=⟨rs,h.hd,h.ln,h.at_⟩
theorem Ls.put{r:Nat}(h:Ls s0 st b rs Bs)(hr:rs[v]? =some r):Ls s0 (st.set r (.lst ((zs ws).map .int))) b rs (Bs.set v ws):=by
 have F:=ak hr;have U:=h.ab r F;have I:=(aw hr).1;have Y:b<st.length:=(aw h.hd).1;refine⟨sn h.hd (by omega),by rw[aF];exact h.ln,h.nd,h.ab,λj J B a c=>?_⟩
 by_cases hj:j=v
 ·subst hj;rw[hr] at a;cases a;rw[aO (by rw[<-h.ln];exact I)] at c
  cases c;exact bK (by omega)
 ·rw[aM (λz=>hj z.symm)] at c;refine sn (h.at_ j J B a c) λz=>hj ?_;subst z;exact((List.getElem?_inj I h.nd).mp (hr.trans a.symm)).symm
section
variable{k n w:Nat}{st:a9}{Q:D->a9->Prop}
theorem lM(Z:n<=9)(h:∀rs st1,Gr st st1->Ls st st1 (st1.length - 1) rs (List.replicate n [])->0<st1.length->st.length<=st1.length - 1->Q (.ref (st1.length - 1)) st1):W (cA (λx=>a_ (run g (.lst []) (some x::loc)) λy=>ret (some y)) (.its (bN n)) st) Q:=by
 refine bS (L:=bN n) (by show(bN n).length<=1000000;rw[bZ];omega) (ac _) (λi acc st1=>Gr st st1/\∃rs:List Nat,acc=rs.map .ref/\rs.length=i/\rs.Nodup/\(∀r∈rs,st.length<=r/\r<st1.length)/\∀r∈rs,st1[r]? =some (.lst [])) ⟨.refl _,[],rfl,rfl,.nil,(λr hr=>nomatch hr),λr hr=>nomatch hr⟩ (λ_ _ _ _=>rfl) (λi x acc st1 Y B=>?_) λacc st1 B=>?_
 ·obtain⟨g,rs,rfl,hi,nd,h1,F⟩:=B;have gl:=g.le;refine gN (cr (ao ⟨g.more _,rs++[st1.length],by simp,by simp[hi],?_,λr hr=>?_,λr hr=>?_⟩))
  ·rw[List.nodup_append];refine⟨nd,by simp,λa U b J=>?_⟩
   rw[List.mem_singleton.mp J];have:=h1 a U;omega
  ·rw[aB];rcases List.mem_append.mp hr with hr|hr
   ·have:=h1 r hr;simp only[List.length_cons,List.length_nil];omega
   ·rw[List.mem_singleton.mp hr];simp only[List.length_cons,List.length_nil];omega
  ·rcases List.mem_append.mp hr with hr|hr
   ·exact aV (F r hr)
   ·rw[List.mem_singleton.mp hr];exact aD
 ·obtain⟨g,rs,rfl,hi,nd,h1,F⟩:=B;rw[bZ] at hi;have I:(st1++[O.lst (rs.map .ref)]).length - 1=st1.length:=by simp
  have:=h rs _ (g.more _) (by rw[I];exact⟨aD,by simp[hi],nd,h1,λj r ws a c=>by
   rw[List.getElem?_replicate] at c;split at c
   ·cases c;exact aV (F r (ak a))
   ·cases c⟩) (by simp) (by rw[I];exact g.le)
  rw[I] at this;exact this
def xb(Ws:List (List Nat))(i j v u:Nat):Prop:=(u<i/\v∈wf Ws u)∨(u=i/\v∈(wf Ws i).take j)
structure Ti(Ws:List (List Nat))(i j m:Nat)(Bs:List (List Nat)):Prop where
 ln:Bs.length=Ws.length
 le:∀ws∈Bs,ws.length<=m
 mem:∀v u:Nat,u∈wf Bs v↔xb Ws i j v u
theorem Ti.start(Ws:List (List Nat)):Ti Ws 0 0 0 (List.replicate Ws.length []):=by
 refine⟨by simp,λws h=>?_,λv u=>?_⟩
 ·rw[List.eq_of_mem_replicate h];exact ac _
 ·have:wf (List.replicate Ws.length []) v=[]:=by unfold wf;rw[List.getElem?_replicate];split<;>rfl
  rw[this];constructor
  ·intro h;cases h
  ·rintro(⟨h,_⟩|⟨_,h⟩)
   ·omega
   ·simp at h
theorem Ti.add{f:Nat}(h:Ti Ws i j m Bs)(J:(wf Ws i)[j]? =some f)(I:f<Ws.length):Ti Ws i (j+1) (m+1) (Bs.set f (wf Bs f++[i])):=by
 have c:f<Bs.length:=by rw[h.ln];exact I
 have e:Bs[f]? =some Bs[f]:=ag c;have U:wf Bs f=Bs[f]:=ik e;refine⟨by rw[aF];exact h.ln,λws B=>?_,λv u=>?_⟩
 ·rcases List.mem_or_eq_of_mem_set B with B|rfl
  ·have:=h.le ws B;omega
  ·rw[aB,U];have:=h.le _ (List.getElem_mem c);simp only[List.length_cons,List.length_nil];omega
 ·have tk:(wf Ws i).take (j+1)=(wf Ws i).take j++[f]:=by rw[List.take_add_one,J];rfl
  have F:=h.mem v u;by_cases hv:v=f
  ·subst hv
   have:wf (Bs.set v (wf Bs v++[i])) v=wf Bs v++[i]:=by
    conv=>lhs;unfold wf
    rw[aO c];rfl
   rw[this,List.mem_append,F];unfold xb;rw[tk];simp only[List.mem_append,List.mem_singleton];constructor
   ·rintro((⟨a,b⟩|⟨a,b⟩)|a)
    ·exact .inl ⟨a,b⟩
    ·exact .inr ⟨a,.inl b⟩
    ·exact .inr ⟨a,.inr trivial⟩
   ·rintro(⟨a,b⟩|⟨a,b|b⟩)
    ·exact .inl (.inl ⟨a,b⟩)
    ·exact .inl (.inr ⟨a,b⟩)
    ·exact .inr a
  ·have:wf (Bs.set f (wf Bs f++[i])) v=wf Bs v:=by
    conv=>lhs;unfold wf
    rw[aM (λz=>hv z.symm)];rfl
   rw[this,F];unfold xb;rw[tk];simp only[List.mem_append,List.mem_singleton];constructor
   ·rintro(⟨a,b⟩|⟨a,b⟩)
    ·exact .inl ⟨a,b⟩
    ·exact .inr ⟨a,.inl b⟩
   ·rintro(⟨a,b⟩|⟨a,b|b⟩)
    ·exact .inl ⟨a,b⟩
    ·exact .inr ⟨a,b⟩
    ·exact absurd b hv
theorem Ti.next(h:Ti Ws i (wf Ws i).length m Bs):Ti Ws (i+1) 0 m Bs:=by
 refine⟨h.ln,h.le,λv u=>(h.mem v u).trans ?_⟩;unfold xb;rw[List.take_length];simp only[List.take_zero,List.not_mem_nil,and_false,or_false];constructor
 ·rintro(⟨a,b⟩|⟨a,b⟩)
  ·exact⟨by omega,b⟩
  ·exact⟨by omega,a▸b⟩
 ·rintro⟨a,b⟩;by_cases e:u=i
  ·exact .inr ⟨e,e▸b⟩
  ·exact .inl ⟨by omega,b⟩
theorem uX(hW:ci st w Ws)(hn:Ws.length<=9)(hw:∀v f,f∈wf Ws v->f<Ws.length)(h2:∀v,(wf Ws v).length<=2)
  (h:∀Bs m st1,Gr st st1->st.length<=m->ci st1 m Bs->Bs.length=Ws.length->(∀ws∈Bs,ws.length<=30)->(∀v u:Nat,u∈wf Bs v↔v∈wf Ws u)->Q (.ref m) st1):Wv (calls tab (k+1) wk [.ref w] st) Q:=by
 obtain⟨ws0,Y,J,hwr⟩:=id hW
 walk_at "call0"
 refine ba (d7 (ca (af (aG rfl (ao (fU Y ⟨_,cz (by rw[List.length_map];omega),?_⟩))))))
 rw[Int.toNat_natCast,List.length_map,J];refine lM hn λrs st1 g1 c hpos hle=>?_;obtain⟨b,hb⟩:∃b,b=st1.length - 1:=⟨_,rfl⟩;rw[<-hb] at c hle ⊢;refine jI (aG rfl ⟨_,rfl,?_⟩);have hL:bV (.en w) st1=(ws0.map D.ref).length:=by simp only[bV,g1.at Y]
 refine cy (L:=fh 0 (ws0.map .ref)) (by rw[hL,cW];exact ac _) (λi loc st'=>(∃x y z,loc=[some (.ref w),some (.ref b),x,y,z])/\Gr st st'/\∃Bs,Ls st st' b rs Bs/\Ti Ws i 0 (2*i) Bs) ⟨⟨_,_,_,rfl⟩,g1,_,c,Ti.start Ws⟩ (λi loc st' F=>?_) (λi z loc st' B F=>?_) λloc st' F=>?_
 ·obtain⟨_,g,_⟩:=F;simp only[eK,g.at Y,cH,Nat.zero_add]
 ·obtain⟨⟨x,y,z',rfl⟩,g,Bs,c,T⟩:=F;rw[cH,aj] at B;cases hwi:ws0[i]? with
  |none=>rw[hwi] at B;cases B
  |some r=>
   rw[hwi] at B;have B:D.tup [.int ((0+i:Nat):Int),.ref r]=z:=ai B;rw[Nat.zero_add] at B;subst B;have hi:i<Ws.length:=by rw[<-J];exact(aw hwi).1
   have hWi:Ws[i]? =some Ws[i]:=ag hi;have U:wf Ws i=Ws[i]:=ik hWi;have hr:=hwr i r _ hwi hWi;refine jH rfl (dL (aG rfl ⟨_,rfl,?_⟩));have hL2:bV (.at r) st'=((zs Ws[i]).map D.int).length:=by simp only[bV,g.at hr]
   refine cy (L:=(zs Ws[i]).map .int) (by rw[hL2];exact ac _) (λj loc st'=>(∃z,loc=[some (.ref w),some (.ref b),some (.int (i:Int)),some (.ref r),z])/\Gr st st'/\∃Bs,Ls st st' b rs Bs/\Ti Ws i j (2*i+j) Bs) ⟨⟨_,rfl⟩,g,Bs,c,T⟩ (λj loc st' F=>?_) (λj z loc st' B F=>?_) λloc st' F=>?_
   ·obtain⟨_,g,_⟩:=F;simp only[eK,g.at hr]
   ·obtain⟨⟨z2,rfl⟩,g,Bs,c,T⟩:=F
    have hj:j<Ws[i].length:=by have:=(aw B).1;rwa [bf] at this
    have hf:Ws[i][j]? =some Ws[i][j]:=ag hj;rw[dj hf] at B;cases B;have hfw:(wf Ws i)[j]? =some Ws[i][j]:=by rw[U];exact hf
    have hfl:=hw i _ (ak hfw);have hrf:Ws[i][j]<rs.length:=by rw[c.ln,T.ln];exact hfl
    have I:rs[Ws[i][j]]? =some rs[Ws[i][j]]:=ag hrf
    have hBf:Bs[Ws[i][j]]? =some (wf Bs Ws[i][j]):=by
     obtain⟨ws,e⟩:∃ws,Bs[Ws[i][j]]? =some ws:=⟨_,ag (by rw[T.ln];exact hfl)⟩
     rw[ik e];exact e
    have hat:=c.at_ _ _ _ I hBf;have hle2:=T.le _ (ak hBf);have h2i:=h2 i;rw[U] at h2i;refine eM (bI (aG rfl (aG rfl (dk c.hd (cw (by rw[aj,I];rfl)) (cF hat (aG rfl (ce hat (by rw[bf];omega) ?_)))))))
    refine aN (bU ⟨⟨_,rfl⟩,g.set (c.ab _ (ak I)).1,_,?_,T.add hfw hfl⟩);rw[<-show(zs (wf Bs Ws[i][j]++[i])).map D.int=(zs (wf Bs Ws[i][j])).map D.int++[.int (i:Int)] from dJ _ _];exact c.put I
   ·obtain⟨⟨z2,rfl⟩,g,Bs,c,T⟩:=F;rw[bf,<-U] at T;have h2i:=h2 i;refine bd (aN (bU ⟨⟨_,_,_,rfl⟩,g,Bs,c,?_⟩));have:=T.next
    exact⟨this.ln,λws Z=>by have:=this.le ws Z;omega,this.mem⟩
 ·obtain⟨⟨x,y,z',rfl⟩,g,Bs,c,T⟩:=F;rw[cW,List.length_map,J] at T;refine bd (bC (aG rfl (bD (h Bs _ _ g hle c.ways T.ln (λws Z=>by have:=T.le ws Z;omega) λv u=>(T.mem v u).trans ?_))))
  unfold xb;simp only[List.take_zero,List.not_mem_nil,and_false,or_false];constructor
  ·exact λa=>a.2
  ·intro a;refine⟨?_,a⟩;unfold wf at a;cases q:Ws[u]? with
   |none=>rw[q] at a;cases a
   |some _=>exact(aw q).1
end
section
variable{Ws:List (List Nat)}{O:List Nat}
abbrev Ed(Ws:List (List Nat))(x y:Nat):Prop:=y∈wf Ws x
theorem kZ{x:Nat}:Dom.bm (Ed Ws) x↔Go.bm (wf Ws) x:=by
 constructor
 ·rintro⟨l,w⟩
  induction w with
  |nil=>exact .zero
  |cons w e ih=>exact .next ih e
 ·intro c
  induction c with
  |zero=>exact⟨_,.nil⟩
  |next c h ih=>obtain⟨l,w⟩:=ih;exact⟨_,.cons w h⟩
theorem cK(I:Go.Inv (wf Ws) [] O){x:Nat}:Dom.bm (Ed Ws) x↔x∈O:=kZ.trans (Go.rZ I).symm
theorem tZ(I:Go.Inv (wf Ws) [] O):O.Nodup:=by have:=I.nd;simpa[Go.all] using this
theorem xa(I:Go.Inv (wf Ws) [] O):∃l,O=l++[0]:=by have:=I.zero;simpa[Go.all] using this
noncomputable abbrev rk(O:List Nat)(x:Nat):Nat:=O.idxOf x
theorem w_(I:Go.Inv (wf Ws) [] O):Dom.Rk (Ed Ws) (rk O):=
 ⟨λx y c B e=>Go.sd ((cK I).mp c) ((cK I).mp B) e,λx c=>Go.lQ I ((cK I).mp c)⟩
def pre(O:List Nat)(Ls:List (List Nat))(b:Nat):List Nat:=(wf Ls (O.idxOf b)).map λx=>O.getD x 0
def d_(O:List Nat)(Ls:List (List Nat))(N:Nat->Option Nat)(b:Nat):Nat:=match(pre O Ls b).filter λp=>(N p).isSome with
 |[]=>0
 |p::ps=>(Dom.meet (rk O) N 1000 p (p::ps)).getD 0
structure LsOk(Ws:List (List Nat))(O:List Nat)(Ls:List (List Nat)):Prop where
 ln:Ls.length=O.length
 sz:∀ws∈Ls,ws.length<=60
 mem:∀j b:Nat,O[j]? =some b->∀x,x∈wf Ls j↔∃p∈O,b∈wf Ws p/\O.idxOf p=x
theorem kG(h:p∈O):O.getD (O.idxOf p) 0=p:=by have c:O.idxOf p<O.length:=List.idxOf_lt_length_iff.mpr h;rw[List.getD_eq_getElem?_getD,ag c];simp
theorem nD(h:b∈O):O[O.idxOf b]? =some b:=by have c:O.idxOf b<O.length:=List.idxOf_lt_length_iff.mpr h;rw[ag c];simp
theorem wj(nd:O.Nodup)(h:O[j]? =some b):O.idxOf b=j:=by obtain⟨c,rfl⟩:=aw h;exact nd.idxOf_getElem j c
theorem rF{Ls:List (List Nat)}(L:LsOk Ws O Ls)(F:b∈O):p∈pre O Ls b↔b∈wf Ws p/\p∈O:=by
 unfold pre;rw[List.mem_map];constructor
 ·rintro⟨x,I,rfl⟩;obtain⟨q,c,e,rfl⟩:=(L.mem _ b (nD F) x).mp I;rw[kG c];exact⟨e,c⟩
 ·rintro⟨e,B⟩;exact⟨O.idxOf p,(L.mem _ b (nD F) _).mpr ⟨p,B,e,rfl⟩,kG B⟩
theorem nO(I:Go.Inv (wf Ws) [] O){Ls:List (List Nat)}(hO:O.length<=100)(K:Dom.Ok (Ed Ws) (rk O) N)(h:∃f∈pre O Ls b,∃y,N f=some y):
  ∃p ps q,(pre O Ls b).filter (λp=>(N p).isSome)=p::ps/\Dom.meet (rk O) N 1000 p (p::ps)=some q/\d_ O Ls N b=q/\(∃y,N q=some y)/\∀c,Dom.Chain N q c↔∀p∈pre O Ls b,(∃y,N p=some y)->Dom.Chain N p c:=by
 have R:=w_ I;have J:∀{x:Nat},(N x).isSome=true↔∃y,N x=some y:=λ{x}=>by rw[Option.isSome_iff_exists]
 obtain⟨f,Z,y,U⟩:=h;cases q:(pre O Ls b).filter λp=>(N p).isSome with
 |nil=>have:f∈(pre O Ls b).filter λp=>(N p).isSome:=List.mem_filter.mpr ⟨Z,J.mpr ⟨y,U⟩⟩;rw[q] at this;cases this
 |cons p ps=>
  have B:∀x,x∈p::ps↔x∈pre O Ls b/\∃y,N x=some y:=λx=>by rw[<-q,List.mem_filter];exact⟨λz=>⟨z.1,J.mp z.2⟩,λz=>⟨z.1,J.mpr z.2⟩⟩
  have h0:rk O 0<=100:=by have:O.idxOf 0<=O.length:=List.idxOf_le_length;show O.idxOf 0<=100;omega
  obtain⟨r,Y,e2,e3⟩:=Dom.rS R K (k:=1000) (by omega) (p::ps) p ((B p).mp (.head _)).2 λx F=>((B x).mp F).2
  refine⟨p,ps,r,rfl,Y,by unfold d_;rw[q];dsimp only;rw[Y];rfl,e2,λc=>?_⟩
  rw[e3];exact⟨λz x F U=>z.2 x ((B x).mpr ⟨F,U⟩),λz=>⟨z p ((B p).mp (.head _)).1 ((B p).mp (.head _)).2,λx F=>z x ((B x).mp F).1 ((B x).mp F).2⟩⟩
theorem uv(I:Go.Inv (wf Ws) [] O){Ls:List (List Nat)}(L:LsOk Ws O Ls)(U:O.length<=100):Dom.Upd (Ed Ws) (rk O) (λb=>if b∈O then pre O Ls b else(al (λp=>b∈wf Ws p/\p∈O) (O.foldl max 0+1))) (d_ O Ls):=by
 have B:∀(l:List Nat)(a x:Nat),x∈l∨x<=a->x<=l.foldl max a:=by
  intro l
  induction l with
  |nil=>intro a x h;exact h.elim (λz=>nomatch z) id
  |cons y l ih=>
   intro a x h;refine ih _ x ?_;rcases h with h|h
   ·rcases List.mem_cons.mp h with rfl|h
    ·exact .inr (Nat.le_max_right ..)
    ·exact .inl h
   ·exact .inr (aR h (Nat.le_max_left ..))
 refine⟨λb p=>?_,λb c J=>?_,λN b K c J h=>?_⟩
 ·by_cases c:b∈O
  ·rw[if_pos c,rF L c,cK I]
  ·rw[if_neg c,dh,cK I];refine⟨λz=>z.2,λz=>⟨Nat.lt_succ_of_le (B O 0 p (.inl z.2)),z⟩⟩
 ·obtain⟨f,h1,Z,Y⟩:=Go.lR I ((cK I).mp J) c;exact⟨f,h1,(cK I).mpr Z,Y⟩
 ·have F:=(cK I).mp J;rw[if_pos F] at h ⊢;obtain⟨p,ps,q,e1,e2,e3,e4,e5⟩:=nO I U K h;rw[e3];exact⟨e4,e5⟩
end
def ND(kv:List (Key×D))(N:Nat->Option Nat):Prop:=∀x:Nat,bH kv (.inl (x:Int))=(N x).map λ(y:Nat)=>D.int (y:Int)
theorem ND.at(h:ND kv N){x:Nat}(e:N x=some y):bH kv (.inl (x:Int))=some (.int (y:Int)):=by rw[h x,e];rfl
section
variable{k:Nat}{st:a9}{Q:D->a9->Prop}{Ws:List (List Nat)}{O:List Nat}
theorem u9{a q:Nat}{ps:List Nat}{kn kr:List (Key×D)}(K:Dom.Ok (Ed Ws) (rk O) N)(hd:∀x y,N x=some y->x∈O)(ha:st[a]? =some (.lst ((zs (p::ps)).map .int)))(hb:st[b]? =some (.dct kn))(hc:st[c]? =some (.dct kr))(hN:ND kn N)(hR:ND kr λx=>if x∈O then some (rk O x) else none)
  (hp:∀x∈p::ps,∃y,N x=some y)(U:Dom.meet (rk O) N 1000 p (p::ps)=some q)(h:Q (.int (q:Int)) st):Wv (calls tab (k+1) kD [.ref a,.ref b,.ref c] st) Q:=by
 walk_at "call0"
 have hR':∀x y,N x=some y->bH kr (.inl (x:Int))=some (.int ((rk O x:Nat):Int)):=λx y e=>hR.at (y:=rk O x) (by rw[if_pos (hd x y e)])
 refine ba (bI (aG rfl (bo (dk ha (cw (i:=0) (dj (a:=p) rfl)) (dL (aG rfl ⟨_,rfl,?_⟩))))));have hL:bV (.at a) st=((zs (p::ps)).map D.int).length:=by simp only[bV,ha]
 refine cy (L:=(zs (p::ps)).map .int) (by rw[hL];exact ac _) (λi loc st'=>st'=st/\∃I x y,loc=[some (.ref a),some (.ref b),some (.ref c),some (.int ((I:Nat):Int)),x,y]/\Dom.meet (rk O) N 1000 I ((p::ps).drop i)=some q/\∃z,N I=some z) ⟨rfl,p,_,_,rfl,U,hp p (.head _)⟩ (λi loc st' hI=>by obtain⟨rfl,_⟩:=hI;simp only[eK,ha]) (λi z loc st' hz hI=>?_) λloc st' hI=>?_
 ·obtain⟨rfl,I,x,y,rfl,U,z0,Y⟩:=hI
  have hi:i<(p::ps).length:=by have:=(aw hz).1;rwa [bf] at this
  have hn:(p::ps)[i]? =some (p::ps)[i]:=ag hi;rw[dj hn] at hz;cases hz;rw[List.drop_eq_getElem_cons hi] at U;obtain⟨nn,hnn⟩:∃nn,nn=(p::ps)[i]:=⟨_,rfl⟩;rw[<-hnn] at U ⊢;obtain⟨y0,hy0⟩:=hp nn (by rw[hnn];exact List.getElem_mem hi)
  have U:(Dom.gU (rk O) N 1000 nn I).bind (λr'=>Dom.meet (rk O) N 1000 r' ((p::ps).drop (i+1)))=some q:=U;obtain⟨r,hc1,U⟩:=bs U;refine ba (aG rfl ?_);refine j3 (λm loc s=>s=st'/\∃u w,loc=[some (.ref a),some (.ref b),some (.ref c),some (.int ((w:Nat):Int)),some (.int (nn:Int)),some (.int ((u:Nat):Int))]/\Dom.gU (rk O) N m u w=some r/\(∃y,N u=some y)/\∃y,N w=some y) 1000 (by decide) ⟨rfl,nn,I,rfl,hc1,⟨y0,hy0⟩,⟨z0,Y⟩⟩ λm loc s hI=>?_
  obtain⟨rfl,u,w,rfl,B,⟨yu,F⟩,⟨yw,J⟩⟩:=hI;refine bj (aG rfl (aG rfl (qN ⟨_,rfl,λz=>?_,λz=>?_⟩)))
  ·have hne:¬u=w:=λe=>by subst e;simp at z
   cases m with
   |zero=>cases B
   |succ m=>
    refine⟨m,rfl,?_⟩;unfold Dom.gU at B;rw[if_neg hne] at B;refine cZ (bj (bI (aG rfl (aG rfl (fV hc (hR' u yu F) (bI (aG rfl (aG rfl (fV hc (hR' w yw J) (w_lt ⟨_,rfl,λz=>?_,λz=>?_⟩))))))))))
    ·have z:((rk O u:Nat):Int)<(rk O w:Nat):=of_decide_eq_true z;have z:rk O u<rk O w:=by omega
     rw[if_pos z,F] at B;have hu0:u≠0∨u=0:=by omega
     refine ba (bI (aG rfl (aG rfl (fV hb (hN.at F) (aN (bd (aN (bU ⟨rfl,yu,w,rfl,B,?_,⟨yw,J⟩⟩))))))));rcases hu0 with hu0|rfl
     ·exact(K.up u yu hu0 F).2
     ·rw[K.zero] at F;cases F;exact⟨0,K.zero⟩
    ·have z:¬((rk O u:Nat):Int)<(rk O w:Nat):=of_decide_eq_false z;have z:¬rk O u<rk O w:=by omega
     rw[if_neg z,J] at B;have Z:w≠0∨w=0:=by omega
     refine ba (bI (aG rfl (aG rfl (fV hb (hN.at J) (aN (bd (aN (bU ⟨rfl,u,yw,rfl,B,⟨yu,F⟩,?_⟩))))))));rcases Z with Z|rfl
     ·exact(K.up w yw Z J).2
     ·rw[K.zero] at J;cases J;exact⟨0,K.zero⟩
  ·have he:u=w:=by
    have:(u:Int)=w:=by simpa using z
    omega
   subst he
   have hr:r=u:=by
    cases m with
    |zero=>cases B
    |succ m=>unfold Dom.gU at B;rw[if_pos rfl] at B;exact(ai B).symm
   subst hr;exact aN (bU ⟨rfl,r,_,_,rfl,U,⟨yu,F⟩⟩)
 ·obtain⟨rfl,I,x,y,rfl,U,z0,Y⟩:=hI;rw[bf,List.drop_length] at U;have:I=q:=ai U;subst this;exact bd (bC (aG rfl (bD h)))
end
theorem Df{a b:a9}(h:a.length<=b.length)(k:∀i,i<a.length->b[i]? =a[i]?):Gr a b:=by
 refine⟨b.drop a.length,List.ext_getElem? λi=>?_⟩;by_cases hi:i<a.length
 ·rw[aC hi,k i hi]
 ·rw[aE (by omega),List.getElem?_drop]
  congr 1;omega
theorem Bu.gr2{s a b:a9}(h:Bu n a b)(g:Gr s a)(c:s.length<=n):Gr s b:=
 Df (aR g.le h.le) λi hi=>by
  rw[h.same i (az hi g.le) (by omega)]
  obtain⟨t,rfl⟩:=g;rw[aC hi]
noncomputable def vt(o:Nat)(O:List Nat):List (Key×D):=(O.zipIdx o).map λp=>(.inl (p.1:Int),.int (p.2:Int))
noncomputable def jy(O:List Nat):List (Key×D):=vt 0 O
theorem fX(o x:Nat)(O:List Nat):vt o (x::O)=(.inl (x:Int),.int (o:Int))::vt (o+1) O:=rfl
theorem vq:∀(o:Nat)(O:List Nat),n_ ((O.zipIdx o).map λp=>D.tup [.int (p.1:Int),.int (p.2:Int)])=some (vt o O)
 |_,[]=>rfl
 |o,x::O=>by rw[fX,List.zipIdx_cons,List.map_cons];unfold n_;rw[vq (o+1) O];rfl
theorem jL:∀(o:Nat)(O:List Nat),(vt o O).map (·.1)=O.map λ(x:Nat)=>(Sum.inl (x:Int):Key)
 |_,[]=>rfl
 |o,x::O=>by rw[fX,List.map_cons,jL (o+1) O,List.map_cons]
theorem np:∀(ps acc:List (Key×D)),((acc++ps).map (·.1)).Nodup->ps.foldl (λacc p=>bP acc p.1 p.2) acc=acc++ps
 |[],acc,_=>by rw[List.append_nil];rfl
 |p::ps,acc,h=>by
  rw[List.foldl_cons,eU]
  ·have:=np ps (acc++[(p.1,p.2)]) (by rw[List.append_assoc];exact h)
   rw[this,List.append_assoc];rfl
  ·intro q c z;rw[List.map_append,List.nodup_append] at h;exact h.2.2 q.1 (List.mem_map_of_mem c) p.1 (by simp) z
theorem xN{O:List Nat}(nd:O.Nodup):pc (jy O)=jy O:=by
 have:=np (jy O) [] (by rw[List.nil_append];unfold jy;rw[jL];exact List.Pairwise.map _ (λa b h z=>h (Int.ofNat_inj.mp (Sum.inl.inj z))) nd)
 exact this
theorem vo:∀(o:Nat)(O:List Nat) (x:Nat),bH (vt o O) (.inl (x:Int))=if x∈O then some (.int ((o+O.idxOf x:Nat):Int)) else none
 |_,[],_=>rfl
 |o,y::O,x=>by
  rw[fX];unfold bH;by_cases h:y=x
  ·subst h;rw[if_pos rfl,if_pos (.head _)];simp
  ·rw[if_neg (λz=>h (Int.ofNat_inj.mp (Sum.inl.inj z))),vo (o+1) O x]
   have e:(y::O).idxOf x=O.idxOf x+1:=by
    rw[List.idxOf_cons];have:(y==x)=false:=by simpa using h
    rw[this];rfl
   by_cases hx:x∈O
   ·rw[if_pos hx,if_pos (.tail _ hx),e];congr 3;omega
   ·rw[if_neg hx,if_neg (λz=>by rcases List.mem_cons.mp z with z|z;exact h z.symm;exact hx z)]
theorem vp(O:List Nat)(x:Nat):bH (jy O) (.inl (x:Int))=if x∈O then some (.int ((rk O x:Nat):Int)) else none:=by have:=vo 0 O x;rw[Nat.zero_add] at this;exact this
theorem CM(O:List Nat):ND (jy O) λx=>if x∈O then some (rk O x) else none:=λx=>by
 rw[vp];dsimp only;by_cases h:x∈O
 ·rw[if_pos h,if_pos h];rfl
 ·rw[if_neg h,if_neg h];rfl
section
variable{g:fR}{loc:Loc}{st:a9}{Q:D->a9->Prop}{Ws:List (List Nat)}{O:List Nat}
theorem uj{o:Nat}(h1:loc[1]? =some (some (.ref o)))(ho:st[o]? =some (.lst ((zs O).map .int)))(nd:O.Nodup)(I:O.length<=1000)(h:∀m st1,Gr st st1->st.length<=m->st1[m]? =some (.dct (jy O))->Q (.ref m) st1):
  W (run g (.bt .dict [(.compE (.v 1) (.tup [(.v 1),(.v 0)]))]) loc st) Q:=by
 refine ca (af (qT (aG h1 ⟨_,rfl,?_⟩)));have F:bV (.en o) st=((zs O).map D.int).length:=by simp only[bV,ho]
 refine bS (L:=fh 0 ((zs O).map .int)) (by rw[F,bf];omega) (by rw[F,cW];exact ac _) (λi acc st1=>st1=st/\acc=(((O.zipIdx 0).map λp=>D.tup [.int (p.1:Int),.int (p.2:Int)])).take i) ⟨rfl,rfl⟩ (λi acc st1 B=>by obtain⟨rfl,_⟩:=B;simp only[eK,ho,cH,Nat.zero_add]) (λi z acc st1 c B=>?_) λacc st1 B=>?_
 ·obtain⟨rfl,rfl⟩:=B;rw[cH] at c;cases hx:O[i]? with
  |none=>
   have:((zs O).map D.int)[i]? =none:=aZ (by rw[bf];exact List.getElem?_eq_none_iff.mp hx)
   rw[this] at c;cases c
  |some x=>rw[dj hx] at c;have c:D.tup [.int ((0+i:Nat):Int),.int (x:Int)]=z:=ai c;rw[Nat.zero_add] at c;subst c;refine jG (bh (af (aG rfl (af (aG rfl (ao ⟨rfl,?_⟩))))));dsimp only;rw[List.take_add_one,aj,List.getElem?_zipIdx,hx];simp
 ·obtain⟨rfl,rfl⟩:=B;rw[List.take_of_length_le (by simp[cW,zs])]
  refine ao (qQ aD (vq 0 O) ?_);rw[show pc (vt 0 O)=jy O from xN nd];exact h _ _ ((Gr.one _ _).more _) (by simp) aD
theorem xw(l:List Nat):∃l':List Nat,Tab23.dM (zs l)=zs l'/\(∀x,x∈l'↔x∈l)/\l'.length=l.length:=by
 have B:∀x∈Tab23.dM (zs l),∃v∈l,(v:Int)=x:=λx c=>iP.mp ((Tab23.cT _).mem_iff.mp c)
 have e:zs ((Tab23.dM (zs l)).map Int.toNat)=Tab23.dM (zs l):=by
  unfold zs;rw[List.map_map]
  conv=>rhs;rw[<-List.map_id (Tab23.dM (l.map λ(a:Nat)=>(a:Int)))]
  refine List.map_congr_left λx c=>?_;obtain⟨v,_,rfl⟩:=B x c;simp
 refine⟨(Tab23.dM (zs l)).map Int.toNat,e.symm,λx=>?_,?_⟩
 ·have h1:(x:Int)∈zs ((Tab23.dM (zs l)).map Int.toNat)↔x∈(Tab23.dM (zs l)).map Int.toNat:=by rw[iP];exact⟨λ⟨v,hv,e⟩=>(Int.ofNat_inj.mp e)▸hv,λh=>⟨x,h,rfl⟩⟩
  rw[<-h1,e,(Tab23.cT _).mem_iff,iP];exact⟨λ⟨v,hv,e⟩=>(Int.ofNat_inj.mp e)▸hv,λh=>⟨x,h,rfl⟩⟩
 ·rw[List.length_map,(Tab23.cT _).length_eq];simp[zs]
theorem sC{o rn bk:Nat}(h1:loc[1]? =some (some (.ref o)))(h2:loc[2]? =some (some (.ref rn)))(h3:loc[3]? =some (some (.ref bk)))(ho:st[o]? =some (.lst ((zs O).map .int)))(hr:st[rn]? =some (.dct (jy O)))(hB:ci st bk Bs)(nd:O.Nodup)(hl:O.length<=1000)
  (hBs:∀b∈O,b<Bs.length)(hB3:∀ws∈Bs,ws.length<=30)(hBm:∀v u:Nat,u∈wf Bs v↔v∈wf Ws u)
  (h:∀Ls m st1,Gr st st1->st.length<=m->ci st1 m Ls->LsOk Ws O Ls->Q (.ref m) st1):
  W (run g (.comp false (.v 1) (.bt .sorted [(.compIf (.ix (.v 4) (.v 0)) (.cmp .In (.v 0) (.v 4)) (.ix (.v 4) (.v 0)))])) loc st) Q:=by
 obtain⟨bs,b1,b2,b3⟩:=hB;refine d7 (aG h1 ⟨_,rfl,?_⟩);have hL:bV (.at o) st=((zs O).map D.int).length:=by simp only[bV,ho]
 refine bS (L:=(zs O).map .int) (by rw[hL,bf];omega) (by rw[hL];exact ac _) (λi acc st1=>Gr st st1/\∃(rs:List Nat)(Ls:List (List Nat)),acc=rs.map .ref/\rs.length=i/\Ls.length=i/\(∀(j r:Nat)(ws:List Nat),rs[j]? =some r->Ls[j]? =some ws->st1[r]? =some (.lst ((zs ws).map .int)))/\(∀ws∈Ls,ws.length<=60)/\∀(j:Nat)(ws:List Nat) (b:Nat),Ls[j]? =some ws->O[j]? =some b->∀x,x∈ws↔∃p∈O,b∈wf Ws p/\O.idxOf p=x) ⟨.refl _,[],[],rfl,rfl,rfl,λj r ws a _=>by simp at a,(λws hw=>nomatch hw),λj ws b a _=>by simp at a⟩ (λi acc st1 F=>by obtain⟨g,_⟩:=F;simp only[eK,g.at ho]) (λi z acc st1 hz F=>?_) λacc st1 F=>?_
 ·obtain⟨Y,rs,Ls,rfl,U,B,hat,hsz,hmm⟩:=F;obtain⟨b,hx,rfl⟩:=my hz;have hbl:b<Bs.length:=hBs b (ak hx);have hBb:Bs[b]? =some Bs[b]:=ag hbl;have hbs:bs[b]? =some (bs[b]'(by omega)):=ag (by omega)
  have Z:=b3 b _ _ hbs hBb;refine gN (ca (af (e8 (bI (aG (i:=4) h3 (aG rfl (dk (Y.at b1) (cw (by rw[aj,hbs];rfl)) ⟨_,rfl,?_⟩)))))))
  have hL2:bV (.at (bs[b]'(by omega))) st1=((zs Bs[b]).map D.int).length:=by simp only[bV,Y.at Z]
  have h30:=hB3 _ (List.getElem_mem hbl);refine bS (L:=(zs Bs[b]).map .int) (by rw[hL2,bf];omega) (by rw[hL2];exact ac _) (λj acc s=>s=st1/\acc=(zs (((Bs[b].take j).filter λu=>decide (u∈O)).map λu=>O.idxOf u)).map .int) ⟨rfl,rfl⟩ (λj acc s F=>by obtain⟨rfl,_⟩:=F;simp only[eK,Y.at Z]) (λj z acc s hz F=>?_) λacc s F=>?_
  ·obtain⟨rfl,rfl⟩:=F
   have hj:j<Bs[b].length:=by have:=(aw hz).1;rwa [bf] at this
   have hu:Bs[b][j]? =some Bs[b][j]:=ag hj;rw[dj hu] at hz;cases hz;obtain⟨u,huu⟩:∃u,u=Bs[b][j]:=⟨_,rfl⟩;rw[<-huu] at hu ⊢;have tk:Bs[b].take (j+1)=Bs[b].take j++[u]:=by rw[List.take_add_one,hu];rfl
   refine gA (bj (aG rfl (aG (i:=4) h2 (uq (Y.at hr) rfl ⟨_,rfl,λz=>?_,λz=>?_⟩))))
   ·have hv:=vp O u
    have J:u∈O:=by
     by_cases J:u∈O
     ·exact J
     ·rw[hv,if_neg J] at z;cases z
    rw[if_pos J] at hv;refine bI (aG (i:=4) h2 (aG rfl (fV (Y.at hr) hv ⟨rfl,?_⟩)));dsimp only;rw[tk,List.filter_append,List.map_append,dJ,List.filter_cons_of_pos (by simpa using J)]
    rfl
   ·have hv:=vp O u;have J:u∉O:=λJ=>by rw[hv,if_pos J] at z;cases z
    refine⟨rfl,?_⟩;dsimp only;rw[tk,List.filter_append,List.map_append,dJ,List.filter_cons_of_neg (by simpa using J)]
    simp[zs]
  ·obtain⟨rfl,rfl⟩:=F;rw[bf,List.take_length];obtain⟨l',e1,e2,e3⟩:=xw ((Bs[b].filter λu=>decide (u∈O)).map λu=>O.idxOf u)
   have hle:l'.length<=30:=by rw[e3,List.length_map];have:=List.length_filter_le (λu=>decide (u∈O)) Bs[b];omega
   refine ao (il aD (by unfold zs;rw[List.length_map,<-e3];omega) ?_)
   rw[e1];have g2:=(Y.more (.lst ((zs ((Bs[b].filter λu=>decide (u∈O)).map λu=>O.idxOf u)).map D.int))).more (.lst ((zs l').map D.int));refine⟨g2,rs++[(s++[Ev.O.lst ((zs ((Bs[b].filter λu=>decide (u∈O)).map λu=>O.idxOf u)).map D.int)]).length],Ls++[l'],by simp,by simp[U],by simp[B],λj r ws I h5=>?_,λws hw=>?_,λj ws b' I h5=>?_⟩
   ·by_cases hj:j<rs.length
    ·rw[aC hj] at I;rw[aC (by omega)] at h5
     exact aV (aV (hat j r ws I h5))
    ·have hj2:j=i:=by have:=(aw I).1;simp at this;omega
     subst hj2;rw[aE (by omega),U,Nat.sub_self] at I
     rw[aE (by omega),B,Nat.sub_self] at h5
     cases I;cases h5;exact aD
   ·rcases List.mem_append.mp hw with hw|hw
    ·exact hsz ws hw
    ·rw[List.mem_singleton.mp hw];omega
   ·by_cases hj:j<Ls.length
    ·rw[aC hj] at I;exact hmm j ws b' I h5
    ·have hj2:j=i:=by have:=(aw I).1;simp at this;omega
     subst hj2;rw[aE (by omega),B,Nat.sub_self] at I
     cases I;rw[hx] at h5;cases h5;intro x;rw[e2,List.mem_map];constructor
     ·rintro⟨u,hu,rfl⟩;rw[List.mem_filter] at hu;exact⟨u,by simpa using hu.2,(hBm b u).mp (by rw[ik hBb];exact hu.1),rfl⟩
     ·rintro⟨p,hp,e,rfl⟩;refine⟨p,List.mem_filter.mpr ⟨?_,by simpa using hp⟩,rfl⟩
      have:=(hBm b p).mpr e;rw[ik hBb] at this;exact this
 ·obtain⟨Y,rs,Ls,rfl,U,B,hat,hsz,hmm⟩:=F;rw[bf] at U B;refine h Ls _ _ (Y.more _) Y.le ⟨rs,aD,by omega,λj r ws a c=>aV (hat j r ws a c)⟩ ⟨B,hsz,λj b hb x=>?_⟩
  have hj:j<Ls.length:=by rw[B];exact(aw hb).1
  have e:Ls[j]? =some Ls[j]:=ag hj;rw[ik e];exact hmm j _ b e hb x
end
section
variable{Ws:List (List Nat)}{O:List Nat}
noncomputable def di(O:List Nat):List Nat:=O.dropLast.reverse
theorem DH(h:(di O)[j]? =some b):j+1<O.length/\O[O.length - 2 - j]? =some b:=by
 have c:=(aw h).1;unfold di at h c;rw[List.length_reverse,List.length_dropLast] at c;refine⟨by omega,?_⟩
 rw[List.getElem?_reverse (by rw[List.length_dropLast];omega),List.length_dropLast,List.getElem?_dropLast] at h
 rw[if_pos (by omega)] at h
 rw[show O.length - 2 - j=O.length - 1 - 1 - j by omega]
 exact h
theorem qI:(di O).length=O.length - 1:=by unfold di;rw[List.length_reverse,List.length_dropLast]
theorem gw(I:Go.Inv (wf Ws) [] O){x:Nat}:x∈di O↔Dom.bm (Ed Ws) x/\x≠0:=by
 obtain⟨l,rfl⟩:=xa I;have nd:=tZ I;rw[List.nodup_append] at nd;unfold di;rw[cK I,List.mem_reverse,List.dropLast_concat,List.mem_append,List.mem_singleton];constructor
 ·intro h;exact⟨.inl h,λz=>nd.2.2 x h 0 (by simp) z⟩
 ·rintro⟨h|h,c⟩
  ·exact h
  ·exact absurd h c
theorem wV(I:Go.Inv (wf Ws) [] O):(di O).Pairwise λx y=>rk O y<rk O x:=by
 have nd:=tZ I;unfold di;rw[List.pairwise_reverse,List.pairwise_iff_getElem];intro i j hi B c;rw[List.length_dropLast] at hi B;rw[List.getElem_dropLast,List.getElem_dropLast];show O.idxOf _<O.idxOf _;rw[nd.idxOf_getElem i (by omega),nd.idxOf_getElem j (by omega)]
 exact c
theorem DG(I:Go.Inv (wf Ws) [] O):(di O).Nodup:=(wV I).imp λh z=>by rw[z] at h;exact be _ h
theorem Az{q:Nat}(h:N b=some q):Dom.put N b q=N:=by
 funext x;unfold Dom.put;by_cases e:x=b
 ·rw[if_pos e,e,h]
 ·rw[if_neg e]
theorem ND.put(h:ND kv N)(b q:Nat):ND (bP kv (.inl (b:Int)) (.int (q:Int))) (Dom.put N b q):=λx=>by
 have F:∀(kv:List (Key×D))(key c:Key)(v:D),bH (bP kv key v) c=if key=c then some v else bH kv c:=by
  intro kv key c v;cases hv:bH kv key with
  |none=>exact qU hv
  |some d=>
   have B:(kv.any λp=>decide (p.1=key))=true:=by
    have:∀{kv:List (Key×D)},bH kv key≠none->(kv.any λp=>decide (p.1=key))=true:=by
     intro kv
     induction kv with
     |nil=>intro h;exact absurd rfl h
     |cons p r ih=>
      intro h;unfold bH at h;by_cases e:p.1=key
      ·simp[e]
      ·rw[if_neg e] at h;rw[List.any_cons,ih h,Bool.or_true]
    exact this (by rw[hv];simp)
   unfold bP;rw[if_pos B]
   have:∀{kv:List (Key×D)},bH (kv.map λp=>if p.1=key then(p.1,v) else p) c=if key=c then(if(kv.any λp=>decide (p.1=key))=true then some v else none) else bH kv c:=by
    intro kv
    induction kv with
    |nil=>by_cases e:key=c<;>simp[bH,e]
    |cons p r ih=>
     rw[List.map_cons];by_cases e:p.1=key
     ·rw[if_pos e];unfold bH;by_cases e2:key=c
      ·rw[if_pos (show p.1=c from e.trans e2),if_pos e2,List.any_cons,decide_eq_true e,Bool.true_or,if_pos rfl]
      ·rw[if_neg (λz=>e2 (e.symm.trans z)),if_neg e2,if_neg (λz=>e2 (e.symm.trans z)),ih,if_neg e2]
     ·rw[if_neg e];unfold bH;by_cases e2:key=c
      ·rw[if_neg (λz=>e (z.trans e2.symm)),ih,if_pos e2,if_pos e2,List.any_cons,decide_eq_false e,Bool.false_or]
      ·rw[if_neg e2];by_cases e3:p.1=c
       ·rw[if_pos e3,if_pos e3]
       ·rw[if_neg e3,if_neg e3,ih,if_neg e2]
   rw[this,B,if_pos rfl]
 rw[F];unfold Dom.put;by_cases e:x=b
 ·subst e;rw[if_pos rfl,if_pos rfl];rfl
 ·rw[if_neg (λz=>e (Int.ofNat_inj.mp (Sum.inl.inj z)).symm),if_neg e];exact h x
theorem rC(kv:List (Key×D))(key:Key)(v:D):(bP kv key v).length<=kv.length+1:=by
 unfold bP;split
 ·rw[List.length_map];omega
 ·rw[aB];simp
theorem EM{q:Nat}(o:Option Nat):dF 60 st ((o.map λ(y:Nat)=>D.int (y:Int)).getD .non) (.int (q:Int))=some (decide (o=some q)):=by
 cases o with
 |none=>simp[dF,shape,nL]
 |some y=>
  have:decide ((y:Int)=q)=decide (some y=some q):=by
   by_cases h:y=q
   ·subst h;simp
   ·simp[h];omega
  simp only[Option.map_some,Option.getD_some];rw[<-this];simp[dF,shape,nL];rfl
end
section
variable{k:Nat}{st:a9}{Q:Fl->a9->Prop}{Ws:List (List Nat)}{O:List Nat}{ss:List S}
structure Pa(O:List Nat)(Ls:List (List Nat))(N:Nat->Option Nat)(nd:Nat)(s0 st:a9)(L0 j:Nat)(c:Bool):Prop where
 bu:Bu nd s0 st
 at_:∃kv,st[nd]? =some (.dct kv)/\ND kv (Dom.go (d_ O Ls) N ((di O).take j))/\kv.length<=L0+j
 same:c=false->Dom.go (d_ O Ls) N ((di O).take j)=N
 new:c=true->∃x∈(di O).take j,Dom.go (d_ O Ls) N ((di O).take j) x≠N x
theorem Pa.same_{Ls:List (List Nat)}{st:a9}{q:Nat}{c:Bool}(h:Pa O Ls N nd s0 st L0 j c)(Y:(di O)[j]? =some b)(B:Gr st st')(J:nd<s0.length)(I:d_ O Ls (Dom.go (d_ O Ls) N ((di O).take j)) b=q)(e:Dom.go (d_ O Ls) N ((di O).take j) b=some q):Pa O Ls N nd s0 st' L0 (j+1) c:=by
 have tk:(di O).take (j+1)=(di O).take j++[b]:=by rw[List.take_add_one,Y];rfl
 have eq:Dom.go (d_ O Ls) N ((di O).take (j+1))=Dom.go (d_ O Ls) N ((di O).take j):=by rw[tk,Dom.jb];show Dom.put _ b (d_ O Ls _ b)=_;rw[I];exact Az e
 obtain⟨kv,h1,Z,h3⟩:=h.at_;refine⟨h.bu.trans (Bu.gr B),⟨kv,B.at h1,by rw[eq];exact Z,by omega⟩,λz=>by rw[eq];exact h.same z,λz=>?_⟩
 obtain⟨x,F,U⟩:=h.new z;exact⟨x,by rw[tk];exact aS _ F,by rw[eq];exact U⟩
theorem Pa.put{Ls:List (List Nat)}{st:a9}{q:Nat}{c:Bool}(h:Pa O Ls N nd s0 st L0 j c)(I:Go.Inv (wf Ws) [] O)(U:(di O)[j]? =some b)(J:Gr st st')(F:nd<s0.length)(Z:d_ O Ls (Dom.go (d_ O Ls) N ((di O).take j)) b=q)(e:Dom.go (d_ O Ls) N ((di O).take j) b≠some q)(hk:st[nd]? =some (.dct kv)):
  Pa O Ls N nd s0 (st'.set nd (.dct (bP kv (.inl (b:Int)) (.int (q:Int))))) L0 (j+1) true:=by
 have tk:(di O).take (j+1)=(di O).take j++[b]:=by rw[List.take_add_one,U];rfl
 have eq:Dom.go (d_ O Ls) N ((di O).take (j+1))=Dom.put (Dom.go (d_ O Ls) N ((di O).take j)) b q:=by rw[tk,Dom.jb];show Dom.put _ b (d_ O Ls _ b)=_;rw[Z]
 have B:b∉(di O).take j:=m3 (DG I) U;obtain⟨Y,h1,h2,h3⟩:=h.at_;rw[hk] at h1;cases h1;have hl:=rC kv (.inl (b:Int)) (.int (q:Int));refine⟨(h.bu.trans (Bu.gr J)).set (.inl rfl),⟨_,bK (az F (h.bu.trans (Bu.gr (l:=nd) J)).le),by rw[eq];exact h2.put b q,by omega⟩,nofun,λ_=>⟨b,by rw[tk];simp,?_⟩⟩
 rw[eq,Dom.e_,<-Dom.gd (upd:=d_ O Ls) (N:=N) B];exact λz=>e z.symm
theorem wx(I:Go.Inv (wf Ws) [] O){Ls:List (List Nat)}(L:LsOk Ws O Ls)(hO:O.length<=100)(K:Dom.Ok (Ed Ws) (rk O) N)(A:∀x,Dom.bm (Ed Ws) x->x∈di O∨∃y,N x=some y)(B:(di O)[j]? =some b):
  Dom.Ok (Ed Ws) (rk O) (Dom.go (d_ O Ls) N ((di O).take j))/\∃f∈pre O Ls b,∃y,Dom.go (d_ O Ls) N ((di O).take j) f=some y:=by
 have U:=uv I L hO;have up:=wV I;have F:=(aw B).1;obtain⟨K1,A1⟩:=Dom.l7 (w_ I) U (l:=(di O).take j) (l2:=(di O).drop j) K (by rw[List.take_append_drop];exact up) (λx hx=>(gw I).mp (List.mem_of_mem_take hx)) (by rw[List.take_append_drop];exact A)
 refine⟨K1,?_⟩;obtain⟨Z,c⟩:=(gw I).mp (ak B);obtain⟨f,e,Y,hl⟩:=U.par b c Z;refine⟨f,(rF L ((cK I).mp Z)).mpr ⟨e,(cK I).mp Y⟩,(A1 f Y).resolve_left λz=>?_⟩;rw[List.drop_eq_getElem_cons F] at z;have J:(di O)[j]=b:=(aw B).2;rw[J] at z;rcases List.mem_cons.mp z with rfl|z
 ·omega
 ·have up2:((di O).drop j).Pairwise λx y=>rk O y<rk O x:=up.sublist (List.drop_sublist _ _);rw[List.drop_eq_getElem_cons F,J] at up2;have:=(List.pairwise_cons.mp up2).1 f z;omega
theorem zM{o rn bk ld:Nat}{x y:Option D}{Ls:List (List Nat)}(I:Go.Inv (wf Ws) [] O)(L:LsOk Ws O Ls)(hO:O.length<=100)(ho:st[o]? =some (.lst ((zs O).map .int)))(hr:st[rn]? =some (.dct (jy O)))(hl:ci st ld Ls)(hd:st[nd]? =some (.dct kv))(hrn:rn≠nd)(hN:ND kv N)(hk:kv.length<=900000)
  (K:Dom.Ok (Ed Ws) (rk O) N)(A:∀x,Dom.bm (Ed Ws) x->x∈di O∨∃y,N x=some y)
  (h:∀(c:Bool)(x y:Option D) st1,Pa O Ls N nd st st1 kv.length (di O).length c->W (execs (calls tab (k+1)) ss [some (.ref w),some (.ref o),some (.ref rn),some (.ref bk),some (.ref ld),some (.ref nd),some (.bl c),x,y] st1) Q):
  W (execs (calls tab (k+1)) (.forD 7 (.bin .sub (.bt .len [(.v 1)]) (.c (.int (2)))) [.set 8 (.fn 6 [(.compIf (.ix (.v 4) (.v 7)) (.cmp .In (.ix (.v 2) (.v 0)) (.v 6)) (.ix (.v 2) (.v 0))),(.v 5),(.v 2)]),.ite (.cmp .NotEq (.dget1 (.v 5) (.ix (.v 1) (.v 7))) (.v 8)) [.setix (.v 5) (.ix (.v 1) (.v 7)) (.v 8),.set 6 (.c (.bl true))] []]::ss) [some (.ref w),some (.ref o),some (.ref rn),some (.ref bk),some (.ref ld),some (.ref nd),some (.bl false),x,y] st) Q:=by
 obtain⟨ls0,hl0,hll,hlr⟩:=id hl;have hnd:nd<st.length:=(aw hd).1;have hpos:0<O.length:=by obtain⟨l,rfl⟩:=xa I;simp
 refine xo (bG (ca (af (aG rfl (ao (fU ho (bo (w_sub ⟨_,rfl,by rw[bf];omega,?_⟩))))))))
 rw[bf];have hn:((O.length:Int) - 2+1).toNat=(di O).length:=by rw[qI];omega
 rw[hn];have hLL:(eO ((O.length:Int) - 2) (di O).length).length=(di O).length:=by simp[eO]
 refine cy (L:=eO ((O.length:Int) - 2) (di O).length) (ac _) (λj loc st'=>∃(c:Bool)(x y:Option D),loc=[some (.ref w),some (.ref o),some (.ref rn),some (.ref bk),some (.ref ld),some (.ref nd),some (.bl c),x,y]/\Pa O Ls N nd st st' kv.length j c) ⟨false,x,y,rfl,⟨ac _,λ_ _ _=>rfl⟩,⟨kv,hd,by rw[List.take_zero];exact hN,ac _⟩,λ_=>by rw[List.take_zero];rfl,nofun⟩ (λ_ _ _ _=>rfl) (λj z loc st' hz Z=>?_) λloc st' Z=>?_
 ·obtain⟨c,x,y,rfl,P⟩:=Z
  have hj:j<(di O).length:=by have:=(aw hz).1;rwa [hLL] at this
  have hz':(eO ((O.length:Int) - 2) (di O).length)[j]? =some (.int ((O.length:Int) - 2 - (j:Int))):=by simp[eO,hj]
  rw[hz'] at hz;cases hz;have F:(di O)[j]? =some (di O)[j]:=ag hj;obtain⟨b,hb⟩:∃b,b=(di O)[j]:=⟨_,rfl⟩;rw[<-hb] at F;obtain⟨hj2,B⟩:=DH F;obtain⟨p,hp⟩:∃p,p=O.length - 2 - j:=⟨_,rfl⟩;rw[<-hp] at B;have hpi:(O.length:Int) - 2 - (j:Int)=(p:Int):=by omega
  rw[hpi];have nd':=tZ I;have hib:O.idxOf b=p:=wj nd' B;obtain⟨K1,hf⟩:=wx I L hO K A F;obtain⟨Nj,U⟩:∃Nj,Nj=Dom.go (d_ O Ls) N ((di O).take j):=⟨_,rfl⟩;obtain⟨kv',k1,k2,k3⟩:=P.at_;rw[<-U] at K1 hf k2;obtain⟨p0,ps,q,u1,u2,u3,u4,u5⟩:=nO I hO K1 hf;have hpl:p<Ls.length:=by rw[L.ln];exact(aw B).1
  have hLp:Ls[p]? =some Ls[p]:=ag hpl;have hls:ls0[p]? =some (ls0[p]'(by omega)):=ag (by omega)
  have hatl:=hlr p _ _ hls hLp;have hne:∀{i:Nat}{xs:List D},st[i]? =some (.lst xs)->i≠nd:=λa z=>by rw[z,hd] at a;cases a
  have Y:=P.bu.at ho (hne ho);have J:=P.bu.at hatl (hne hatl);have hr':=P.bu.at hr hrn;have hpre:pre O Ls b=Ls[p].map λx=>O.getD x 0:=by unfold pre;rw[hib,ik hLp]
  refine ba (b_ (af (e8 (bI (aG rfl (aG rfl (dk (P.bu.at hl0 (hne hl0)) (cw (by rw[aj,hls];rfl)) ⟨_,rfl,?_⟩)))))))
  have hL2:bV (.at (ls0[p]'(by omega))) st'=((zs Ls[p]).map D.int).length:=by simp only[bV,J]
  have h60:=L.sz _ (List.getElem_mem hpl);refine bS (L:=(zs Ls[p]).map .int) (by rw[hL2,bf];omega) (by rw[hL2];exact ac _) (λi acc s=>s=st'/\acc=(zs (((Ls[p].take i).map λx=>O.getD x 0).filter λp=>(Nj p).isSome)).map .int) ⟨rfl,rfl⟩ (λi acc s Z=>by obtain⟨rfl,_⟩:=Z;simp only[eK,J]) (λi z acc s hz Z=>?_) λacc s Z=>?_
  ·obtain⟨rfl,rfl⟩:=Z
   have hi:i<Ls[p].length:=by have:=(aw hz).1;rwa [bf] at this
   have hu:Ls[p][i]? =some Ls[p][i]:=ag hi;rw[dj hu] at hz;cases hz;obtain⟨u,huu⟩:∃u,u=Ls[p][i]:=⟨_,rfl⟩;have hum:u∈wf Ls p:=by rw[ik hLp,huu];exact List.getElem_mem hi
   rw[<-huu] at hu ⊢;obtain⟨q',hq',_,eq'⟩:=(L.mem p b B u).mp hum;have hOu:O[u]? =some (O.getD u 0):=by rw[<-eq',kG hq'];exact nD hq'
   have tk:Ls[p].take (i+1)=Ls[p].take i++[u]:=by rw[List.take_add_one,hu];rfl
   have hv:=k2 (O.getD u 0);refine gA (bj (bI (aG rfl (aG rfl (dk Y (cw (dj hOu)) (aG rfl (uq k1 rfl ⟨_,rfl,λz=>?_,λz=>?_⟩)))))))
   ·have hm:(Nj (O.getD u 0)).isSome=true:=by rw[hv] at z;simpa using z
    refine bI (aG rfl (aG rfl (dk Y (cw (dj hOu)) ⟨rfl,?_⟩)));dsimp only;rw[tk,List.map_append,List.filter_append,dJ,List.map_cons,List.map_nil,List.filter_cons_of_pos (p:=λp=>(Nj p).isSome) hm];rfl
   ·have hm:¬(Nj (O.getD u 0)).isSome=true:=by rw[hv] at z;simpa using z
    refine⟨rfl,?_⟩;dsimp only;rw[tk,List.map_append,List.filter_append,dJ,List.map_cons,List.map_nil,List.filter_cons_of_neg (p:=λp=>(Nj p).isSome) hm];simp[zs]
  ·obtain⟨rfl,rfl⟩:=Z;rw[bf,List.take_length,<-hpre,u1];have g1:Gr s (s++[Ev.O.lst ((zs (p0::ps)).map D.int)]):= .one _ _;refine af (aG rfl (af (aG rfl (ao ?_))));refine u9 K1 (λx y e=>(cK I).mp (K1.dom x y e)) aD (g1.at k1) (g1.at hr') k2 (CM O) (λx hx=>?_) u2 ?_
   ·rw[<-u1,List.mem_filter,Option.isSome_iff_exists] at hx;exact hx.2
   ·refine cZ (bj (qR (aG rfl ⟨nd,_,rfl,g1.at k1,bI (aG rfl (aG rfl (dk (g1.at Y) (cw (dj B)) ⟨_,_,g1.at k1,rfl,?_⟩)))⟩)));rw[k2 b];refine aG rfl (lj (EM (Nj b)) ⟨_,rfl,λz=>?_,λz=>?_⟩)
    ·have hn:¬Nj b=some q:=by simpa using z
     refine cN (aG rfl (aG rfl (bI (aG rfl (aG rfl (dk (g1.at Y) (cw (dj B)) (bY (g1.at k1) rfl (by omega) ?_)))))))
     exact ba (bo (aN (bd (aN (bU ⟨true,_,_,rfl,P.put I F g1 hnd (by rw[<-U];exact u3) (by rw[<-U];exact hn) k1⟩)))))
    ·have hn:Nj b=some q:=by simpa using z
     exact aN (bd (aN (bU ⟨c,_,_,rfl,P.same_ (q:=q) F g1 hnd (by rw[<-U];exact u3) (by rw[<-U];exact hn)⟩)))
 ·obtain⟨c,x,y,rfl,P⟩:=Z;rw[hLL] at P;exact bd (h c x y st' P)
end
section
variable{k w:Nat}{st:a9}{Q:D->a9->Prop}{Ws:List (List Nat)}{O:List Nat}
def ms(O:List Nat)(N:Nat->Option Nat):Nat:=((di O).map λx=>rk O 0 - rk O ((N x).getD 0)).sum
theorem uK{f g:Nat->Nat}:∀{l:List Nat},(∀x∈l,f x<=g x)->(l.map f).sum<=(l.map g).sum
 |[],_=>ac _
 |a::l,h=>by have h1:=h a (.head _);have B:=uK (l:=l) λx c=>h x (.tail _ c);simp only[List.map_cons,List.sum_cons];omega
theorem uJ{f g:Nat->Nat}:∀{l:List Nat},(∀x∈l,f x<=g x)->(∃x∈l,f x<g x)->(l.map f).sum<(l.map g).sum
 |[],_,⟨x,c,_⟩=>nomatch c
 |a::l,h,⟨x,c,hl⟩=>by
  have h1:=h a (.head _);have B:=uK (l:=l) λx c=>h x (.tail _ c);simp only[List.map_cons,List.sum_cons];rcases List.mem_cons.mp c with rfl|c
  ·omega
  ·have:=uJ (l:=l) (λx c=>h x (.tail _ c)) ⟨x,c,hl⟩;omega
theorem q_{f:Nat->Nat}{m:Nat}:∀{l:List Nat},(∀x∈l,f x<=m)->(l.map f).sum<=m*l.length
 |[],_=>ac _
 |a::l,h=>by have h1:=h a (.head _);have B:=q_ (l:=l) λx c=>h x (.tail _ c);simp only[List.map_cons,List.sum_cons,List.length_cons,Nat.mul_add];omega
theorem C7(B:O.length<=60)(N:Nat->Option Nat):ms O N<=3600:=by
 have h0:rk O 0<=60:=by have:O.idxOf 0<=O.length:=List.idxOf_le_length;show O.idxOf 0<=60;omega
 have:=q_ (l:=di O) (f:=λx=>rk O 0 - rk O ((N x).getD 0)) (m:=60) λx _=>by omega
 have c:(di O).length<=60:=by rw[qI];omega
 have:ms O N<=60*(di O).length:=this;omega
theorem C6(I:Go.Inv (wf Ws) [] O){P:Nat->Option Nat}(F:Dom.iO (Ed Ws) (rk O) P)(T:Dom.Turn (Ed Ws) (rk O) P N)(h:∃x∈di O,N x≠P x):ms O N<ms O P:=by
 have R:=w_ I
 have key:∀x∈di O,∃r q,P x=some r/\N x=some q/\rk O r<=rk O q/\(rk O r=rk O q->r=q)/\rk O q<=rk O 0:=λx c=>by obtain⟨cx,Y⟩:=(gw I).mp c;obtain⟨r,hr⟩:=F.all x cx;obtain⟨q,B⟩:=T.all x cx;obtain⟨_,z,hz⟩:=T.ok.up x q Y B;have:=Dom.sD R F T Y hr B;exact⟨r,q,hr,B,this.1,this.2,R.top q (T.ok.dom q z hz)⟩
 unfold ms;refine uJ (λx c=>?_) ?_
 ·obtain⟨r,q,U,J,h1,h2,h3⟩:=key x c;rw[U,J];simp only[Option.getD_some];omega
 ·obtain⟨x,c,Z⟩:=h;refine⟨x,c,?_⟩;obtain⟨r,q,U,J,h1,h2,h3⟩:=key x c;rw[U,J] at Z ⊢;simp only[Option.getD_some];have:rk O r≠rk O q:=λz=>Z (by rw[h2 z])
  omega
structure Nr(Ws:List (List Nat))(N:Nat->Option Nat):Prop where
 all:∀x,Dom.bm (Ed Ws) x->∃y,N x=some y
 zero:N 0=some 0
 dom:∀x y,N x=some y->Dom.bm (Ed Ws) x
 come:∀x y,N x=some y->Dom.bm (Ed Ws) y
 chain:∀b c,Dom.bm (Ed Ws) b->(Dom.Chain N b c↔Dom.cn (Ed Ws) c b)
 off:∀x y,x≠0->N x=some y->¬Dom.cn (Ed Ws) x y
theorem C4(I:Go.Inv (wf Ws) [] O)(F:Dom.iO (Ed Ws) (rk O) N)(T:Dom.Turn (Ed Ws) (rk O) N N):Nr Ws N:=by
 have R:=w_ I
 have J:∀x y,N x=some y->Dom.bm (Ed Ws) y:=λx y e=>by
  by_cases B:x=0
  ·subst B;rw[F.ok.zero] at e;cases e;exact⟨_,.nil⟩
  ·obtain⟨_,z,U⟩:=F.ok.up x y B e;exact F.ok.dom y z U
 refine⟨F.all,F.ok.zero,F.ok.dom,J,λb c Y=>Dom.nQ R F T Y,λx y B e z=>?_⟩;have:=(((Dom.nQ R F T (J x y e)).mpr z).le F.ok).1;have:=(F.ok.up x y B e).1;omega
theorem A6:ND [(.inl 0,.int 0)] Dom.f7:=λx=>by
 unfold bH;by_cases h:x=0
 ·subst h;rfl
 ·have:¬((Sum.inl 0:Key)=.inl (x:Int)):=λz=>h (Int.ofNat_inj.mp (Sum.inl.inj z)).symm;rw[if_neg this];simp[bH,Dom.f7,h]
theorem sM(hW:ci st w Ws)(hn:0<Ws.length/\Ws.length<=9)(hw:∀v f,f∈wf Ws v->f<Ws.length)(h2:∀v,(wf Ws v).length<=2)
  (h:∀N kv m st1,Gr st st1->st.length<=m->st1[m]? =some (.dct kv)->ND kv N->Nr Ws N->Q (.ref m) st1):Wv (calls tab (k+2) ja [.ref w] st) Q:=by
 walk_at "call0"
 refine ba (b_ (af (aG rfl (af (bo (af (e7 (ao (p8 (hW.gr (.one _ _)) hn hw h2 aD λO o s1 b1 I hO ho1 ho=>?_)))))))));have g1:Gr st s1:=b1.gr2 (.one _ _) (ac _);have nd':=tZ I;have hlt:∀b∈O,b<Ws.length:=λb hb=>jW hn.1 hw ((Go.rZ I).mp hb);refine ba (uj rfl ho nd' (by omega) λrn s2 g2 hr1 hr=>?_)
 refine ba (b_ (af (aG rfl (ao (uX (hW.gr (g1.trans g2)) hn.2 hw h2 λBs bk s3 g3 hb1 hB hB1 hB2 hB3=>?_)))));refine ba (sC (o:=o) (rn:=rn) (bk:=bk) (Ws:=Ws) rfl rfl rfl ((g2.trans g3).at ho) (g3.at hr) hB nd' (by omega) (λb hb=>by rw[hB1];exact hlt b hb) hB2 hB3 λLs ld J g4 hl1 hL L=>?_)
 refine ba (zR (af (bo (ao ⟨⟨rfl,by decide⟩,ba (bo ?_)⟩))))
 have g5:Gr J (J++[Ev.O.dct [(.inl 0,.int 0)]]):= .one _ _;obtain⟨Z,B⟩:∃Z,Z=J++[Ev.O.dct [(.inl 0,.int 0)]]:=⟨_,rfl⟩;have Y:Z[J.length]? =some (.dct [(.inl 0,.int 0)]):=by rw[B];exact aD
 have ho5:Z[o]? =some (.lst ((zs O).map .int)):=by rw[B];exact(g2.trans (g3.trans (g4.trans g5))).at ho
 have hr5:Z[rn]? =some (.dct (jy O)):=by rw[B];exact(g3.trans (g4.trans g5)).at hr
 have hl5:ci Z ld Ls:=by rw[B];exact hL.gr g5
 have gs:Gr st J:=g1.trans (g2.trans (g3.trans g4));have g05:Gr st Z:=by rw[B];exact gs.trans g5
 have hrn:rn≠J.length:=by have:=(aw ((g3.trans g4).at hr)).1;omega
 clear g5;show W (execs _ _ _ (J++[Ev.O.dct [(.inl 0,.int 0)]])) _;rw[<-B];have R:=w_ I;have U:=uv I L (by omega)
 have up:=wV I
 have A0:∀x,Dom.bm (Ed Ws) x->x∈di O∨∃y,Dom.f7 x=some y:=λx hx=>by
  by_cases z:x=0
  ·subst z;exact .inr ⟨0,rfl⟩
  ·exact .inl ((gw I).mpr ⟨hx,z⟩)
 refine j3 (λm loc s=>∃(c:Bool)(x y:Option D)(kv:List (Key×D))(N:Nat->Option Nat),loc=[some (.ref w),some (.ref o),some (.ref rn),some (.ref bk),some (.ref ld),some (.ref J.length),some (.bl c),x,y]/\Bu J.length Z s/\s[J.length]? =some (.dct kv)/\ND kv N/\kv.length<=1+60*(10000 - m)/\m<=10000/\(c=true->(N=Dom.f7/\m=10000)∨(Dom.iO (Ed Ws) (rk O) N/\ms O N+1<=m))/\(c=false->Dom.iO (Ed Ws) (rk O) N/\Dom.Turn (Ed Ws) (rk O) N N))
  10000 (by decide) ⟨true,_,_,_,Dom.f7,rfl,⟨ac _,λ_ _ _=>rfl⟩,Y,A6,by simp,ac _,λ_=>.inl ⟨rfl,rfl⟩,nofun⟩ λm loc s hI=>?_
 obtain⟨c,x,y,kv,N,rfl,bu,hk,hN,hkl,hm,ht,hf⟩:=hI;have hneL:∀{i:Nat}{xs:List D},Z[i]? =some (.lst xs)->i≠J.length:=λa z=>by rw[z,Y] at a;cases a
 refine aG rfl ⟨c,rfl,λz=>?_,λz=>?_⟩
 ·have ht:=ht z;have hm1:1<=m:=by rcases ht with⟨_,e⟩|⟨_,e⟩<;>omega
  refine⟨m - 1,by omega,ba (bo ?_)⟩
  have K:Dom.Ok (Ed Ws) (rk O) N:=by
   rcases ht with⟨rfl,_⟩|⟨F,_⟩
   ·exact Dom.mY
   ·exact F.ok
  have A:∀x,Dom.bm (Ed Ws) x->x∈di O∨∃y,N x=some y:=by
   rcases ht with⟨rfl,_⟩|⟨F,_⟩
   ·exact A0
   ·exact λx hx=>.inr (F.all x hx)
  refine zM I L (by omega) (bu.at ho5 (hneL ho5)) (bu.at hr5 hrn) (hl5.bu Y bu) hk hrn hN (by omega) K A λc' x' y' s' P=>?_
  obtain⟨kv',k1,k2,k3⟩:=P.at_;have same:=P.same;have new:=P.new;rw[List.take_length] at k2 same new;rw[qI] at k3;refine aN (bU ⟨c',x',y',kv',_,rfl,bu.trans P.bu,k1,k2,by omega,by omega,λzc=>?_,λzc=>?_⟩)
  ·rcases ht with⟨rfl,e⟩|⟨F,e⟩
   ·have:=C7 hO (Dom.go (d_ O Ls) Dom.f7 (di O));exact .inr ⟨Dom.lI (Dom.nR R U up λx=>gw I),by omega⟩
   ·have T:=Dom.qW R F U up λx=>gw I;have:=C6 I F T (new zc);exact .inr ⟨Dom.uE R F T U.par,by omega⟩
  ·have eN:=same zc
   have F':Dom.iO (Ed Ws) (rk O) N:=by
    rcases ht with⟨rfl,e⟩|⟨F,e⟩
    ·have:=Dom.lI (Dom.nR R U up λx=>gw I);rw[eN] at this;exact this
    ·exact F
   have T:=Dom.qW R F' U up λx=>gw I;rw[eN] at T ⊢;exact⟨F',T⟩
 ·obtain⟨F,T⟩:=hf z;exact bC (aG rfl (bD (h N kv _ s (bu.gr2 g05 gs.le) gs.le hk hN (C4 I F T))))
end
section
variable{Ws:List (List Nat)}{O:List Nat}{N:Nat->Option Nat}
theorem ug(I:Go.Inv (wf Ws) [] O):∀(k x:Nat),rk O 0 - rk O x<k->x∈O->∃l,Dom.Way (Ed Ws) l x/\∀z∈l,z=x∨rk O x<rk O z
 |0,x,h,_=>by omega
 |k+1,x,h,hx=>by
  by_cases h0:x=0
  ·subst h0;exact⟨[0],.nil,λz c=>.inl (List.mem_singleton.mp c)⟩
  ·obtain⟨f,h1,F,B⟩:=Go.lR I hx h0;have B:rk O x<rk O f:=B;have:=Go.lQ I F;have:rk O f<=rk O 0:=this;obtain⟨l,w,J⟩:=ug I k f (by omega) F
   refine⟨x::l,.cons w h1,λz c=>?_⟩;rcases List.mem_cons.mp c with rfl|c
   ·exact .inl rfl
   ·rcases J z c with rfl|c
    ·exact .inr B
    ·exact .inr (by omega)
theorem vf(I:Go.Inv (wf Ws) [] O){x:Nat}(c:x∈O)(h:Dom.cn (Ed Ws) y x)(B:y≠x):rk O x<rk O y:=by obtain⟨l,w,F⟩:=ug I _ x (aI _) c;exact(F y (h l w)).resolve_left B
theorem iL{P Q:Nat->Prop}(h:∀x,P x↔Q x):al P n=al Q n:=by have:P=Q:=funext λx=>propext (h x);rw[this]
theorem nG(P:Nat->Prop)(n:Nat):(al P n).length<=n:=by have:=List.length_filter_le (λv=> @decide (P v) (Classical.propDecidable _)) (List.range n);rw[List.length_range] at this;exact this
theorem zJ(P:Nat->Prop)(n:Nat):(al P n).Nodup:=(zI P n).imp λh z=>by omega
theorem p_:Dom.cn (Ed Ws) c 0↔c=0:=⟨λh=>List.mem_singleton.mp (h [0] .nil),λh=>by subst h;exact Dom.fk⟩
theorem Nr.iff(R:Nr Ws N)(B:v≠0)(e:N v=some y)(c:Nat):Dom.cn (Ed Ws) c v↔c=v∨Dom.cn (Ed Ws) c y:=by
 rw[<-R.chain v c (R.dom v y e),<-R.chain y c (R.come v y e)];constructor
 ·intro t;cases t with
  |self _=>exact .inl rfl
  |step _ h t=>rw[e] at h;cases h;exact .inr t
 ·rintro(rfl|t)
  ·exact .self e
  ·exact .step B e t
theorem xM(R:Nr Ws N){B:List Nat}(J:Dom.bm (Ed Ws) v)(Y:∀x,Dom.bm (Ed Ws) x->x<n)(I:(v=0/\B=[])∨∃y,v≠0/\N v=some y/\B=al (λc=>Dom.cn (Ed Ws) c y) n):
  Tab23.dM (zs (B++[v]))=zs (al (λc=>Dom.cn (Ed Ws) c v) n)/\B.length<=n:=by
 have lt:∀c b,Dom.bm (Ed Ws) b->Dom.cn (Ed Ws) c b->c<n:=λc b F h=>by obtain⟨y,U⟩:=((R.chain b c F).mpr h).there;exact Y c (R.dom c y U)
 rcases I with⟨rfl,rfl⟩|⟨y,h0,e,rfl⟩
 ·exact⟨mN (by simp) (λc=>by rw[p_];simp) (λc h=>lt c 0 J h),Nat.zero_le _⟩
 ·refine⟨mN ?_ (λc=>?_) (λc h=>lt c v J h),nG _ _⟩
  ·rw[List.nodup_append];refine⟨zJ _ _,by simp,λa Z b F=>?_⟩
   rw[List.mem_singleton.mp F];intro z;subst z;exact R.off a y h0 e (dh.mp Z).2
  ·rw[R.iff h0 e,List.mem_append,List.mem_singleton,dh];constructor
   ·rintro(h|h)
    ·exact .inr h.2
    ·exact .inl h
   ·rintro(h|h)
    ·exact .inr h
    ·exact .inl ⟨lt c y (R.come v y e) h,h⟩
end
def Rv(s0 st:a9)(b:Nat)(Bs:List (List Nat)):Prop:=s0.length<=b/\∃rs:List Nat,st[b]? =some (.lst (rs.map .ref))/\rs.length=Bs.length/\(∀r∈rs,s0.length<=r/\r≠b)/\∀(j r:Nat)(ws:List Nat),rs[j]? =some r->Bs[j]? =some ws->st[r]? =some (.lst ((zs ws).map .int))
theorem Rv.gr(h:Rv s0 st b Bs)(g:Gr st st'):Rv s0 st' b Bs:=by obtain⟨h0,rs,h1,I,F,B⟩:=h;exact⟨h0,rs,g.at h1,I,F,λj r ws a c=>g.at (B j r ws a c)⟩
theorem Ls.rv(h:Ls s0 st b rs Bs)(c:s0.length<=b):Rv s0 st b Bs:=⟨c,rs,h.hd,h.ln,λr hr=>⟨(h.ab r hr).1,by have:=(h.ab r hr).2;omega⟩,h.at_⟩
theorem pM{v:D}{Q:Unit->a9->Prop}(c:st[n]? =some (.lst xs))(hi:i<xs.length)(h:Q () (st.set n (.lst (xs.set i v)))):W (fj (.ref n) (.int (i:Int)) v st) Q:=by
 have:xg xs.length (i:Int)=some i:=by unfold xg;simp;omega
 simp only[fj,c,this];exact h
theorem Rv.set(hb:s0.length<=b)(h1:st[b]? =some (.lst (rs.map .ref)))(h2:rs.length=Bs.length)(U:∀r∈rs,s0.length<=r/\r≠b)(h4:∀(j r:Nat)(ws:List Nat),rs[j]? =some r->Bs[j]? =some ws->st[r]? =some (.lst ((zs ws).map .int)))
  (Y:st[m]? =some (.lst ((zs ws).map .int)))(I:s0.length<=m)(B:m≠b):Rv s0 (st.set b (.lst ((rs.map D.ref).set v (.ref m)))) b (Bs.set v ws):=by
 have J:b<st.length:=(aw h1).1;refine⟨hb,rs.set v m,by rw[List.map_set];exact bK J,by simp[h2],λr hr=>?_,λj r F a c=>?_⟩
 ·rcases List.mem_or_eq_of_mem_set hr with hr|rfl
  ·exact U r hr
  ·exact⟨I,B⟩
 ·by_cases hj:j=v
  ·subst hj
   have Z:j<rs.length:=by have:=(aw a).1;simpa using this
   rw[aO Z] at a;rw[aO (by omega)] at c
   cases a;cases c;exact sn Y B.symm
  ·rw[aM (λz=>hj z.symm)] at a c;exact sn (h4 j r F a c) (U r (ak a)).2.symm
noncomputable def rl(Ws:List (List Nat))(n:Nat)(P:Nat->Prop)(v:Nat):List Nat:=al (λc=>P v/\Dom.cn (Ed Ws) c v) n
theorem vn{P:Nat->Prop}(h:P v):rl Ws n P v=al (λc=>Dom.cn (Ed Ws) c v) n:=iL λx=>⟨λz=>z.2,λz=>⟨h,z⟩⟩
theorem rm{P c:Nat->Prop}(h:P v↔c v):rl Ws n P v=rl Ws n c v:=iL λx=>by rw[h]
section
variable{k r:Nat}{st:a9}{Q:D->a9->Prop}
theorem wC{G:List En}(I:G.length<=9)(c:iO G.length G):∀e∈G,∀a∈e.fol,a<10:=λe B a F=>by have:=(c e B a F).2;omega
theorem uf(G:List En)(v:Nat):wf (G.map wy) v=(G[v]?).elim [] wy:=by unfold wf;rw[aj];cases G[v]?<;>rfl
theorem lH{G:List En}(c:iO G.length G):∀v f,f∈wf (G.map wy) v->f<(G.map wy).length:=λv f B=>by
 rw[uf] at B;rw[List.length_map];cases q:G[v]? with
 |none=>rw[q] at B;cases B
 |some e=>rw[q] at B;exact(c e (ak q) f (ud.mp B)).2
theorem zK(e:En):(wy e).length<=2:=by
 cases e with
 |rs=>exact Nat.zero_le _
 |jp a=>exact Nat.le_succ _
 |br a b=>simp only[wy,En.fol];split<;>first|exact Nat.le_succ _|(split<;>exact ac _)
 |rk a b=>simp only[wy,En.fol];split<;>first|exact Nat.le_succ _|(split<;>exact ac _)
theorem ue(G:List En)(v:Nat):(wf (G.map wy) v).length<=2:=by
 rw[uf];cases G[v]? with
 |none=>exact Nat.zero_le _
 |some e=>exact zK e
theorem qb{O:List Nat}(h:O.reverse[i]? =some v):i<O.length/\O[O.length - 1 - i]? =some v:=by have hi:=(aw h).1;rw[List.length_reverse] at hi;rw[List.getElem?_reverse hi] at h;exact⟨hi,h⟩
theorem qa{O:List Nat}(nd:O.Nodup)(h:O.reverse[i]? =some v)(c:y∈O)(B:rk O v<rk O y):y∈O.reverse.take i:=by
 obtain⟨hi,e⟩:=qb h;have h1:O.idxOf v=O.length - 1 - i:=wj nd e;have I:O.idxOf y<O.length:=List.idxOf_lt_length_iff.mpr c;have B:O.idxOf v<O.idxOf y:=B
 have F:O.reverse[O.length - 1 - O.idxOf y]? =some y:=by
  rw[List.getElem?_reverse (by omega),show O.length - 1 - (O.length - 1 - O.idxOf y)=O.idxOf y by omega]
  exact nD c
 have:(O.reverse.take i)[O.length - 1 - O.idxOf y]? =some y:=by rw[List.getElem?_take,if_pos (by omega)];exact F
 exact ak this
theorem nW{G:List En}(hg:0<G.length/\G.length<=9)(B:iO G.length G)(hf:dH st r (num G))
  (h:∀Bs m st1,Gr st st1->Rv st st1 m Bs->Bs.length=G.length->(∀v,v<G.length->Bs[v]? =some (rl (G.map wy) G.length (Dom.bm (Ed (G.map wy))) v))->Q (.ref m) st1):Wv (calls tab (k+4) wl [.ref r] st) Q:=by
 have hf':=hf;obtain⟨kd,kk,bs,h1,h2,h3,h4⟩:=hf;have hbl:bs.length=G.length:=by rw[h4.1,dZ]
 have hn:0<(G.map wy).length/\(G.map wy).length<=9:=by rw[List.length_map];exact hg
 walk_at "call0"
 refine ba (d7 (ca (af (aU (aG rfl (kI h1 4 rfl (ao (g_ ⟨_,cz (by rw[List.length_map];omega),?_⟩))))))))
 rw[Int.toNat_natCast,List.length_map,hbl];refine lM hg.2 λrs s1 g1 ls hpos hle=>?_;obtain⟨b,hb⟩:∃b,b=s1.length - 1:=⟨_,rfl⟩;rw[<-hb] at ls hle ⊢;have hbl1:b<s1.length:=by omega
 refine cZ (bj (ca (af (aU (aG rfl (kI (g1.at h1) 4 rfl (ao (g_ (bo (gM ⟨_,rfl,λz=>?_,λ_=>aN (bd ?_)⟩))))))))))
 ·have z:=of_decide_eq_true z;rw[List.length_map,hbl] at z;omega
 refine ba (b_ (af (aG rfl (ao (uW hg.2 (wC hg.2 B) (hf'.gr g1) λw s2 g2 hw2 hW=>?_)))));refine ba (b_ (af (aG rfl (ao (sM hW hn (lH B) (ue G) λN kv nd s3 g3 hnd hk hN R=>?_)))));refine xn (b_ (af (aG rfl (af (bo (af (e7 (ao (p8 ((hW.gr g3).gr (.one _ _)) hn (lH B) (ue G) aD λO o s4 b4 I hO ho1 ho=>⟨o,_,rfl,ho,?_⟩)))))))));have g4:Gr s3 s4:=b4.gr2 (.one _ _) (ac _);have nd':=tZ I
 have Z:∀x,Dom.bm (Ed (G.map wy)) x->x<G.length:=λx hx=>by have:=jW hn.1 (lH B) (kZ.mp hx);rwa [List.length_map] at this
 have gb:Gr st s4:=g1.trans (g2.trans (g3.trans g4));have g14:Gr s1 s4:=g2.trans (g3.trans g4);rw[bf]
 have hob:o≠b:=by have h5:=(g2.trans g3).le;simp only[List.length_append] at ho1;omega
 have hndb:nd≠b:=by have h5:=g2.le;omega
 refine cy (L:=(zs O.reverse).map .int) (by rw[bf,List.length_reverse];exact ac _) (λi loc s=>i<=O.length/\(∃x y,loc=[some (.ref r),some (.ref b),some (.ref w),some (.ref nd),x,y])/\Bu b s4 s/\∃Bs,Rv st s b Bs/\Bs.length=G.length/\∀v,v<G.length->Bs[v]? =some (rl (G.map wy) G.length (λu=>u∈O.reverse.take i) v)) ⟨Nat.zero_le _,⟨_,_,rfl⟩,⟨ac _,λ_ _ _=>rfl⟩,_,(ls.rv hle).gr g14,by simp,λv Y=>?_⟩ (λi loc s hI=>?_) (λi z loc s hz hI=>?_) λloc s hI=>?_
 ·rw[List.getElem?_replicate,if_pos Y];congr 1;symm;refine List.eq_nil_iff_forall_not_mem.mpr λx hx=>?_;have:=(dh.mp hx).2.1;simp at this
 ·obtain⟨hi,_,bu,_⟩:=hI;simp only[eK,bu.at ho hob];by_cases e:i=O.length
  ·rw[if_pos e];congr 1;symm;exact aZ (by rw[bf,List.length_reverse];omega)
  ·rw[if_neg e,if_pos (by omega)]
   have hi2:i<O.reverse.length:=by rw[List.length_reverse];omega
   have e2:O.reverse[i]? =some O.reverse[i]:=ag hi2;rw[dj e2,dj (qb e2).2];rfl
 ·obtain⟨hi,⟨x,y,rfl⟩,bu,Bs,rv,hB,J⟩:=hI;obtain⟨v,Y,rfl⟩:=my hz;obtain⟨hiO,hOv⟩:=qb Y;have hvO:v∈O:=ak hOv;have cv:=(cK I).mpr hvO;have hvn:=Z v cv;have tk:O.reverse.take (i+1)=O.reverse.take i++[v]:=by rw[List.take_add_one,Y];rfl
  obtain⟨hb0,rs',r1,r2,r3,r4⟩:=id rv;have hbs:b<s.length:=(aw r1).1
  have fin:∀(a:Nat)(U:List Nat)(s':a9),Gr s s'->s'[a]? =some (.lst ((zs U).map .int))->((v=0/\U=[])∨∃y,v≠0/\N v=some y/\U=al (λc=>Dom.cn (Ed (G.map wy)) c y) G.length)->
    W (execs (calls tab (k+3)) [.setix (.v 1) (.v 4) (.bt .sorted [(.bin .add (.v 5) (.lst [(.v 4)]))])] [some (.ref r),some (.ref b),some (.ref w),some (.ref nd),some (.int (v:Int)),some (.ref a)] s') (Kf (λloc s=>i+1<=O.length/\(∃x y,loc=[some (.ref r),some (.ref b),some (.ref w),some (.ref nd),x,y])/\Bu b s4 s/\∃Bs,Rv st s b Bs/\Bs.length=G.length/\∀v,v<G.length->Bs[v]? =some (rl (G.map wy) G.length (λu=>u∈O.reverse.take (i+1)) v)) (Kn (calls tab (k+3)) [.ret (.v 1)] (Kr Q))):=λa U s' g' ha hab=>by
   obtain⟨e1,e2⟩:=xM R cv Z hab;refine cN (ca (af (bG (aG rfl (cr (af (aG rfl (ao (mD (aV ha) aD (by rw[bf];simp;omega) (ao ?_))))))))))
   have e3:(zs U).map D.int++[D.int (v:Int)]=(zs (U++[v])).map D.int:=(dJ U [v]).symm;rw[e3];refine il aD (by simp[zs];omega) ?_
   rw[e1];have gg:Gr s ((s'++[Ev.O.lst [D.int (v:Int)]]++[Ev.O.lst ((zs (U++[v])).map D.int)])++[Ev.O.lst ((zs (al (λc=>Dom.cn (Ed (G.map wy)) c v) G.length)).map D.int)]):=((g'.more _).more _).more _;have gl:=g'.le;refine aG rfl (aG rfl (pM (gg.at r1) (by rw[List.length_map,r2,hB];exact hvn) (aN (bU ⟨by omega,⟨_,_,rfl⟩,(bu.trans (Bu.gr gg)).set (.inl rfl),_,Rv.set hb0 (gg.at r1) r2 r3 (λj r ws a c=>gg.at (r4 j r ws a c)) aD ?_ ?_,by rw[aF];exact hB,λu hu=>?_⟩))))
   ·have:=gb.le;have:=bu.le;simp only[List.length_append];omega
   ·simp only[List.length_append];omega
   ·by_cases e:u=v
    ·subst e;rw[aO (by omega),vn (by rw[tk];simp)]
    ·rw[aM (λz=>e z.symm),J u hu];congr 1;exact rm (by rw[tk,List.mem_append,List.mem_singleton];exact⟨.inl,λz=>z.resolve_right e⟩)
  refine ba (y3 (bj (aG rfl (bo (gM ⟨_,rfl,λz=>?_,λz=>?_⟩)))))
  ·have F:v=0:=by have:(v:Int)=0:=of_decide_eq_true z;omega
   exact cr (ao (fin _ [] _ (.one _ _) aD (.inl ⟨F,rfl⟩)))
  ·have F:v≠0:=λe=>by subst e;cases z
   obtain⟨y,hy⟩:=R.all v cv;have hry:Dom.cn (Ed (G.map wy)) y v:=(R.iff F hy y).mpr (.inr Dom.fk);have hne:y≠v:=λz=>R.off v y F hy (z▸Dom.fk);have hyO:=(cK I).mp (R.come v y hy);have hyt:=qa nd' Y hyO (vf I hvO hry hne);have hyn:=Z y (R.come v y hy);have hyr:rs'[y]? =some (rs'[y]'(by omega)):=ag (by omega)
   have hc:=r4 y _ _ hyr (J y hyn);rw[vn hyt] at hc;exact bI (aG rfl (bI (aG rfl (aG rfl (fV (bu.at (g4.at hk) hndb) (hN.at hy) (dk r1 (cw (by rw[aj,hyr];rfl)) (fin _ _ _ (.refl _) hc (.inr ⟨y,F,hy,rfl⟩))))))))
 ·obtain⟨hi,⟨x,y,rfl⟩,bu,Bs,rv,hB,J⟩:=hI;rw[bf,List.length_reverse] at J;refine bd (bC (aG rfl (bD (h Bs b s (bu.gr2 gb hle) rv hB λv Y=>?_))));rw[J v Y];congr 1;refine rm ?_;rw[<-List.length_reverse,List.take_length,List.mem_reverse,cK I]
theorem gC{G:List En}(B:0<G.length/\G.length<=9)(c:iO G.length G)(Y:dH st r (num G))
  (h:∀m st1,Gr st st1->st.length<=m->st1[m]? =some (.lst ((zs (al (Dom.bm (Ed (G.map wy))) G.length)).map .int))->Q (.ref m) st1):Wv (calls tab (k+4) tz [.ref r] st) Q:=by
 have F:=Y;obtain⟨kd,kk,bs,h1,h2,h3,h4⟩:=Y;have J:bs.length=G.length:=by rw[h4.1,dZ]
 have U:0<(G.map wy).length/\(G.map wy).length<=9:=by rw[List.length_map];exact B
 walk_at "call0"
 refine cZ (bj (ca (af (aU (aG rfl (kI h1 4 rfl (ao (g_ (bo (gM ⟨_,rfl,λz=>?_,λ_=>aN (bd ?_)⟩))))))))))
 ·have z:=of_decide_eq_true z;rw[List.length_map,J] at z;omega
 refine bC (ca (af (b_ (af (b_ (af (aG rfl (ao (uW B.2 (wC B.2 c) F λw s2 g2 hw2 hW=>?_)))))))));refine af (bo (af (e7 (ao (p8 (hW.gr (.one _ _)) U (lH c) (ue G) aD λO o s4 b4 I hO ho1 ho=>ao (il ho (by simp[zs];omega) ?_))))))
 have Z:Gr s2 s4:=b4.gr2 (.one _ _) (ac _)
 rw[mN (tZ I) (λv=>(cK I).symm) (λx hx=>by have:=jW U.1 (lH c) (kZ.mp hx);rwa [List.length_map] at this)]
 exact bD (h _ _ ((g2.trans Z).more _) (g2.trans Z).le aD)
end
section
variable{G:List En}
theorem pi{a:Nat}:Ed (G.map wy) a b↔b∈ff G a:=by
 show b∈wf (G.map wy) a↔_;rw[uf];unfold ff;cases G[a]? with
 |none=>exact Iff.rfl
 |some e=>exact ud
theorem BM:Av (ff G) [c] v↔∃l,Dom.Way (Ed (G.map wy)) l v/\c∉l:=by
 constructor
 ·intro h
  induction h with
  |zero h=>exact⟨[0],.nil,λz=>h (by rw[List.mem_singleton.mp z];simp)⟩
  |next c' h hx ih=>
   obtain⟨l,w,B⟩:=ih
   exact⟨_,.cons w (pi.mpr h),λz=>by
    rcases List.mem_cons.mp z with z|z
    ·exact hx (by rw[z];simp)
    ·exact B z⟩
 ·rintro⟨l,w,B⟩
  induction w with
  |nil=>exact .zero λz=>B (by rw[List.mem_singleton.mp z];simp)
  |cons w e ih=>exact .next (ih λz=>B (.tail _ z)) (pi.mp e) λz=>B (by rw[List.mem_singleton.mp z];simp)
theorem BN:Av (ff G) [] v↔Dom.bm (Ed (G.map wy)) v:=by
 constructor
 ·intro h
  induction h with
  |zero _=>exact⟨_,.nil⟩
  |next c h _ ih=>obtain⟨l,w⟩:=ih;exact⟨_,.cons w (pi.mpr h)⟩
 ·rintro⟨l,w⟩
  induction w with
  |nil=>exact .zero (by simp)
  |cons w e ih=>exact .next ih (pi.mp e) (by simp)
theorem uh{E:Nat->Nat->Prop}(w:Dom.Way E l v)(h:c∈l):Dom.bm E c:=by
 induction w with
 |nil=>rw[List.mem_singleton.mp h];exact⟨_,.nil⟩
 |cons w e ih=>
  rcases List.mem_cons.mp h with rfl|h
  ·exact⟨_,.cons w e⟩
  ·exact ih h
theorem ve(B:Dom.bm (Ed (G.map wy)) v):Dom.cn (Ed (G.map wy)) c v↔Dom.bm (Ed (G.map wy)) c/\(v=c∨¬Av (ff G) [c] v):=by
 rw[BM];constructor
 ·intro h;obtain⟨l,w⟩:=B;exact⟨uh w (h l w),.inr λ⟨l,w,hl⟩=>hl (h l w)⟩
 ·rintro⟨_,rfl|h⟩
  ·exact Dom.fk
  ·intro l w;by_cases z:c∈l
   ·exact z
   ·exact absurd ⟨l,w,z⟩ h
noncomputable def jF(G:List En):List (List Nat):=(List.range G.length).map (rl (G.map wy) G.length (Dom.bm (Ed (G.map wy))))
theorem wJ(h1:Bs.length=G.length)(c:∀v,v<G.length->Bs[v]? =some (rl (G.map wy) G.length (Dom.bm (Ed (G.map wy))) v)):Bs=jF G:=by
 refine List.ext_getElem? λi=>?_;unfold jF;rw[aj];by_cases hi:i<G.length
 ·rw[c i hi,List.getElem?_range hi];rfl
 ·rw[aZ (by omega),aZ (by simpa using hi)];rfl
noncomputable def bc(G:List En):List Nat:=al (Dom.bm (Ed (G.map wy))) G.length
theorem yA:al (Av (ff G) []) G.length=bc G:=iL λ_=>BN
theorem tX{P R:Nat->Prop}[DecidablePred R]:(al P n).filter (λc=>decide (R c))=al (λc=>P c/\R c) n:=by unfold al;rw[List.filter_filter];refine List.filter_congr λx _=>?_;by_cases h1:P x<;>by_cases h2:R x<;>simp[h1,h2]
theorem B5{E:Nat->Nat->Prop}(c:0<n)(B:∀a b,E a b->b<n)(h:Dom.bm E v):v<n:=by
 obtain⟨l,w⟩:=h;cases w with
 |nil=>exact c
 |cons w e=>exact B _ _ e
end
section
variable{k:Nat}{st:a9}{Q:D->a9->Prop}{G:List En}
theorem jU{a:Nat}(F:st[a]? =some (.lst ((zs l).map .int)))(B:st[b]? =some (.lst ((zs l).map .int))):dF (n+2) st (.ref a) (.ref b)=some true:=by unfold dF;simp only[shape,F,B];refine ig λx c=>?_;obtain⟨i,_,rfl⟩:=List.mem_map.mp c;simp[nK,dF,shape,nL]
theorem pH{f:D->D->Option Bool}:∀{xs ys:List D},xs.length=ys.length->(∀(j:Nat) x y,xs[j]? =some x->ys[j]? =some y->f x y=some true)->cY f xs ys=some true
 |[],[],_,_=>rfl
 |x::xs,y::ys,h,hf=>by
  unfold cY;rw[hf 0 x y rfl rfl,pH (xs:=xs) (ys:=ys) (by simpa using h) λj x y a b=>hf (j+1) x y a b]
  rfl
 |[],_::_,h,_=>by simp at h
 |_::_,[],h,_=>by simp at h
theorem sj{a:Nat}(U:ci st a Ws)(J:ci st b Ws):dF 60 st (.ref a) (.ref b)=some true:=by
 obtain⟨rs,a1,F,a3⟩:=U;obtain⟨qs,b1,Z,Y⟩:=J;unfold dF;simp only[shape,a1,b1];refine pH (by simp[F,Z]) λj x y B c=>?_
 rw[aj] at B c;cases h1:rs[j]? with
 |none=>rw[h1] at B;cases B
 |some r=>
  cases h2:qs[j]? with
  |none=>rw[h2] at c;cases c
  |some q=>
   rw[h1] at B;rw[h2] at c;cases B;cases c;have I:j<Ws.length:=by rw[<-F];exact(aw h1).1
   have e:=ag I;unfold nK;dsimp only;split
   ·rfl
   ·exact jU (n:=57) (a3 j r _ h1 e) (Y j q _ h2 e)
theorem Ca{en f hr:Nat}{x y z w:Option D}{nn:Option D}{Q:Fl->a9->Prop}{ss:List S}(hg:0<G.length/\G.length<=9)(U:iO G.length G)(he:st[en]? =some (.lst (G.map En.d)))(hh:st[hr]? =some (.lst ((zs (bc G)).map .int)))(d5:Option D)
  (h:∀(x y:Option D) du st1,Gr st st1->ci st1 du (jF G)->W (execs (calls tab (k+1)) ss [c0,c1,some (.int (G.length:Int)),some (.ref en),some (.ref f),d5,some (.ref hr),some (.ref du),x,y,z,w] st1) Q):
  W (execs (calls tab (k+1)) (.set 7 (.lst []):: .for_ 8 true (.v 2) [.set 9 (.compIf (.v 6) (.or (.cmp .Eq (.v 9) (.v 0)) (.cmp .NotIn (.v 9) (.fn 19 [(.v 4),(.lst [(.v 0)])]))) (.v 0)),.app (.v 7) (.ix (.lst [(.v 9),(.lst [])]) (.bt .int [(.cmp .NotIn (.v 8) (.v 6))]))]::ss) [c0,c1,some (.int (G.length:Int)),some (.ref en),some (.ref f),d5,some (.ref hr),nn,x,y,z,w] st) Q:=by
 refine ba (cr (ao (dL (aG rfl ⟨_,cz (by omega),?_⟩))))
 rw[Int.toNat_natCast];have hlt:∀v,Dom.bm (Ed (G.map wy)) v->v<G.length:=λv hv=>B5 hg.1 (λa b h=>by have:=lH U a b h;rwa [List.length_map] at this) hv
 have hhn:(bc G).length<=9:=aR (nG _ _) hg.2;refine cy (L:=bN G.length) (ac _) (λi loc s=>(∃x y,loc=[c0,c1,some (.int (G.length:Int)),some (.ref en),some (.ref f),d5,some (.ref hr),some (.ref st.length),x,y,z,w])/\Gr st s/\∃rs:List Nat,s[st.length]? =some (.lst (rs.map .ref))/\rs.length=i/\(∀r∈rs,r≠st.length)/\∀(j r:Nat)(ws:List Nat),rs[j]? =some r->(jF G)[j]? =some ws->s[r]? =some (.lst ((zs ws).map .int))) ⟨⟨_,_,rfl⟩,.one _ _,[],aD,rfl,(λr hr=>nomatch hr),λj r ws a _=>by simp at a⟩ (λ_ _ _ _=>rfl) (λi v loc s hv I=>?_) λloc s I=>?_
 ·obtain⟨⟨x,y,rfl⟩,g,rs,r1,r2,r3,r4⟩:=I;obtain⟨hi,rfl⟩:=iq hv;refine ba (e8 (aG rfl ⟨_,rfl,?_⟩));have Y:=g.at hh;have hL:bV (.at hr) s=((zs (bc G)).map D.int).length:=by simp only[bV,Y]
  open Classical in
  refine bS (L:=(zs (bc G)).map .int) (by rw[hL,bf];omega) (by rw[hL];exact ac _) (λj acc B=>Gr s B/\acc=(zs (((bc G).take j).filter λc=>decide (i=c∨¬Av (ff G) [c] i))).map .int) ⟨.refl _,rfl⟩ (λj acc B I=>by obtain⟨J,_⟩:=I;simp only[eK,J.at Y]) (λj z acc B hz I=>?_) λacc B I=>?_
  ·obtain⟨J,rfl⟩:=I
   have hj:j<(bc G).length:=by have:=(aw hz).1;rwa [bf] at this
   have hu:(bc G)[j]? =some (bc G)[j]:=ag hj;rw[dj hu] at hz;cases hz;obtain⟨c,hc⟩:∃c,c=(bc G)[j]:=⟨_,rfl⟩;rw[<-hc] at hu ⊢;have tk:(bc G).take (j+1)=(bc G).take j++[c]:=by rw[List.take_add_one,hu];rfl
   have Z:(i=c∨¬Av (ff G) [c] i)->(zs (((bc G).take j).filter λc=>decide (i=c∨¬Av (ff G) [c] i))).map D.int++[.int (c:Int)]=(zs (((bc G).take (j+1)).filter λc=>decide (i=c∨¬Av (ff G) [c] i))).map D.int:=λq=>by
    rw[tk,List.filter_append,dJ,List.filter_cons_of_pos (by simpa using q)]
    rfl
   refine gA (w_or (bj (aG rfl (aG rfl (gM ⟨_,rfl,λz=>?_,λz=>?_⟩)))))
   ·have e:i=c:=by have:(i:Int)=c:=of_decide_eq_true z;omega
    exact⟨true,rfl,λ_=>aG rfl ⟨J,Z (.inl e)⟩,nofun⟩
   ·have e:¬i=c:=λe=>by have:¬(i:Int)=c:=of_decide_eq_false z;omega
    refine bj (aG rfl (b_ (af (aG rfl (af (cr (af (aG rfl (ao (ao (u_ (X:=[c]) hg U (((g.trans J).more _).at he) aD λm s2 g2 hm2 F=>?_)))))))))));refine io F (k7 _) ⟨_,rfl,λz=>?_,λz=>?_⟩
    ·have hn:¬Av (ff G) [c] i:=λa=>by have:i∈al (Av (ff G) [c]) G.length:=dh.mpr ⟨hi,a⟩;simp[this] at z
     exact aG rfl ⟨(J.more _).trans g2,Z (.inr hn)⟩
    ·have hn:Av (ff G) [c] i:=by
      have:i∈al (Av (ff G) [c]) G.length:=by simpa using z
      exact(dh.mp this).2
     refine⟨(J.more _).trans g2,?_⟩;dsimp only;rw[tk,List.filter_append,dJ,List.filter_cons_of_neg (by simp[e,hn])]
     simp[zs]
  ·obtain⟨J,rfl⟩:=I;rw[bf,List.take_length];have e1:(bc G).filter (λc=>decide (i=c∨¬Av (ff G) [c] i))=al (λc=>Dom.bm (Ed (G.map wy)) c/\(i=c∨¬Av (ff G) [c] i)) G.length:=tX;rw[e1];obtain⟨d,hd⟩:∃d,d=al (λc=>Dom.bm (Ed (G.map wy)) c/\(i=c∨¬Av (ff G) [c] i)) G.length:=⟨_,rfl⟩;rw[<-hd];have g2:Gr s (B++[Ev.O.lst ((zs d).map D.int)]):=J.more _;have sl:st.length<s.length:=(aw r1).1;have s1l:=J.le;refine eM (aG rfl (cF (g2.at r1) (bI (cr (af (aG rfl (af (cr (ao (ao ?_))))))))));have g3:Gr s (B++[Ev.O.lst ((zs d).map D.int)]++[Ev.O.lst []]++[Ev.O.lst [.ref B.length,.ref (B++[Ev.O.lst ((zs d).map D.int)]).length]]):=(g2.more _).more _
   have add:∀(m:Nat)(ws:List Nat),m≠st.length->m<B.length+2->(B++[Ev.O.lst ((zs d).map D.int)]++[Ev.O.lst []]++[Ev.O.lst [.ref B.length,.ref (B++[Ev.O.lst ((zs d).map D.int)]).length]])[m]? =some (.lst ((zs ws).map .int))->(jF G)[i]? =some ws->
     W (append (.ref st.length) (.ref m) (B++[Ev.O.lst ((zs d).map D.int)]++[Ev.O.lst []]++[Ev.O.lst [.ref B.length,.ref (B++[Ev.O.lst ((zs d).map D.int)]).length]])) λ_ st4=>W (execs (calls tab (k+1)) [] [c0,c1,some (.int (G.length:Int)),some (.ref en),some (.ref f),d5,some (.ref hr),some (.ref st.length),some (.int (i:Int)),some (.ref B.length),z,w] st4) (Kf (λloc s=>(∃x y,loc=[c0,c1,some (.int (G.length:Int)),some (.ref en),some (.ref f),d5,some (.ref hr),some (.ref st.length),x,y,z,w])/\Gr st s/\∃rs:List Nat,s[st.length]? =some (.lst (rs.map .ref))/\rs.length=i+1/\(∀r∈rs,r≠st.length)/\∀(j r:Nat)(ws:List Nat),rs[j]? =some r->(jF G)[j]? =some ws->s[r]? =some (.lst ((zs ws).map .int))) (Kn (calls tab (k+1)) ss Q)):=λm ws F hm2 hat hws=>by
    refine ce (g3.at r1) (by rw[List.length_map];omega) (aN (bU ⟨⟨_,_,rfl⟩,(g.trans g3).set (ac _),rs++[m],by rw[List.map_append];exact bK (by simp only[List.length_append];omega),by simp[r2],λr hr=>?_,λj r ws' a b=>?_⟩))
    ·rcases List.mem_append.mp hr with hr|hr
     ·exact r3 r hr
     ·rw[List.mem_singleton.mp hr];exact F
    ·by_cases hj:j<rs.length
     ·rw[aC hj] at a;exact sn (g3.at (r4 j r ws' a b)) (r3 r (ak a)).symm
     ·have hj2:j=i:=by have:=(aw a).1;simp at this;omega
      subst hj2;rw[aE (by omega),r2,Nat.sub_self] at a
      cases a;rw[hws] at b;cases b;exact sn hat F.symm
   have hdu:(jF G)[i]? =some (rl (G.map wy) G.length (Dom.bm (Ed (G.map wy))) i):=by unfold jF;rw[aj,List.getElem?_range hi];rfl
   refine ca (af (bj (aG rfl (aG rfl (io (g3.at Y) (k7 _) (ao (uo ?_)))))));by_cases F:i∈bc G
   ·have cm:Dom.bm (Ed (G.map wy)) i:=(dh.mp F).2
    have ed:d=rl (G.map wy) G.length (Dom.bm (Ed (G.map wy))) i:=by
     rw[hd];exact iL λc=>by rw[ve cm];exact⟨λq=>⟨cm,q⟩,λq=>q.2⟩
    simp only[F,decide_true,Bool.not_true,Bool.false_eq_true,if_false];exact dk aD rfl (add _ d (by omega) (by omega) (aV (aV aD)) (by rw[ed];exact hdu))
   ·have cm:¬Dom.bm (Ed (G.map wy)) i:=λq=>F (dh.mpr ⟨hi,q⟩)
    have ed:[]=rl (G.map wy) G.length (Dom.bm (Ed (G.map wy))) i:=by symm;exact List.eq_nil_iff_forall_not_mem.mpr λx hx=>cm (dh.mp hx).2.1
    simp only[F,decide_false,Bool.not_false,if_true];exact dk aD rfl (add _ [] (by simp only[List.length_append];omega) (by simp) (aV aD) (by rw[ed];exact hdu))
 ·obtain⟨⟨x,y,rfl⟩,g,rs,r1,r2,r3,r4⟩:=I;rw[bZ] at r2;exact bd (h x y _ s g ⟨rs,r1,by rw[r2];simp[jF],r4⟩)
end
section
variable{k:Nat}{st:a9}{Q:Fl->a9->Prop}{G:List En}{ss:List S}
theorem xp{en f:Nat}{x:Option D}(hg:0<G.length/\G.length<=9)(B:iO G.length G)(he:st[en]? =some (.lst (G.map En.d)))(hf:dH st f (num G))
  (h:∀x st1,Gr st st1->W (execs (calls tab (k+2)) ss [c0,c1,some (.int (G.length:Int)),some (.ref en),some (.ref f),c5,c6,c7,x,c9,c10,c11] st1) Q):
  W (execs (calls tab (k+2)) (.for_ 8 true (.v 2) [.ite (.cmp .NotEq (.fn 7 [(.v 4),(.v 8)]) (.sset (.sl (.ix (.v 3) (.v 8)) (.c (.int (1))) (.c (.int (1))) true false))) [.ret (.c (.bl false))] []]::ss) [c0,c1,some (.int (G.length:Int)),some (.ref en),some (.ref f),c5,c6,c7,x,c9,c10,c11] st) Q:=by
 refine dL (aG rfl ⟨_,cz (by omega),?_⟩)
 rw[Int.toNat_natCast];refine cy (L:=bN G.length) (ac _) (λi loc s=>(∃x,loc=[c0,c1,some (.int (G.length:Int)),some (.ref en),some (.ref f),c5,c6,c7,x,c9,c10,c11])/\Gr st s) ⟨⟨_,rfl⟩,.refl _⟩ (λ_ _ _ _=>rfl) (λi v loc s Y J=>?_) λloc s J=>?_
 ·obtain⟨⟨x,rfl⟩,g⟩:=J;obtain⟨hi,rfl⟩:=iq Y;have F:G[i]? =some G[i]:=ag hi;obtain⟨t,Z⟩:=Dm G[i];have I:=wC hg.2 B G[i] (List.getElem_mem hi);refine cZ (bj (b_ (af (aG rfl (af (aG rfl (ao (y8 (hf.gr g) (i4 F) I λm s1 U hm1 hm=>?_))))))));refine ui (im (bI (aG rfl (aG rfl (dk ((g.trans U).at he) (cw (by rw[aj,F];rfl)) (bo ⟨_,rfl,?_⟩))))))
  rw[Z];refine Ep ⟨zs G[i].fol,rfl,by simp[zs,kH],λn hn=>?_,?_⟩
  ·obtain⟨a,ha,rfl⟩:=iP.mp hn;have:=I a ha;omega
  ·rw[uR];refine lj (jU (n:=58) (aV hm) aD) ⟨_,rfl,nofun,λ_=>aN (bd (aN (bU ⟨⟨_,rfl⟩,(g.trans U).more _⟩)))⟩
 ·obtain⟨⟨x,rfl⟩,g⟩:=J;exact bd (h x s g)
end
noncomputable def fq(is:List Nat):List (Key×D):=is.flatMap λ(i:Nat)=>[(.inl (3*(i:Int)),.int (i:Int)),(.inl (3*(i:Int)+1),.int (i:Int))]
theorem mW{p:Key×D}(h:p∈fq is):∃i∈is,p=(.inl (3*(i:Int)),.int (i:Int))∨p=(.inl (3*(i:Int)+1),.int (i:Int)):=by
 obtain⟨i,hi,c⟩:=List.mem_flatMap.mp h;refine⟨i,hi,?_⟩;rcases List.mem_cons.mp c with e|c
 ·exact .inl e
 ·exact .inr (List.mem_singleton.mp c)
theorem mX:∀is:List Nat,(fq is).length=2*is.length
 |[]=>rfl
 |i::is=>by show(fq is).length+1+1=_;rw[mX is,List.length_cons];omega
theorem qh{z:Int}(F:z=3*(i:Int)∨z=3*(i:Int)+1):∀p∈fq (List.range i),p.1≠ .inl z:=λp c e=>by
 obtain⟨j,B,q|q⟩:=mW c
 all_goals
  rw[q] at e;have:=Sum.inl.inj e;have:=List.mem_range.mp B;omega
theorem oj:bP (fq (List.range i)) (.inl (3*(i:Int))) (.int (i:Int))=fq (List.range i)++[(.inl (3*(i:Int)),.int (i:Int))]:=eU (qh (.inl rfl))
theorem mV:∀p∈fq (List.range i)++[(.inl (3*(i:Int)),D.int (i:Int))],p.1≠ .inl (3*(i:Int)+1):=λp c e=>by
 rcases List.mem_append.mp c with c|c
 ·exact qh (.inr rfl) p c e
 ·rw[List.mem_singleton.mp c] at e;have:=Sum.inl.inj e;omega
theorem vQ:bP (fq (List.range i)++[(.inl (3*(i:Int)),.int (i:Int))]) (.inl (3*(i:Int)+1)) (.int (i:Int))=fq (List.range (i+1)):=by rw[eU mV,List.append_assoc,List.range_succ];unfold fq;rw[List.flatMap_append];rfl
section
variable{k r:Nat}{st:a9}{Q:D->a9->Prop}
theorem nY{e:En}(U:jx st r i e)(h:∀m st1,Gr st st1->st.length<=m->st1[m]? =some (.lst [.int (3*(i:Int)),.int (3*(i:Int)+1)])->Q (.ref m) st1):Wv (calls tab (k+1) lB [.ref r] st) Q:=by
 obtain⟨J,I,n,h1,F,Y,Z⟩:=U
 walk_at "call0"
 refine bC (bG (ca (af (aU (aG rfl (yE h1 0 rfl (ao (mz (e8 (aU (aG rfl (yE (aV h1) 1 rfl ⟨_,rfl,?_⟩))))))))))));refine bS (L:=[.ref J,.ref I]) (by show(2:Nat)<=1000000;decide) (ac _) (λj acc s=>s=st++[.lst [.int (3*(i:Int))]]/\acc=[D.int (3*(i:Int)+1)].take j) ⟨rfl,rfl⟩ (λ_ _ _ _=>rfl) (λj x acc s c B=>?_) λacc s B=>?_
 ·obtain⟨rfl,rfl⟩:=B
  match j,c with
  |0,c=>cases c;exact gA (bj (aU (aG rfl (gS (aV F) 0 rfl (hk:=rfl) (bo (qO (k:=false) rfl ⟨_,rfl,λ_=>aU (aG rfl (gS (aV F) 0 rfl (hk:=rfl) ⟨rfl,rfl⟩)),nofun⟩))))))
  |1,c=>cases c;exact gA (bj (aU (aG rfl (gS (aV Y) 0 rfl (hk:=rfl) (bo (qO (k:=true) rfl ⟨_,rfl,nofun,λ_=>⟨rfl,rfl⟩⟩))))))
  |j+2,c=>simp at c
 ·obtain⟨rfl,rfl⟩:=B;refine mD (aV aD) aD (by show(2:Nat)<=1000000;decide) (bD (h _ _ (((Gr.one _ _).more _).more _) (by simp) aD))
theorem p9{G:List En}(hg:G.length<=9)(hf:dH st r (num G))(h:∀m st1,Gr st st1->st1[m]? =some (.dct (fq (List.range G.length)))->Q (.ref m) st1):Wv (calls tab (k+2) qt [.ref r] st) Q:=by
 obtain⟨kd,kk,bs,h1,h2,h3,Z⟩:=hf;have U:bs.length=G.length:=by rw[Z.1,dZ]
 walk_at "call0"
 refine ba (e7 (jI (aU (aG rfl (kI (aV h1) 4 rfl ⟨_,rfl,?_⟩)))));refine cy (L:=fh 0 (bs.map .ref)) (ac _) (λi loc s=>(∃x y z,loc=[some (.ref r),some (.ref st.length),x,y,z])/\Gr st s/\s[st.length]? =some (.dct (fq (List.range i)))) ⟨⟨_,_,_,rfl⟩,.one _ _,aD⟩ (λ_ _ _ _=>rfl) (λi z loc s B I=>?_) λloc s I=>?_
 ·obtain⟨⟨x,y,z',rfl⟩,g,hd⟩:=I;rw[cH,aj] at B;cases hb:bs[i]? with
  |none=>rw[hb] at B;cases B
  |some b=>
   rw[hb] at B;have B:D.tup [.int ((0+i:Nat):Int),.ref b]=z:=ai B;rw[Nat.zero_add] at B;subst B;have hi:i<(num G).length:=by rw[<-Z.1];exact(aw hb).1
   rw[dZ] at hi;have hp:=i4 (ag hi);have hB:=(Z.2 i b _ hb hp).ki (t4 g);have Y:=hB;obtain⟨r1,r2,n,e1,_⟩:=Y;refine jH rfl (dL (cQ (aG rfl (C5 e1 rfl (ao (nY hB λm s1 g1 hm1 hm=>⟨_,rfl,?_⟩))))));have sl:st.length<s.length:=(aw hd).1;have hL:bV (.at m) s1=2:=by simp only[bV,hm];rfl
   refine cy (L:=[.int (3*(i:Int)),.int (3*(i:Int)+1)]) (by rw[hL];exact ac _) (λj loc s'=>(∃z,loc=[some (.ref r),some (.ref st.length),some (.int (i:Int)),some (.ref b),z])/\Gr st s'/\s'[m]? =some (.lst [.int (3*(i:Int)),.int (3*(i:Int)+1)])/\s'[st.length]? =some (.dct (fq (List.range i)++[(.inl (3*(i:Int)),D.int (i:Int)),(.inl (3*(i:Int)+1),.int (i:Int))].take j))) ⟨⟨_,rfl⟩,g.trans g1,hm,by rw[List.take_zero,List.append_nil];exact g1.at hd⟩ (λj loc s' I=>by obtain⟨_,_,F,_⟩:=I;simp only[eK,F]) (λj z loc s' B I=>?_) λloc s' I=>?_
   ·obtain⟨⟨z2,rfl⟩,J,F,c⟩:=I;have sl':st.length<s'.length:=(aw c).1;have ho:=mX (List.range i);rw[List.length_range] at ho
    match j,B,c with
    |0,B,c=>
     cases B;rw[List.take_zero,List.append_nil] at c;refine yZ (aG rfl ⟨_,_,rfl,c,aG rfl (aG rfl ⟨_,_,c,rfl,by omega,pP (qh (.inl rfl)),?_⟩)⟩)
     rw[oj];exact aN (bU ⟨⟨_,rfl⟩,J.set (ac _),sn F (by omega),bK sl'⟩)
    |1,B,c=>
     cases B;refine yZ (aG rfl ⟨_,_,rfl,c,aG rfl (aG rfl ⟨_,_,c,rfl,by simp;omega,pP mV,?_⟩)⟩)
     refine aN (bU ⟨⟨_,rfl⟩,J.set (ac _),sn F (by omega),?_⟩)
     rw[bK sl'];have:=eU (v:=D.int (i:Int)) (mV (i:=i));show some (Ev.O.dct (bP (fq (List.range i)++[(.inl (3*(i:Int)),D.int (i:Int))]) _ _))=_;rw[this,List.append_assoc];rfl
    |j+2,B,_=>simp at B
   ·obtain⟨⟨z2,rfl⟩,J,F,c⟩:=I;refine bd (aN (bU ⟨⟨_,_,_,rfl⟩,J,?_⟩));rw[c,List.range_succ];unfold fq;rw[List.flatMap_append];rfl
 ·obtain⟨⟨x,y,z',rfl⟩,g,hd⟩:=I;rw[cW,List.length_map,U] at hd;exact bd (bC (aG rfl (bD (h _ _ g hd))))
theorem qz{a:Nat}(U:st[a]? =some (.dct kvs))(J:st[b]? =some (.dct kvs))(hk:(kvs.map (·.1)).all oR=true)(F:∀p∈kvs,∃m,Sm m p.2/\m<58):dF 60 st (.ref a) (.ref b)=some true:=by
 unfold dF;simp only[shape,U,J];rw[if_pos ⟨trivial,hk⟩];refine ig λx B=>?_;obtain⟨p,I,rfl⟩:=List.mem_map.mp B;obtain⟨m,c,Y⟩:=F p I;have h1:=nr (st:=st) 59 p.2 c.1 (by have:=c.2;omega)
 unfold nK;split
 ·split
  ·rfl
  ·exact h1
 ·exact h1
theorem x9(is:List Nat):((fq is).map (·.1)).all oR=true:=by rw[List.all_eq_true];intro x c;obtain⟨p,B,rfl⟩:=List.mem_map.mp c;obtain⟨i,_,e|e⟩:=mW B<;>rw[e]<;>rfl
theorem AU(is:List Nat):∀p∈fq is,∃m,Sm m p.2/\m<58:=λp c=>by
 obtain⟨i,_,e|e⟩:=mW c<;>rw[e]<;>exact⟨0,uP,by decide⟩
end
section
variable{st:a9}{Q:Fl->a9->Prop}{n:Nat}{ss:List S}
theorem B9{I F x:Option D}(U:n<=9)
  (h:∀x m st1,Gr st st1->st1[m]? =some (.dct (fq (List.range n)))->W (execs g ss [c0,c1,some (.int (n:Int)),I,F,c5,c6,c7,x,c9,c10,some (.ref m)] st1) Q):
  W (execs g (.set 11 .emp:: .for_ 8 true (.v 2) [.setix (.v 11) (.bin .mul (.c (.int (3))) (.v 8)) (.v 8),.setix (.v 11) (.bin .add (.bin .mul (.c (.int (3))) (.v 8)) (.c (.int (1)))) (.v 8)]::ss) [c0,c1,some (.int (n:Int)),I,F,c5,c6,c7,x,c9,c10,c11] st) Q:=by
 refine ba (e7 (dL (aG rfl ⟨_,cz (by omega),?_⟩)))
 rw[Int.toNat_natCast];refine cy (L:=bN n) (ac _) (λi loc s=>(∃x,loc=[c0,c1,some (.int (n:Int)),I,F,c5,c6,c7,x,c9,c10,some (.ref st.length)])/\Gr st s/\s[st.length]? =some (.dct (fq (List.range i)))) ⟨⟨_,rfl⟩,.one _ _,aD⟩ (λ_ _ _ _=>rfl) (λi v loc s J B=>?_) λloc s B=>?_
 ·obtain⟨⟨x,rfl⟩,g,hd⟩:=B;obtain⟨hi,rfl⟩:=iq J;have ho:=mX (List.range i);rw[List.length_range] at ho;have sl:st.length<s.length:=(aw hd).1;refine cN (aG rfl (aG rfl (bG (bo (aG rfl (w_mul (by omega) (bY hd rfl (by omega) ?_)))))))
  rw[oj];refine cN (aG rfl (aG rfl (bG (bG (bo (aG rfl (w_mul (by omega) (bo (w_add (bY (bK sl) rfl (by simp;omega) ?_))))))))))
  rw[vQ,List.set_set];exact aN (bU ⟨⟨_,rfl⟩,g.set (ac _),bK sl⟩)
 ·obtain⟨⟨x,rfl⟩,g,hd⟩:=B;rw[bZ] at hd;exact bd (h x _ s g hd)
end
noncomputable def Op(d:D):Prop:=∃(s:Str)(d':D),d=.tup [.str s,d']/\(s==("name":Str))=false
theorem AX(i:Int):Op (mZ i):=⟨_,_,rfl,by decide+kernel⟩
def rn(H:List Nat)(a:Nat):Nat:=if a∈H then rk H a else a
noncomputable abbrev mM:List (Str×Nat):=[("Jump",28),("Branch",32),("Raise",36),("Risk",39)]
section
variable{k nm nu:Nat}{st:a9}{Q:D->a9->Prop}{H:List Nat}
theorem rg{d:D}(hd:Op d)(h:Q d st):Wv (calls tab (k+1) yz [d,.ref nm] st) Q:=by
 obtain⟨s,d',rfl,hs⟩:=hd
 walk_at "call0"
 refine cZ (w_and (bj (bI (aG rfl (bo (bL rfl (bo (w_eq eq_str ⟨_,rfl,λz=>?_,λ_=>⟨false,rfl,nofun,λ_=>aN (bd (bC (aG rfl (bD h))))⟩⟩))))))));rw[hs] at z;cases z
theorem nX(F:∀x∈xs,Op x)(I:xs.length<=10)(h:∀st1,Gr st st1->Q (.tup xs) st1):Wv (calls tab (k+2) wm [.tup xs,.ref nm] st) Q:=by
 walk_at "call0"
 refine bC (ca (af (d7 (aG rfl ⟨_,rfl,?_⟩))));refine bS (L:=xs) (by show xs.length<=1000000;omega) (ac _) (λj acc s=>Gr st s/\acc=xs.take j) ⟨.refl _,rfl⟩ (λ_ _ _ _=>rfl) (λj x acc s B c=>?_) λacc s c=>?_
 ·obtain⟨g,rfl⟩:=c;refine gN (b_ (af (aG rfl (af (aG rfl (ao (rg (F x (ak B)) ⟨g,?_⟩)))))));rw[List.take_add_one,B];rfl
 ·obtain⟨g,rfl⟩:=c;rw[List.take_length];exact ao (fT aD (bD (h _ (g.more _))))
theorem Ap(H:List Nat)(a:Nat):(bH (jy H) (.inl (a:Int))).getD (.int (a:Int))=.int ((rn H a:Nat):Int):=by
 rw[vp];unfold rn;by_cases h:a∈H
 ·rw[if_pos h,if_pos h];rfl
 ·rw[if_neg h,if_neg h];rfl
theorem kf{a:Nat}(c:st[nu]? =some (.dct (jy H)))(B:∀x∈xs,Op x)(F:xs.length<=10)(h:∀st1,Gr st st1->Q (eg (rn H a) xs) st1):Wv (calls tab (k+3) m9 [eg a xs,.ref nm,.ref nu] st) Q:=by
 walk_at "call0"
 refine bC (bh (af (ur (aG rfl ⟨nu,_,rfl,c,bI (aG rfl (bo (bL rfl (bI (aG rfl (bo (bL rfl ⟨_,_,c,rfl,rfl,?_⟩)))))))⟩))));rw[Ap];exact af (b_ (af (bI (aG rfl (bo (bL rfl (af (aG rfl (ao (nX B F λst1 g=>ao (bD (h st1 g))))))))))))
theorem ED:∀x∈([]:List D),Op x:=λ_ h=>nomatch h
theorem Fe(i:Int):∀x∈[mZ i],Op x:=λx h=>by rw[List.mem_singleton.mp h];exact AX i
theorem Fv(i j:Int):∀x∈[mZ i,mZ j],Op x:=all2 (AX i) (AX j)
theorem yi{a:Ex}{e:En}(J:loc[3]? =some (some (.ref nu)))(h:W (run (calls tab (k+4)) a loc st) λx st1=>∃n,x=.ref n/\EndAt st1 n e/\st1[nu]? =some (.dct (jy H))/\∀m B,Gr st1 B->EndAt B m (e.map (rn H))->Q (.ref m) B):W (run (calls tab (k+4)) (.meth a "moved" mM [.emp,(.v 3)]) loc st) Q:=by
 refine cQ (h.mono λx st1 hp=>?_);obtain⟨n,rfl,hr,F,q⟩:=hp;have F:=aV (t:=[Ev.O.dct []]) F;have Y:Gr st1 (st1++[Ev.O.dct []]):= .one _ _;cases hr with
 |rs hh=>
  refine rO hh rfl (af (e7 (af (aG J (ao ?_)))))
  walk_at "call0"
  exact bC (d6 (af (aU (aG rfl (gS (aV hh) 0 rfl (ao (se ⟨rfl,bD (q _ _ (Y.more _) (.rs aD))⟩)))))))
 |jp a hh=>
  refine rO hh rfl (af (e7 (af (aG J (ao ?_)))))
  walk_at "call0"
  exact bC (d6 (af (b_ (af (aU (aG rfl (gS (aV hh) 0 rfl (af (aG rfl (af (aG rfl (ao (kf F ED (by decide) λZ c=>ao (wo ⟨rfl,bD (q _ _ ((Y.trans c).more _) (.jp _ aD))⟩))))))))))))))
 |br a b hh=>
  refine rO hh rfl (af (e7 (af (aG J (ao ?_)))))
  walk_at "call0"
  refine ba (b_ (af (aU (aG rfl (gS (aV hh) 1 rfl (af (aG rfl (af (aG rfl (ao (kf F (Fe 3) (by decide) λZ c=>?_)))))))))))
  refine bC (d6 (af (b_ (af (aU (aG rfl (gS (c.at (aV hh)) 0 rfl (af (aG rfl (ao (rg ⟨_,_,rfl,by decide+kernel⟩ (af (aG rfl ?_)))))))))))))
  exact af (b_ (af (aU (aG rfl (gS (c.at (aV hh)) 2 rfl (af (aG rfl (af (aG rfl (ao (kf (c.at F) ED (by decide) λs3 g3=>ao (o0 ⟨rfl,bD (q _ _ ((Y.trans (c.trans g3)).more _) (.br _ _ aD))⟩))))))))))))
 |rk a b hh=>
  refine rO hh rfl (af (e7 (af (aG J (ao ?_)))))
  walk_at "call0"
  refine ba (b_ (af (aU (aG rfl (gS (aV hh) 3 rfl (af (aG rfl (af (aG rfl (ao (kf F ED (by decide) λZ c=>?_)))))))))))
  refine ba (jJ (aU (aG rfl (gS (c.at (aV hh)) 4 rfl ⟨_,rfl,?_⟩))));refine bS (L:=[.tup [.str "zero",eg b [mZ 4]]]) (by show(1:Nat)<=1000000;decide) (ac _) (λi acc s=>Gr Z s/\acc=[D.tup [.str "zero",eg (rn H b) [mZ 4]]].take i) ⟨.refl _,rfl⟩ (λ_ _ _ _=>rfl) (λj x acc s I hI=>?_) λacc s hI=>?_
  ·obtain⟨g,rfl⟩:=hI
   match j,I with
   |0,I=>
    cases I;exact jG (bh (af (aG rfl (af (b_ (af (aG rfl (af (aG rfl (af (aG rfl (ao (kf (g.at (c.at F)) (Fe 4) (by decide) λs3 g3=>ao ⟨g.trans g3,rfl⟩)))))))))))))
   |j+1,I=>simp at I
  ·obtain⟨g,rfl⟩:=hI;have U:Gr st1 (s++[Ev.O.lst [D.tup [.str "zero",eg (rn H b) [mZ 4]]]]):=(Y.trans (c.trans g)).more _;refine bC (d6 (af (aU (aG rfl (gS (U.at hh) 0 rfl (af (aU (aG rfl (gS (U.at hh) 1 rfl ?_)))))))));refine af (b_ (af (aU (aG rfl (gS (U.at hh) 2 rfl (af (aG rfl (ao (nX (Fv 1 2) (by decide) λs5 g5=>?_)))))))))
   exact af (aG rfl (af (aG rfl (ao (wn rfl (gB (g5.at aD)) ⟨rfl,bD (q _ _ ((U.trans g5).more _) (.rk _ _ aD))⟩)))))
end
noncomputable def v_:Key->D
 | .inl i=>.int i
 | .inr s=>.str s
theorem vD:∀kvs:List (Key×D),n_ (kvs.map λp=>.tup [v_ p.1,p.2])=some kvs
 |[]=>rfl
 |p::kvs=>by rw[List.map_cons];unfold n_;rw[vD kvs];obtain⟨k,d⟩:=p;cases k<;>rfl
theorem tf:∀{is:List Nat}{p:Key×D},(∀i∈is,i<n)->p∈bz is->bH (bz (List.range n)) p.1=some p.2:=by
 intro is p c F
 have B:∀(l:List Nat)(i:Nat),i∈l->bH (bz l) (.inl (3*(i:Int)))=some kT/\bH (bz l) (.inl (3*(i:Int)+1))=some kN:=by
  intro l
  induction l with
  |nil=>intro i h;cases h
  |cons j l ih=>
   intro i h;show bH ((.inl (3*(j:Int)),kT)::(.inl (3*(j:Int)+1),kN)::bz l) _=_/\bH ((.inl (3*(j:Int)),kT)::(.inl (3*(j:Int)+1),kN)::bz l) _=_;unfold bH;unfold bH;by_cases e:j=i
   ·subst e;rw[if_pos rfl];refine⟨rfl,?_⟩;rw[if_neg (λz=>by have:=Sum.inl.inj z;omega),if_pos rfl]
   ·have h':=ih i (by
     rcases List.mem_cons.mp h with z|z
     ·exact absurd z.symm e
     ·exact z)
    rw[if_neg (λz=>by have:=Sum.inl.inj z;omega),if_neg (λz=>by have:=Sum.inl.inj z;omega),if_neg (λz=>by have:=Sum.inl.inj z;omega),if_neg (λz=>by have:=Sum.inl.inj z;omega)]
    exact h'
 obtain⟨i,hi,e|e⟩:=cU F
 ·rw[e];exact(B _ i (List.mem_range.mpr (c i hi))).1
 ·rw[e];exact(B _ i (List.mem_range.mpr (c i hi))).2
theorem oH:∀{is:List Nat},is.Nodup->((bz is).map (·.1)).Nodup
 |[],_=>.nil
 |i::is,h=>by
  obtain⟨h1,I⟩:=List.nodup_cons.mp h;have B:=oH I;show((.inl (3*(i:Int)):Key):: .inl (3*(i:Int)+1)::(bz is).map (·.1)).Nodup;refine List.nodup_cons.mpr ⟨λz=>?_,List.nodup_cons.mpr ⟨λz=>?_,B⟩⟩
  ·rcases List.mem_cons.mp z with z|z
   ·have:=Sum.inl.inj z;omega
   ·obtain⟨p,c,e⟩:=List.mem_map.mp z;exact i6 h1 p c e
  ·obtain⟨p,c,e⟩:=List.mem_map.mp z;obtain⟨j,F,q|q⟩:=cU c
   ·rw[q] at e;have:=Sum.inl.inj e;omega
   ·rw[q] at e;have:=Sum.inl.inj e;have:j=i:=by omega
    exact h1 (this▸F)
theorem qo(h:is.Nodup):pc (bz is)=bz is:=by
 have:=np (bz is) [] (by rw[List.nil_append];exact oH h)
 exact this
theorem tj(is:List Nat):((bz is).map (·.1)).all oR=true:=by rw[List.all_eq_true];intro x c;obtain⟨p,B,rfl⟩:=List.mem_map.mp c;obtain⟨i,_,e|e⟩:=cU B<;>rw[e]<;>rfl
theorem v8(is:List Nat):∀p∈bz is,∃m,Sm m p.2/\m<58:=λp c=>by
 obtain⟨i,_,e|e⟩:=cU c<;>rw[e]<;>exact⟨1,Sm.tup (m:=0) (wZ z3 DJ),by decide⟩
def t3(is:List Nat):List D:=(bz is).map λp=>v_ p.1
theorem vY(is:List Nat):(t3 is).length=2*is.length:=by unfold t3;rw[List.length_map,d3]
theorem A4(is:List Nat)(i:Nat):t3 (is++[i])=t3 is++[.int (3*(i:Int)),.int (3*(i:Int)+1)]:=by unfold t3;rw[lX,List.map_append];rfl
section
variable{k r:Nat}{st:a9}{Q:D->a9->Prop}{G:List En}
theorem p7(hg:G.length<=9)(hf:dH st r (num G))(U:st[m]? =some (.lst (t3 H)))(hH:∀i∈H,i<G.length)(nd:H.Nodup)(hl:H.length<=9)(h:∀d st1,Gr st st1->st1[d]? =some (.dct (bz H))->Q (.ref d) st1):Wv (calls tab (k+1) gK [.ref r,.ref m] st) Q:=by
 obtain⟨kd,kk,bs,h1,h2,I,h4⟩:=hf;rw[jQ] at I
 walk_at "call0"
 refine bC (ca (af (e8 (aG rfl ⟨_,rfl,?_⟩))));have Y:bV (.at m) st=(t3 H).length:=by simp only[bV,U]
 refine bS (L:=t3 H) (by rw[Y,vY];omega) (by rw[Y];exact ac _) (λj acc s=>s=st/\acc=((bz H).map λp=>D.tup [v_ p.1,p.2]).take j) ⟨rfl,rfl⟩ (λj acc s B=>by obtain⟨rfl,_⟩:=B;simp only[eK,U]) (λj x acc s c B=>?_) λacc s B=>?_
 ·obtain⟨rfl,rfl⟩:=B;unfold t3 at c;rw[aj] at c;cases hp:(bz H)[j]? with
  |none=>rw[hp] at c;cases c
  |some p=>
   rw[hp] at c;have c:v_ p.1=x:=ai c;have F:=tf hH (ak hp);obtain⟨i,_,e⟩:=cU (ak hp);obtain⟨z,J⟩:∃z,p.1=.inl z:=by rcases e with e|e<;>rw[e]<;>exact⟨_,rfl⟩
   have Z:v_ p.1=.int z:=by rw[J];rfl
   rw[J] at F;rw[Z] at c;subst c;refine gA (bj (aG rfl (aU (aG rfl (kI h1 3 rfl (uq I rfl ⟨_,rfl,λ_=>?_,λq=>?_⟩))))))
   ·refine bh (af (aG rfl (af (bI (aU (aG rfl (kI h1 3 rfl (aG rfl (fV I F (ao ⟨rfl,?_⟩))))))))));dsimp only;rw[List.take_add_one,aj,hp,<-Z];rfl
   ·rw[F] at q;cases q
 ·obtain⟨rfl,rfl⟩:=B;rw[List.take_of_length_le (by simp[t3])]
  refine ao (qQ aD (vD _) ?_);rw[qo nd];exact bD (h _ _ ((Gr.one _ _).more _) aD)
theorem Ac{L:List (Nat×En)}{c:List Nat}(hg:G.length<=9)(hf:dH st r (num G))(Z:st[m]? =some (.lst (c.map .ref)))(hB:gY st c L)(hH:∀i∈L.map (·.1),i<G.length)(nd:(L.map (·.1)).Nodup)(hl:L.length<=9)
  (h:∀f st1,Gr st st1->dH st1 f L->Q (.ref f) st1):Wv (calls tab (k+2) ft [.ref r,.ref m] st) Q:=by
 have hf':=hf;obtain⟨kd,kk,bs,h1,h2,h3,h4⟩:=hf
 walk_at "call0"
 have ml:m<st.length:=(aw Z).1;refine ba (cr (ao (dL (aG rfl ⟨_,rfl,?_⟩))));have hL:bV (.at m) (st++[Ev.O.lst []])=(c.map D.ref).length:=by simp only[bV,aV Z]
 refine cy (L:=c.map .ref) (by rw[hL];exact ac _) (λj loc s=>(∃x,loc=[some (.ref r),some (.ref m),some (.ref st.length),x])/\Gr st s/\s[st.length]? =some (.lst (t3 ((L.map (·.1)).take j)))) ⟨⟨_,rfl⟩,.one _ _,aD⟩ (λj loc s J=>by obtain⟨_,g,_⟩:=J;simp only[eK,g.at Z]) (λj z loc s F J=>?_) λloc s J=>?_
 ·obtain⟨⟨x,rfl⟩,g,B⟩:=J;rw[aj] at F;cases hb:c[j]? with
  |none=>rw[hb] at F;cases F
  |some b=>
   rw[hb] at F;cases F;have hj:j<L.length:=by rw[<-hB.1];exact(aw hb).1
   have hp:L[j]? =some L[j]:=ag hj;have U:=(hB.2 j b _ hb hp).ki (t4 g);have hB':=U;obtain⟨r1,r2,n,e1,_⟩:=hB';have sl:st.length<s.length:=(aw B).1;have I:=vY ((L.map (·.1)).take j);rw[List.length_take,List.length_map] at I;refine B_ (aG rfl ⟨_,_,rfl,B,cQ (aG rfl (C5 e1 rfl (ao (nY U λq s1 Y hq1 hq=>⟨q,_,_,rfl,Y.at B,hq,by rw[I];simp only[List.length_cons,List.length_nil];omega,?_⟩))))⟩)
   refine aN (bU ⟨⟨_,rfl⟩,(g.trans Y).set (ac _),?_⟩);rw[bK (az sl Y.le),List.take_add_one,aj,hp];show _=some (Ev.O.lst (t3 ((L.map (·.1)).take j++[L[j].1])));rw[A4]
 ·obtain⟨⟨x,rfl⟩,g,B⟩:=J;rw[List.take_of_length_le (by rw[List.length_map,List.length_map,hB.1];exact ac _)] at B
  refine bd (bC (d6 (af (aU (aG rfl (kI (g.at h1) 0 rfl (af (aU (aG rfl (kI (g.at h1) 1 rfl ?_))))))))));refine af (cQ (aG rfl (DV (g.at h1) rfl (af (aG rfl (ao (p7 hg (hf'.gr g) B hH nd (by rw[List.length_map];exact hl) λd s1 Y hd=>?_)))))))
  have g2:=g.trans Y;refine af (aG rfl (ao (wq rfl hd (gB (g2.at Z)) λa b s2 q1 q2 q3 g3=>⟨rfl,bD (h _ _ (g2.trans g3) ⟨a,b,c,q1,q2,q3,hB.ki (t4 (g2.trans g3))⟩)⟩)))
end
noncomputable def zF(G:List En):List (Nat×En):=(bc G).map λi=>(i,(G.getD i .rs).map (rn (bc G)))
section
variable{G:List En}
theorem iA(h:i∈bc G):i<G.length:=(dh.mp h).1
theorem jT(G:List En):(bc G).Nodup:=zJ _ _
theorem o6(G:List En):(bc G).length<=G.length:=nG _ _
theorem qE(G:List En):(zF G).map (·.1)=bc G:=by unfold zF;rw[List.map_map];exact List.map_id _
theorem qD(G:List En):(zF G).length=(bc G).length:=by unfold zF;rw[List.length_map]
theorem zz(h:(bc G)[j]? =some i):∃e,G[i]? =some e/\(zF G)[j]? =some (i,e.map (rn (bc G))):=by have hi:=iA (ak h);refine⟨G[i],ag hi,?_⟩;unfold zF;rw[aj,h];simp[hi]
theorem wv{a:Nat}{e:En}(I:0<G.length)(c:iO G.length G)(h:i∈bc G)(B:G[i]? =some e)(F:a∈e.fol):a∈bc G:=by obtain⟨l,w⟩:=(dh.mp h).2;refine dh.mpr ⟨(c e (ak B) a F).2,_,.cons w (pi.mpr ?_)⟩;rw[zx B];exact F
end
section
variable{k r:Nat}{st:a9}{Q:D->a9->Prop}{G:List En}
theorem va(hg:0<G.length/\G.length<=9)(hfit:iO G.length G)(hf:dH st r (num G))(h:∀f nu st1,Gr st st1->dH st1 f (zF G)->st1[nu]? =some (.dct (jy (bc G)))->Q (.tup [.ref f,.ref nu]) st1):Wv (calls tab (k+5) oT [.ref r] st) Q:=by
 have hf':=hf;obtain⟨kd,kk,bs,h1,h2,h3,h4⟩:=hf;have hbl:bs.length=G.length:=by rw[h4.1,dZ]
 have hhl:=o6 G
 walk_at "call0"
 refine ba (b_ (af (aG rfl (ao (gC hg hfit hf' λl s1 g1 hl1 hl=>?_)))));have hl:s1[l]? =some (.lst ((zs (bc G)).map .int)):=hl;refine ba (uj rfl hl (jT G) (by omega) λnu s2 g2 hnu1 Z=>?_)
 refine ba (d7 (aG rfl ⟨_,rfl,?_⟩));have hl2:=g2.at hl;have g02:=g1.trans g2;have hL:bV (.at l) s2=((zs (bc G)).map D.int).length:=by simp only[bV,hl2]
 refine bS (L:=(zs (bc G)).map .int) (by rw[hL,bf];omega) (by rw[hL];exact ac _) (λj acc s=>s=s2/\acc=((bc G).take j).map λi=>D.ref (bs.getD i 0)) ⟨rfl,rfl⟩ (λj acc s c=>by obtain⟨rfl,_⟩:=c;simp only[eK,hl2]) (λj z acc s B c=>?_) λacc s c=>?_
 ·obtain⟨rfl,rfl⟩:=c;obtain⟨i,I,rfl⟩:=my B;have hi:=iA (ak I);have J:bs[i]? =some (bs.getD i 0):=by rw[List.getD_eq_getElem?_getD,ag (by omega)];rfl
  refine gN (bI (aU (aG rfl (kI (g02.at h1) 4 rfl (aG rfl (bL (cw (by rw[aj,J];rfl)) ⟨rfl,?_⟩))))))
  dsimp only;rw[List.take_add_one,I,List.map_append];rfl
 ·obtain⟨rfl,rfl⟩:=c;rw[bf,List.take_length];obtain⟨Y,F⟩:∃Y,Y=s++[Ev.O.lst ((bc G).map λi=>D.ref (bs.getD i 0))]:=⟨_,rfl⟩;have g3:Gr s Y:=by rw[F];exact .one _ _
  have h3m:Y[s.length]? =some (.lst ((bc G).map λi=>D.ref (bs.getD i 0))):=by rw[F];exact aD
  show W (execs _ _ _ (s++[Ev.O.lst ((bc G).map λi=>D.ref (bs.getD i 0))])) _;rw[<-F];clear F;have g03:=g02.trans g3;refine ba (d7 (aG rfl ⟨_,rfl,?_⟩));have hL3:bV (.at s.length) Y=((bc G).map λi=>D.ref (bs.getD i 0)).length:=by simp only[bV,h3m]
  refine bS (L:=(bc G).map λi=>D.ref (bs.getD i 0)) (by rw[hL3,List.length_map];omega) (by rw[hL3];exact ac _) (λj acc s'=>Gr Y s'/\∃rs:List Nat,acc=rs.map .ref/\gY s' rs ((zF G).take j)) ⟨.refl _,[],rfl,rfl,λj b p a _=>by simp at a⟩ (λj acc s' c=>by obtain⟨g,_⟩:=c;simp only[eK,g.at h3m]) (λj z acc s' B c=>?_) λacc s' c=>?_
  ·obtain⟨g,rs,rfl,hB⟩:=c;rw[aj] at B;cases I:(bc G)[j]? with
   |none=>rw[I] at B;cases B
   |some i=>
    rw[I] at B;have B:D.ref (bs.getD i 0)=z:=ai B;subst B;obtain⟨e,he,hc⟩:=zz I;have hi:=iA (ak I);have J:bs[i]? =some (bs.getD i 0):=by rw[List.getD_eq_getElem?_getD,ag (by omega)];rfl
    have gg:=g03.trans g;obtain⟨r1,r2,n,e1,e2,e3,e4⟩:=(h4.2 i _ _ J (i4 he)).ki (t4 gg);refine gN (d6 (af (aU (aG rfl (yE e1 0 rfl (af (aU (aG rfl (yE e1 1 rfl (af (yi (nu:=nu) (H:=bc G) rfl (aU (aG rfl (yE e1 2 rfl ⟨n,rfl,e4,(g3.trans g).at Z,λm s5 g5 hE=>ao (sf rfl rfl ⟨rfl,?_⟩)⟩))))))))))))));have U:=g5.more (.ins "Block" (jk (.tup [.int (3*(i:Int))]) (.tup [.ref r1,.ref r2]) (.ref m)));refine⟨g.trans U,rs++[s5.length],by simp,?_⟩
    rw[List.take_add_one,hc];exact(hB.ki (t4 U)).snoc ⟨r1,r2,m,aD,U.at e2,U.at e3,hE.gr (.one _ _)⟩
  ·obtain⟨g,rs,rfl,hB⟩:=c;rw[List.take_of_length_le (by rw[List.length_map,qD];exact ac _)] at hB
   have g4:Gr st (s'++[Ev.O.lst (rs.map D.ref)]):=(g03.trans g).more _;refine bC (bh (af (cQ (aG rfl (DV (g4.at h1) rfl (af (aG rfl (ao (Ac hg.2 (hf'.gr g4) aD (hB.ki (t4 (.one _ _))) ?_ ?_ ?_ λf s6 U hF=>?_)))))))))
   ·rw[qE];exact λi hi=>iA hi
   ·rw[qE];exact jT G
   ·rw[qD];omega
   ·exact af (aG rfl (ao (bD (h f nu s6 (g4.trans U) hF ((((g3.trans g).more _).trans U).at Z)))))
theorem Dl(e:En)(f:Nat->Nat):∃t:Str,e.d=.tup (.str t::(zs e.fol).map .int)/\(e.map f).d=.tup (.str t::(zs (e.fol.map f)).map .int):=by cases e<;>exact⟨_,rfl,rfl⟩
theorem p5{nu:Nat}{e:En}(Y:st[nu]? =some (.dct (jy H)))(Z:∀a∈e.fol,a∈H)(h:∀st1,Gr st st1->Q (e.map (rn H)).tl st1):Wv (calls tab (k+3) jC [e.d,.ref nu] st) Q:=by
 obtain⟨t,h1,h2⟩:=Dl e (rn H);rw[h1]
 walk_at "call0"
 refine ba (bG (bh (af (bI (aG rfl (bo (bL (cw (i:=0) rfl) (ao (ca (af (d7 (im (aG rfl (bo ⟨_,rfl,Ep ⟨_,rfl,?_⟩⟩))))))))))))));have hf:=kH e;refine bS (L:=(zs e.fol).map .int) (by show((zs e.fol).map D.int).length<=1000000;rw[bf];omega) (ac _) (λj acc s=>s=st/\acc=((zs (e.fol.map (rn H))).map .int).take j) ⟨rfl,rfl⟩ (λ_ _ _ _=>rfl) (λj z acc s U c=>?_) λacc s c=>?_
 ·obtain⟨rfl,rfl⟩:=c;obtain⟨a,B,rfl⟩:=my U;have I:=Z a (ak B);have F:=vp H a;rw[if_pos I] at F;refine gN (bI (aG rfl (aG rfl (fV Y F ⟨rfl,?_⟩))));dsimp only
  have e1:((zs (e.fol.map (rn H))).map D.int)[j]? =some (.int ((rk H a:Nat):Int)):=by refine dj ?_;rw[aj,B];unfold rn;simp[I]
  rw[List.take_add_one,e1];rfl
 ·obtain⟨rfl,rfl⟩:=c;rw[List.take_of_length_le (by rw[bf,bf,List.length_map];exact ac _)]
  refine ao (fT aD (zS (by simp) (by simp[zs];omega) ?_))
  refine bC (zm (e:=e.map (rn H)) (b_ (af (aG rfl (ao ?_)))));show Wv (calls tab (k+2) fK [.tup (.str t::(zs (e.fol.map (rn H))).map .int)] _) _;rw[<-h2];exact u7 λn J g1 hE=>⟨n,rfl,hE,bD (h J ((Gr.one _ _).trans g1))⟩
theorem uQ(i:Nat)(e:En):Sm 20 (tW i e):=by cases e<;>simp[Sm,tW,vh,vg,En.tl,vW,jA,wN,jg]
theorem nZ:∀(o:Nat)(l:List Nat) (x:Nat),vt o (l++[x])=vt o l++[(.inl (x:Int),.int ((o+l.length:Nat):Int))]
 |o,[],x=>rfl
 |o,y::l,x=>by
  rw[List.cons_append,fX,fX,nZ (o+1) l x,List.cons_append,List.length_cons,show o+1+l.length=o+(l.length+1) by omega]
theorem rp(l:List Nat):(jy l).length=l.length:=by simp[jy,vt]
theorem xO{x:Nat}(h:x∉l):bP (jy l) (.inl (x:Int)) (.int ((jy l).length:Int))=jy (l++[x]):=by
 rw[eU,rp]
 ·have:=nZ 0 l x;rw[Nat.zero_add] at this;exact this.symm
 ·intro p B z;have:(Sum.inl (x:Int):Key)∈(vt 0 l).map (·.1):=List.mem_map.mpr ⟨p,B,z⟩;rw[jL] at this;obtain⟨y,c,e⟩:=List.mem_map.mp this;exact h ((Int.ofNat_inj.mp (Sum.inl.inj e))▸c)
theorem xP(l:List Nat):((jy l).map (·.1)).all oR=true:=by unfold jy;rw[jL,List.all_eq_true];intro x c;obtain⟨y,_,rfl⟩:=List.mem_map.mp c;rfl
theorem Aq(l:List Nat):∀p∈jy l,∃m,Sm m p.2/\m<58:=λp c=>by
 obtain⟨q,_,rfl⟩:=List.mem_map.mp c;exact⟨0,uP,by decide⟩
end
section
variable{k r en hr:Nat}{st:a9}{Q:D->a9->Prop}{G:List En}
theorem u8(hg:0<G.length/\G.length<=9)(Y:iO G.length G)(hf:dH st r (num G))(he:st[en]? =some (.lst (G.map En.d)))(hh:st[hr]? =some (.lst ((zs (bc G)).map .int)))(h:∀st1,Gr st st1->Q (.bl true) st1):Wv (calls tab (k+6) gJ [.ref r,.ref en,.ref hr] st) Q:=by
 have hf':=hf;obtain⟨kd,kk,bs,h1,h2,h3,h4⟩:=hf;have hbl:bs.length=G.length:=by rw[h4.1,dZ]
 have hhl:=o6 G
 walk_at "call0"
 refine ba (e7 (dL (aG rfl ⟨_,rfl,?_⟩)));have hL:bV (.at hr) (st++[Ev.O.dct []])=((zs (bc G)).map D.int).length:=by simp only[bV,aV hh]
 refine cy (L:=(zs (bc G)).map .int) (by rw[hL];exact ac _) (λj loc s=>(∃x,loc=[some (.ref r),some (.ref en),some (.ref hr),some (.ref st.length),x,none,none,none,none])/\Gr st s/\s[st.length]? =some (.dct (jy ((bc G).take j)))) ⟨⟨_,rfl⟩,.one _ _,aD⟩ (λj loc s I=>by obtain⟨_,g,_⟩:=I;simp only[eK,g.at hh]) (λj z loc s B I=>?_) λloc s I=>?_
 ·obtain⟨⟨x,rfl⟩,g,hd⟩:=I
  have hj:j<(bc G).length:=by have:=(aw B).1;rwa [bf] at this
  have hu:(bc G)[j]? =some (bc G)[j]:=ag hj;rw[dj hu] at B;cases B;have hl:=rp ((bc G).take j);rw[List.length_take] at hl;have sl:st.length<s.length:=(aw hd).1;have Z:(bc G)[j]∉(bc G).take j:=m3 (jT G) hu;refine cN (ca (af (aG rfl (ao (zN hd (aG rfl (aG rfl (bY hd rfl (by omega) ?_))))))))
  rw[xO Z];refine aN (bU ⟨⟨_,rfl⟩,g.set (ac _),?_⟩);rw[bK sl,List.take_add_one,hu];rfl
 ·obtain⟨⟨x,rfl⟩,g,hd⟩:=I;rw[bf,List.take_length] at hd;refine bd (ba (b_ (af (aG rfl (ao (va hg Y (hf'.gr g) λf nu U g1 hF hnu=>?_))))));have hF':=hF;obtain⟨kd',kk',c,f1,f2,f3,f4⟩:=hF;rw[qE] at f2;have F:c.length=(bc G).length:=by rw[f4.1,qD]
  have J:=g.trans g1;refine cZ (w_or (w_not (zO (aG rfl ⟨_,rfl,true,rfl,_,rfl,nofun,λ_=>?_⟩))));refine w_or (bj (ca (af (aG rfl (ao (g_ (bo (qN ⟨_,rfl,λz=>?_,λ_=>?_⟩))))))))
  ·simp at z
  refine w_or (bj (bI (aG rfl (bo (bL rfl (aG rfl (lj (qz hnu (g1.at hd) (xP _) (Aq _)) ⟨_,rfl,nofun,λ_=>?_⟩)))))));refine bj (ca (af (aU (bI (aG rfl (bo (bL rfl (kI f1 4 rfl (ao (g_ (ca (af (aG rfl (ao (fU (J.at hh) (qN ⟨_,rfl,λz=>?_,λ_=>aN (bd ?_)⟩))))))))))))))))
  ·rw[bf,List.length_map,F] at z;simp at z
  refine ba (e7 (qP (aG rfl (aU (bI (aG rfl (bo (bL rfl (kI (aV f1) 4 rfl ?_)))))))));have seqs:∀{s':a9},Gr st s'->bq s' (.ref hr)=some ((zs (bc G)).map .int):=λg'=>by simp only[bq,g'.at hh]
  have gE:Gr U (U++[Ev.O.dct []]):= .one _ _;have hL2:bV (.zp (.ref hr) (.tup (c.map D.ref))) (U++[Ev.O.dct []])=((zs (bc G)).map D.int).length:=by simp only[bV,seqs (J.trans gE)]
  refine cy (L:=List.zipWith (λx y=>D.tup [x,y]) ((zs (bc G)).map .int) (c.map .ref)) (by rw[hL2,List.length_zipWith];exact Nat.min_le_left _ _) (λj loc s=>(∃x y z,loc=[some (.ref r),some (.ref en),some (.ref hr),some (.ref st.length),x,some (.tup [.ref f,.ref nu]),some (.ref U.length),y,z])/\Gr U s/\s[U.length]? =some (.dct (bz ((bc G).take j)))) ⟨⟨_,_,_,rfl⟩,gE,aD⟩ (λj loc s I=>?_) (λj z loc s B I=>?_) λloc s I=>?_
  ·obtain⟨_,g',_⟩:=I;have e2:bq s (.tup (c.map D.ref))=some (c.map .ref):=rfl;simp only[eK,seqs (J.trans g'),e2];rw[List.getElem?_zipWith];generalize ((zs (bc G)).map D.int)[j]? =p;generalize (c.map D.ref)[j]? =q;cases p<;>cases q<;>rfl
  ·obtain⟨⟨x,y,z',rfl⟩,g',hk⟩:=I;rw[List.getElem?_zipWith] at B;cases hx:(bc G)[j]? with
   |none=>
    have:((zs (bc G)).map D.int)[j]? =none:=aZ (by rw[bf];exact List.getElem?_eq_none_iff.mp hx)
    rw[this] at B;cases B
   |some i=>
    have hj:j<c.length:=by rw[F];exact(aw hx).1
    have hb:c[j]? =some c[j]:=ag hj;rw[dj hx,aj,hb] at B;have B:D.tup [.int (i:Int),.ref c[j]]=z:=ai B;subst B;obtain⟨e,hGi,hc⟩:=zz hx;have him:=ak hx;have hi:=iA him;have hbi:bs[i]? =some (bs[i]'(by omega)):=ag (by omega)
    have gg:=J.trans g';have hB0:=(h4.2 i _ _ hbi (i4 hGi)).ki (t4 gg);have hB0':=hB0;obtain⟨_,_,_,a1,_⟩:=hB0';have sl:U.length<s.length:=(aw hk).1;refine jH rfl (ba (cQ (bI (aU (aG rfl (kI (gg.at h1) 4 rfl (aG rfl (bL (cw (by rw[aj,hbi];rfl)) (C5 a1 rfl (ao (vb hB0 λs2 g2=>?_)))))))))))
    have hB1:=(f4.2 j _ _ hb hc).ki (t4 (g'.trans g2));have hB1':=hB1;obtain⟨_,_,_,b1,_⟩:=hB1';refine cZ (bj (cQ (aG rfl (C5 b1 rfl (ao (vb hB1 λs3 g3=>?_))))));have g03:=gg.trans (g2.trans g3);have g13:=g'.trans (g2.trans g3);refine bh (af (bI (aG rfl (bo (bL rfl (af (bI (aG rfl (bo (bL rfl (af (b_ (af (bI (aG rfl (aG rfl (dk (g03.at he) (cw (by rw[aj,hGi];rfl)) (af (aG rfl (ao ?_))))))))))))))))))))
    refine p5 (H:=bc G) (e:=e) ((g1.trans g13).at hd) (λa ha=>wv hg.1 Y him hGi ha) λs4 g4=>ao (lj (uQ i (e.map (rn (bc G)))).eq ⟨_,rfl,nofun,λ_=>aN (bd ?_)⟩);have g14:=g13.trans g4;have hk4:=(g2.trans (g3.trans g4)).at hk;have Z:i∉(bc G).take j:=m3 (jT G) hx;have hkl:=d3 ((bc G).take j);rw[List.length_take] at hkl;have sl4:U.length<s4.length:=(aw hk4).1;refine cN (bh (af (bo (ao (aG rfl (bG (bo (aG rfl (w_mul (by omega) (bY hk4 rfl (by omega) ?_))))))))))
    refine cN (bh (af (bo (ao (aG rfl (bG (bG (bo (aG rfl (w_mul (by omega) (bo (w_add (bY (bK sl4) rfl ?_ ?_)))))))))))))
    ·have:=rC (bz ((bc G).take j)) (.inl (3*(i:Int))) (.tup [.str "truth"]);omega
    rw[List.set_set,lW Z];refine aN (bU ⟨⟨_,_,_,rfl⟩,g14.set (ac _),?_⟩);rw[bK sl4,List.take_add_one,hx];rfl
  ·obtain⟨⟨x,y,z',rfl⟩,g',hk⟩:=I;rw[List.take_of_length_le (by rw[List.length_zipWith,bf,List.length_map,F];simp)] at hk
   have gg:=J.trans g';refine bd (bC (w_and (bj (aU (bI (aG rfl (bo (bL rfl (kI (g'.at f1) 2 rfl (aG rfl (w_eq (qz (g'.at f2) hk (tj _) (v8 _)) ⟨_,rfl,λ_=>?_,nofun⟩)))))))))));refine bj (bh (af (aU (bI (aG rfl (bo (bL rfl (kI (g'.at f1) 0 rfl (af (aU (bI (aG rfl (bo (bL rfl (kI (g'.at f1) 1 rfl (ao ?_))))))))))))))));refine bh (af (aU (aG rfl (kI (gg.at h1) 0 rfl (af (aU (aG rfl (kI (gg.at h1) 1 rfl (ao ?_)))))))));exact w_eq (Sm.eq (m:=5) (by simp[Sm,vW,jA,wN,jg])) (bD (h _ gg))
end
theorem xz(G:List En):Sm 30 (qX G):=by
 unfold qX;refine Sm.mono (m:=26) (Sm.tup (m:=25) (wZ ?_ (wZ ?_ (wZ ?_ (wZ ?_ DJ))))) (by decide)
 ·simp[Sm,vW,jA,wN,jg]
 ·simp[Sm,vW,jA,wN,jg]
 ·refine Sm.mono (m:=6) (Sm.tup (m:=5) λx c=>?_) (by decide)
  unfold DW at c;obtain⟨p,B,rfl⟩:=List.mem_map.mp c;have:=(List.of_mem_zip B).2;obtain⟨i,_,e|e⟩:=cU this<;>rw[e]<;>simp[Sm,vW,jA,wN,jg]
 ·refine Sm.mono (m:=21) (Sm.tup (m:=20) λx c=>?_) (by decide)
  obtain⟨p,_,rfl⟩:=List.mem_map.mp c;exact uQ _ _
theorem Rv.ways(h:Rv s0 st b Bs):ci st b Bs:=by obtain⟨_,rs,h1,B,_,c⟩:=h;exact⟨rs,h1,B,c⟩
section
variable{k:Nat}{st:a9}{ns:List Int}{Q:D->a9->Prop}
theorem CB(hns:ns.length<=63)(h:∀st1,Q (.bl true) st1):Wv (calls tab (k+7) Db [.fl (ns.map .int)] st) Q:=by
 walk_at "call0"
 refine ba (b_ (af (pL (aG rfl (bo ⟨_,rfl,B8 (af (bo (ao ?_)))⟩)))))
 have hcut:∃cs:List Int,cutD (ns.map D.int) none (some 62)=cs.map .int/\cs.length<=63:=by
  refine⟨((ns.drop (HT.cG (ns.map D.int).length 0 none)).take (HT.cG (ns.map D.int).length (ns.map D.int).length (some 62) - HT.cG (ns.map D.int).length 0 none)),?_,?_⟩
  ·unfold cutD;rw[List.map_take,List.map_drop]
  ·rw[List.length_take,List.length_drop];omega
 obtain⟨cs,hcs,hcl⟩:=hcut;rw[hcs];refine sL (k:=k+4) aD hcl λl s1 hl1 g1 hls=>?_;refine ba (bG (bo (bG (b_ (af (aG rfl (ao (uZ (k:=k+5) hl1 λw0 s2 b2 hl2=>bo (w_mod (by decide) (w_add ?_))))))))))
 obtain⟨n,hn,hn1,F⟩:∃n:Nat,1+w0 % 9=(n:Int)/\1<=n/\n<=9:=⟨(1+w0 % 9).toNat,by omega,by omega,by omega⟩
 rw[hn];refine ba (b_ (af (aG rfl (af (aG rfl (ao (Ak (k:=k+4) ⟨hn1,F⟩ hl2 λG en s3 b3 hGn c he1 he=>?_)))))));subst hGn;have Y:0<G.length/\G.length<=9:=⟨hn1,F⟩;refine ba (b_ (af (aG rfl (ao (p6 (k:=k+3) he F λf s4 g4 hf=>?_)))));have hF:=hf;obtain⟨kd,kk,bs,f1,_⟩:=hF;refine ba (cQ (aG rfl (DV f1 rfl (ao (uY (k:=k+3) F hf λs5 g5=>?_)))));refine ba (b_ (af (aG rfl (af (cr (ao (ao (u_ (k:=k+5) (X:=[]) Y c (((g4.trans g5).more _).at he) aD λhr s6 g6 hr1 hh=>?_))))))));rw[yA] at hh;have g56:Gr s5 s6:=(Gr.one _ _).trans g6;have he6:=(g4.trans (g5.trans g56)).at he;have hf6:=hf.gr (g5.trans g56);refine Ca (k:=k+5) Y c he6 hh _ λx y du s7 g7 hdu=>?_;have he7:=g7.at he6;have B:=hf6.gr g7;have hh7:=g7.at hh;refine ba (b_ (af (aG rfl (ao (nW (k:=k+2) Y c B λBs fd s8 g8 rv hB1 hB2=>?_)))));have eB:=wJ hB1 hB2;subst eB;obtain⟨rs0,fd1,_⟩:=rv.ways;refine cZ (w_or (w_not (zP (aG rfl ⟨_,_,rfl,fd1,true,rfl,_,rfl,nofun,λ_=>?_⟩))));refine w_or (bj (aG rfl (aG rfl (lj (sj rv.ways (hdu.gr g8)) ⟨_,rfl,nofun,λ_=>?_⟩))));refine bj (b_ (af (aG rfl (ao (gC (k:=k+2) Y c (B.gr g8) λq1 s9 g9 hq1 hq=>?_)))));refine aG rfl (lj (jU (n:=58) hq ((g8.trans g9).at hh7)) ⟨_,rfl,nofun,λ_=>aN (bd ?_)⟩);have rv9:=rv.gr g9;obtain⟨fdb,rs,fd9,fdl,fda,fdat⟩:=rv9;have hpos:0<rs.length:=by rw[fdl];simp[jF];omega
 have hr0:rs[0]? =some rs[0]:=ag hpos;obtain⟨ws,Z⟩:∃ws,(jF G)[0]? =some ws:=⟨_,ag (by omega)⟩
 have hat0:=fdat 0 _ ws hr0 Z
 have hwl:ws.length<=9:=by unfold jF at Z;rw[aj,List.getElem?_range Y.1] at Z;cases Z;exact aR (nG _ _) F
 refine eM (bI (aG rfl (bo (dk fd9 (cw (i:=0) (by rw[aj,hr0];rfl)) (cF hat0 (bo (ce hat0 (by rw[bf];omega) ?_)))))))
 have g10:Gr s7 (s9.set rs[0] (.lst ((zs ws).map .int++[.int 99]))):=(g8.trans g9).set (fda _ (List.getElem_mem hpos)).1;obtain⟨s10,hs10⟩:∃s10,s10=s9.set rs[0] (.lst ((zs ws).map .int++[.int 99])):=⟨_,rfl⟩;rw[<-hs10] at g10 ⊢;clear hs10;refine Cb (b_ (af (aG rfl (ao (gC (k:=k+2) Y c (B.gr g10) λq2 s11 g11 hq21 hq2=>⟨q2,_,rfl,hq2,?_⟩)))));have U:Gr s7 (s11.set q2 (.lst [])):=(g10.trans g11).set (aR g10.le hq21);obtain⟨s12,hs12⟩:∃s12,s12=s11.set q2 (.lst []):=⟨_,rfl⟩;rw[<-hs12] at U ⊢;clear hs12;refine cZ (w_or (bj (b_ (af (aG rfl (ao (nW (k:=k+2) Y c (B.gr U) λBs fd' s13 g13 rv' hB1' hB2'=>?_)))))));have eB:=wJ hB1' hB2';subst eB;refine aG rfl (lj (sj rv'.ways ((hdu.gr U).gr g13)) ⟨_,rfl,nofun,λ_=>?_⟩);refine bj (b_ (af (aG rfl (ao (gC (k:=k+2) Y c (B.gr (U.trans g13)) λq3 s14 g14 hq31 hq3=>?_)))));have J:=U.trans (g13.trans g14);refine aG rfl (lj (jU (n:=58) hq3 (J.at hh7)) ⟨_,rfl,nofun,λ_=>aN (bd ?_)⟩);refine xp (k:=k+4) Y c (J.at he7) (B.gr J) λx s15 g15=>?_;refine B9 F λx ow s16 g16 hown=>?_;have g016:=J.trans (g15.trans g16);refine bC (w_and (bj (b_ (af (aG rfl (ao (p9 (k:=k+4) F (B.gr g016) λgi s17 g17 hgi=>?_)))))));have I:=g016.trans g17;refine aG rfl (w_eq (qz hgi (g17.at hown) (x9 _) (AU _)) ⟨_,rfl,λ_=>?_,nofun⟩);refine w_and (b_ (af (aG rfl (af (aG rfl (af (aG rfl (ao (u8 (k:=k) Y c (B.gr I) (I.at he7) (I.at hh7) λs18 g18=>⟨_,rfl,λ_=>?_,nofun⟩)))))))));have g018:=I.trans g18;have f18:=(B.gr g018);have f18':=f18;obtain⟨_,_,_,f2,_⟩:=f18';exact bj (cQ (aG rfl (DV f2 rfl (ao (uY (k:=k+3) F f18 λs19 g19=>aG rfl (w_eq (xz G).eq (bD (h s19))))))))
end
end K23
namespace K23
noncomputable def top(i:Nat):Stmt:=PySem.Challenge.pw_eachstepsame_k23_rulers_and_ways.main.body.getD i (.Pass ⟨0,0,0,0⟩)
def meth(i j:Nat):Stmt:=match top i with| .ClassDef _ _ _ body _ _ _ _ _ _ _=>body.getD j (.Pass ⟨0,0,0,0⟩)|s=>s
noncomputable def names:List Str:=(["image","images","edge_image","gone_through","turned","nearest_rulers","common_ruler","followers","ways_of","reached","rulers","given_in","closed_up","_law_mixed","_law_numbers","_law_take","_law_ends","_law_made_end","_law_made","_law_come","_law_told_end","_law_closed_right","law"]:List Str)++([]:List Str)
noncomputable def csts:List (Str×D):=[]
def T:Tab:=⟨names,csts,true,[⟨"Row",["name","op","extra","operands"],[("told",24)]⟩,⟨"Jump",["edge"],[("edges",29),("moved",28),("told",27)]⟩,⟨"Branch",["test","yes","no"],[("edges",33),("moved",32),("told",31)]⟩,⟨"Raise",["fault"],[("edges",25),("moved",36),("told",35)]⟩,⟨"Risk",["op","extra","asked","edge","catches"],[("edges",40),("moved",39),("told",38)]⟩,⟨"Block",["params","rows","end"],[("given",43),("told",42)]⟩,⟨"Function",["takes","gives","kinds","kept_kinds","blocks"],[("kinds_of",47),("told",45),("with_blocks",46)]⟩],[("Row",23),("Jump",26),("Branch",30),("Raise",34),("Risk",37),("Block",41),("Function",44)]⟩
def R1(x:Str)(ps more:List Str)(i:Nat)(f:Fn):Rec:=⟨x,x,x,ps,ps++more,top i,f⟩
def R2(m q:Str)(ps more:List Str)(i j:Nat)(f:Fn):Rec:=⟨q,m,q,ps,ps++more,meth i j,f⟩
def bw:List Rec:=[R1 "image" ["operand","names"] [] 2 nq,R1 "images" ["operands","names"] [] 3 kO,R1 "edge_image" ["edge","names","blocks"] [] 4 fu,R1 "gone_through" ["ways","begin","done"] ["order","pile","top","number","follower"] 14 eA,R1 "turned" ["ways"] ["back","number","followers","follower"] 15 kL,R1 "nearest_rulers" ["ways"] ["order","rank","back","leading","nearest","changed","place","ruler"] 16 dw,R1 "common_ruler" ["numbers","nearest","rank"] ["ruler","number","climbing"] 17 eE,R1 "followers" ["function","number"] [] 19 ge,R1 "ways_of" ["function"] [] 20 jd,R1 "reached" ["function"] [] 21 je,R1 "rulers" ["function"] ["found","ways","nearest","number","above"] 22 kM,R1 "given_in" ["function"] ["found","number","block","name"] 23 h_,R1 "closed_up" ["function"] ["left","numbers","kept","blocks"] 24 gf,R1 "_law_mixed" ["_law_cell","_law_k"] ["_law_number"] 27 fw,R1 "_law_numbers" ["_law_cells","_law_many"] ["_law_found","_law_cell","_law_left","_law_k"] 28 eF,R1 "_law_take" ["_law_left"] [] 29 gh,R1 "_law_ends" ["_law_left","_law_many"] ["_law_ends_here","_law_number","_law_way","_law_one","_law_other"] 30 gk,R1 "_law_made_end" ["_law_end"] [] 31 dR,R1 "_law_made" ["_law_ends_here"] ["_law_blocks","_law_kinds","_law_number","_law_end","_law_rows"] 32 gj,R1 "_law_come" ["_law_ends_here","_law_out"] ["_law_found","_law_left","_law_here"] 33 gm,R1 "_law_told_end" ["_law_end","_law_numbers_here"] ["_law_anew"] 34 dO,R1 "_law_closed_right" ["_law_function","_law_ends_here","_law_here"] ["_law_numbers_here","_law_number","_law_found","_law_kinds","_law_block","_law_old"] 35 cI,R1 "law" ["_law_script"] ["_law_left","_law_many","_law_ends_here","_law_function","_law_before","_law_here","_law_due","_law_number","_law_ruling","_law_found","_law_given"] 36 wE,R2 "__init__" "Row.__init__" ["self","name","op","extra","operands"] [] 5 0 ib,R2 "told" "Row.told" ["self"] [] 5 1 ia,R2 "edges" "End.edges" ["self"] [] 6 0 gu,R2 "__init__" "Jump.__init__" ["self","edge"] [] 7 0 gt,R2 "told" "Jump.told" ["self"] [] 7 1 gq,R2 "moved" "Jump.moved" ["self","names","blocks"] [] 7 2 fE,R2 "edges" "Jump.edges" ["self"] [] 7 3 fF,R2 "__init__" "Branch.__init__" ["self","test","yes","no"] [] 8 0 eX,R2 "told" "Branch.told" ["self"] [] 8 1 eW,R2 "moved" "Branch.moved" ["self","names","blocks"] ["yes"] 8 2 eG,R2 "edges" "Branch.edges" ["self"] [] 8 3 eI,R2 "__init__" "Raise.__init__" ["self","fault"] [] 9 0 fD,R2 "told" "Raise.told" ["self"] [] 9 1 fC,R2 "moved" "Raise.moved" ["self","names","blocks"] [] 9 2 eV,R2 "__init__" "Risk.__init__" ["self","op","extra","asked","edge","catches"] [] 10 0 gp,R2 "told" "Risk.told" ["self"] [] 10 1 gn,R2 "moved" "Risk.moved" ["self","names","blocks"] ["edge","catches"] 10 2 fA,R2 "edges" "Risk.edges" ["self"] [] 10 3 fB,R2 "__init__" "Block.__init__" ["self","params","rows","end"] [] 11 0 fH,R2 "told" "Block.told" ["self"] [] 11 1 fG,R2 "given" "Block.given" ["self"] [] 11 2 eY,R2 "__init__" "Function.__init__" ["self","takes","gives","kinds","blocks"] [] 12 0 dU,R2 "told" "Function.told" ["self"] ["kinds"] 12 1 dS,R2 "with_blocks" "Function.with_blocks" ["self","blocks"] ["names","block"] 12 4 cq,R2 "kinds_of" "Function.kinds_of" ["self","names"] [] 12 5 cJ]
noncomputable def ad:List Addr:=[28,33,40,398,403,408,415,420,425,432,437,444,449,463,470,477,484,491,498,505,510,517,522,54,61,89,131,138,145,152,178,185,192,199,232,239,246,265,272,277,282,315,320,325,353,358,379,384]
theorem chk:∀r∈bw,Chk T r:=by
 unfold bw
 repeat' refine List.forall_mem_cons.mpr ⟨⟨⟨rfl,rfl,rfl,by decide+kernel,rfl,by decide+kernel,by decide+kernel⟩,by decide+kernel,by kernel_rfl,rfl,by decide+kernel⟩,?_⟩
 exact λ_ h=>nomatch h
def DR(r:Rec)(us:List Value):Prop:=∀kV doc pm an cdv ct,bindArgs (PySem.W.fnOf r.fname r.qual (eP r.st) (dB r.st) (bR r.st) .none kV doc pm an cdv ct) ⟨us,[]⟩=pure (r.ps.zip us)
def BU(r:Rec):Nat->List Value->Prop
 |0,us=>DR r us
 |n+1,us=>∀a,BU r n (us++[a])
theorem zH{r:Rec}:∀(n:Nat)(us vs:List Value),vs.length=n->BU r n us->DR r (us++vs)
 |0,us,[],_,h=>by rw[List.append_nil];exact h
 |n+1,us,v::vs,hl,h=>by have:=zH n (us++[v]) vs (Nat.succ.inj hl) (h v);rwa [List.append_assoc] at this
theorem bv{r:Rec}(n:Nat)(I:r.ps.length=n)(h:BU r n []):BY r:=λkV c F U B ct us J=>zH n [] us (J.trans I) h kV c F U B ct
theorem a_:∀r∈bw,BY r:=by
 unfold bw
 repeat' refine List.forall_mem_cons.mpr ⟨by first|(refine bv 1 (by rfl) ?_;exact λ_ _ _ _ _ _ _=>rfl)|(refine bv 2 (by rfl) ?_;exact λ_ _ _ _ _ _ _ _=>rfl)|(refine bv 3 (by rfl) ?_;exact λ_ _ _ _ _ _ _ _ _=>rfl)|(refine bv 4 (by rfl) ?_;exact λ_ _ _ _ _ _ _ _ _ _=>rfl)|(refine bv 5 (by rfl) ?_;exact λ_ _ _ _ _ _ _ _ _ _ _=>rfl)|(refine bv 6 (by rfl) ?_;exact λ_ _ _ _ _ _ _ _ _ _ _ _=>rfl),?_⟩
 exact λ_ h=>nomatch h
end K23
end Ev
namespace Ev.K23
open PySem PySem.Spec PyProof.Rows L2
theorem Fg(P:Params):lT (Op.K P) T bw ad=true:=by kernel_rfl
theorem Ff(P:Params):(bw.zip ad).map (λp=>(Op.K P).lookup p.2)=(bw.zip ad).map λp=>BW p.1 ((Op.K P).lookup p.2):=by kernel_rfl
theorem Fz(P:Params):yx (Op.K P) T=true:=by kernel_rfl
theorem Al(ns:List Int)(c:ns.length<=63):∃st',calls (bw.map (·.fn)) 7 22 [.fl (ns.map .int)] []=.ok (.v (.bl true)) st':=by
 obtain⟨a,st',e,h⟩:=W.get (CB (k:=0) (st:=[]) (ns:=ns) (Q:=λd _=>d=.bl true) c λ_=>rfl);cases a with
 |v d=>have h:d=.bl true:=h;subst h;exact⟨st',e⟩
 |x n=>exact h.elim
end Ev.K23
open PySem PySem.W PyProof.Rows
set_option maxRecDepth 100000 in
set_option maxHeartbeats 0 in
theorem PySem.Challenge.cw_eachstepsame_k23_rulers_and_ways_holds : PySem.Challenge.rw_eachstepsame_k23_rulers_and_ways.Holds := by
 w_on;o_law
 refine holds_open (q:=Op.q) (loose:=[]) (Xt:=Op.Xt) (XP:=XL Op.q []) (Yf:=Op.hk.obs) (Ya:=Op.hk.val) (YP:=Op.hk.says) (N:=7280) Op.left (Hook.of Op.hk) (Hook.keeps Op.hk) (λs e=>xl_of s (Bool.and_eq_true_iff.mp e).1) XL.keeps (by rfl) (by rfl) (by rfl) (λs e=>recFacts_of (Bool.and_eq_true_iff.mp e).2) (by rfl) (by first|assumption|decide+kernel) (by decide+kernel) ⟨rfl,rfl,rfl,rfl,rfl,by decide+kernel⟩ ?hw ?hc
 case hw=>w_witness2
 refine Ev.walk (l:=PySem.Challenge.rw_eachstepsame_k23_rulers_and_ways) (n:=2*7) (x:= "_law_script") rfl rfl ⟨rfl,by decide,by decide⟩ (λw h Y=>PySem.W.kIn_of (K:=Op.K) (as:=Op.as) (e:=Op.keys) Y) ?F
 case F=>
  intro w mg fa h KX G hmg;exact Ev.yl (n:=7) (li:=22) (a:=522) (r:=Ev.K23.bw[22]) KX G hmg Ev.K23.a_ (Ev.K23.Fg _) (Ev.K23.Ff _) (Ev.tJ KX G Ev.K23.chk rfl Ev.K23.a_ (Ev.K23.Fg _) (Ev.K23.Ff _) (by decide) (Ev.K23.Fz _) rfl) rfl rfl (by kernel_rfl) rfl Ev.K23.Al
